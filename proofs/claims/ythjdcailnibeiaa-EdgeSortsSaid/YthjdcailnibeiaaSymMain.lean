/-
  The library's symMerge at float64, walked: two sorted ranges come to one.
-/
import Derived.Test.YthjdcailnibeiaaSymLast
namespace Go.Proofs.Ythjdcailnibeiaa
open Go.Shelf Go.RowKit Go.Lib Go.Sort
set_option linter.unusedVariables false

theorem above_mid {a m b t c : Nat} {d : Array UInt64} (hs1 : SortedIn ltF a m d) (hs2 : SortedIn ltF m b d) (h1 : a ≤ c) (h2 : t + m ≤ b + c) (hl : ltF d[t + m - 1 - c]! d[c]! = true) :
    ∀ x, c ≤ x → x < min m t → ltF d[t + m - 1 - x]! d[x]! = true := by
  intro x hx h3
  by_cases e : x = c
  · subst e; exact hl
  · have k1 := hs1 c x h1 (by omega) (by omega)
    have k2 := hs2 (t + m - 1 - x) (t + m - 1 - c) (by omega) (by omega) (by omega)
    unfold ltF ahead at *; simp at *; omega
theorem below_mid {a m b t c : Nat} {d : Array UInt64} (hs1 : SortedIn ltF a m d) (hs2 : SortedIn ltF m b d) (h1 : c < m) (h2 : c < t) (hl : ltF d[t + m - 1 - c]! d[c]! = false) :
    ∀ x, max a (t + m - b) ≤ x → x < c + 1 → ltF d[t + m - 1 - x]! d[x]! = false := by
  intro x hx h3
  by_cases e : x = c
  · subst e; exact hl
  · have k1 := hs1 x c (by omega) (by omega) (by omega)
    have k2 := hs2 (t + m - 1 - c) (t + m - 1 - x) (by omega) (by omega) (by omega)
    unfold ltF ahead at *; simp at *; omega

theorem Rot.none {s m e : Nat} {d : Array UInt64} (h : ¬ (s < m ∧ m < e)) (h1 : s ≤ m) (h2 : m ≤ e) : Rot s m e d d := by
  refine ⟨permIn_refl _ _ _, fun x => ?_⟩
  congr 1
  unfold rotIx
  repeat' split
  all_goals omega

/-- What a call of symMerge comes to. -/
def Merges (w0 : World) (blk off cap N : Nat) (d0 : Array UInt64) : Prop :=
  ∀ (a m b : Nat) (d : Array UInt64) (w : World), b - a ≤ N → a < m → m < b → b ≤ d.size → d0.size = d.size → SortedIn ltF a m d → SortedIn ltF m b d → SW encF w0 blk off d w →
    Calls Try.prog 36 #[.slice (some ⟨blk, off, none⟩) d.size cap, .int .i64 a, .int .i64 m, .int .i64 b, .func (.func 30) #[] #[]] w
      (SortsTo w0 blk off fun d' => PermIn a b d d' ∧ SortedIn ltF a b d')

set_option maxHeartbeats 8000000 in
set_option maxRecDepth 100000 in
theorem symMerge_main (blk off cap N a m b : Nat) (d0 d : Array UInt64) (w0 w : World) (R : Row1 encF w0 blk off d0) (IH : Merges w0 blk off cap N d0) (hs : d0.size = d.size) (S : SW encF w0 blk off d w)
    (hN : b - a ≤ N + 1) (ham : a + 1 < m) (hmb : m + 1 < b) (hb : b ≤ d.size) (hsz : d.size < 4611686018427387904) (hs1 : SortedIn ltF a m d) (hs2 : SortedIn ltF m b d) :
    Calls Try.prog 36 #[.slice (some ⟨blk, off, none⟩) d.size cap, .int .i64 a, .int .i64 m, .int .i64 b, .func (.func 30) #[] #[]] w
      (SortsTo w0 blk off fun d' => PermIn a b d d' ∧ SortedIn ltF a b d') := by
  have mixed := insLays.mixed
  have eg := enterCmp
  have HC : Aside _ := cmpF blk off d0.size w0
  have S0 : Aside (SW encF w0 blk off d w) := S
  have HS1 := Lib.hid hs1
  have HS2 := Lib.hid hs2
  have HIH := Lib.hid IH
  have RR : Aside _ := R
  clear S hs1 hs2 IH
  obtain ⟨l, hl⟩ : ∃ l, l = m - a := ⟨_, rfl⟩
  have zl : IntKind.i64.wrap ((m : Int) - (a : Int)) = (l : Int) := by rw [IntKind.wrap_i64]; omega
  have l1 : ((l : Int) == 1) = false := by simp; omega
  obtain ⟨l', hl'⟩ : ∃ l, l = b - m := ⟨_, rfl⟩
  have zl' : IntKind.i64.wrap ((b : Int) - (m : Int)) = (l' : Int) := by rw [IntKind.wrap_i64]; omega
  have l1' : ((l' : Int) == 1) = false := by simp; omega
  obtain ⟨t, ht⟩ : ∃ t, t = (a + b) / 2 := ⟨_, rfl⟩
  have et : ((a : Int) + (b : Int)) / 2 = (t : Int) := by omega
  obtain ⟨n, hn⟩ : ∃ n, n = t + m := ⟨_, rfl⟩
  have zn : IntKind.i64.wrap ((t : Int) + (m : Int)) = (n : Int) := by rw [IntKind.wrap_i64]; omega
  obtain ⟨p, hp⟩ : ∃ p, p + 1 = n := ⟨n - 1, by omega⟩
  have zp : IntKind.i64.wrap ((n : Int) - 1) = (p : Int) := by rw [IntKind.wrap_i64]; omega
  have ba : a ≤ d.size := by omega
  have bm : m ≤ d.size := by omega
  have HT := Lib.hid ht
  have HN := Lib.hid hn
  have HP := Lib.hid hp
  have HA := Lib.hid ham
  have HB := Lib.hid hmb
  have HNN := Lib.hid hN
  clear hl hl' ht hn hp ham hmb hN
  go_enter Try.func36, Try.ntmps36
  go_upto_if 140 with fail
  go_cut [20, 21] from 138 to 146 (fun v20 v21 wc => v20 = .int .i64 ((max a (t + m - b) : Nat) : Int) ∧ v21 = .int .i64 ((min m t : Nat) : Int) ∧ wc = w)
  case first =>
    by_cases hgt : t < m
    · have hgz : (t : Int) < (m : Int) := by omega
      obtain ⟨s0, hs0⟩ : ∃ s0, s0 = n - b := ⟨_, rfl⟩
      have zs : IntKind.i64.wrap ((n : Int) - (b : Int)) = (s0 : Int) := by have := HT.out; have := HN.out; have := HA.out; have := HB.out; rw [IntKind.wrap_i64]; omega
      have HS0 := Lib.hid hs0
      clear hs0
      go_wp2_with fail
      go_meet
      case rel =>
        have := HT.out; have := HN.out; have := HA.out; have := HB.out; have := HS0.out
        exact ⟨by congr 1; omega, by congr 1; omega, rfl⟩
    · have hgz : ¬ (t : Int) < (m : Int) := by omega
      go_wp2_with fail
      go_meet
      case rel =>
        have := HT.out; have := HN.out; have := HA.out; have := HB.out
        exact ⟨by congr 1; omega, by congr 1; omega, rfl⟩
  case rest =>
    obtain ⟨rfl, rfl, rfl⟩ := hcut
    obtain ⟨s0, hs0⟩ : ∃ s0, s0 = max a (t + m - b) := ⟨_, rfl⟩
    obtain ⟨r0, hr0⟩ : ∃ r0, r0 = min m t := ⟨_, rfl⟩
    have HS0 := Lib.hid hs0
    have HR0 := Lib.hid hr0
    rw [← hs0, ← hr0]
    clear hs0 hr0
    go_wp2
    go_loopg [20, 21] (b - a) (fun g vi vj wr => ∃ (s r : Nat), vi = .int .i64 s ∧ vj = .int .i64 r ∧ s0 ≤ s ∧ s ≤ r ∧ r ≤ r0 ∧ r - s ≤ g ∧ Aside (SW encF w0 blk off d wr) ∧
      Aside ((∀ c, s0 ≤ c → c < s → ltF d[t + m - 1 - c]! d[c]! = false) ∧ (∀ c, r ≤ c → c < r0 → ltF d[t + m - 1 - c]! d[c]! = true)))
    case atStart =>
      have := HT.out; have := HN.out; have := HA.out; have := HB.out; have := HS0.out; have := HR0.out
      exact ⟨s0, r0, rfl, rfl, Nat.le_refl _, by omega, Nat.le_refl _, by omega, S0, fun c h1 h2 => by omega, fun c h1 h2 => by omega⟩
    case round =>
      clear S0
      obtain ⟨s, r, rfl, rfl, hss, hsr, hrr, hg, SJ, T⟩ := hrel
      by_cases hlt : s < r
      · have hltz : (s : Int) < (r : Int) := by omega
        obtain ⟨c, hc⟩ : ∃ c, c = (s + r) / 2 := ⟨_, rfl⟩
        have eh : ((s : Int) + (r : Int)) / 2 = (c : Int) := by omega
        have k1 := HT.out
        have k2 := HN.out
        have k3 := HP.out
        have k4 := HA.out
        have k5 := HB.out
        have k6 := HS0.out
        have k7 := HR0.out
        obtain ⟨q, hq⟩ : ∃ q, q = t + m - 1 - c := ⟨_, rfl⟩
        have zq : IntKind.i64.wrap ((p : Int) - (c : Int)) = (q : Int) := by rw [IntKind.wrap_i64]; omega
        have br : r ≤ d.size := by omega
        have bc : (c : Int) < (d.size : Int) := by omega
        have bq : (q : Int) < (d.size : Int) := by omega
        obtain ⟨x, hx⟩ : ∃ x, x = d[q]! := ⟨_, rfl⟩
        obtain ⟨y, hy⟩ : ∃ x, x = d[c]! := ⟨_, rfl⟩
        have la := SJ.out.cl R (by omega) q (by omega)
        have lb := SJ.out.cl R (by omega) c (by omega)
        rw [← hx] at la
        rw [← hy] at lb
        have hcc := SJ.out.cmp HC.out (by omega) x y
        simp only [Array.append_empty] at hcc
        have hsc : s ≤ c := by omega
        have hcr : c < r := by omega
        have cm : c < m := by omega
        have ct : c < t := by omega
        have ac : a ≤ c := by omega
        have cb : t + m ≤ b + c := by omega
        rw [hq] at hx
        cases hlv : ltF x y with
        | true =>
          have hd : decide (cfF x y < 0) = true := decide_eq_true (cfF_neg hlv)
          have T1 := above_mid HS1.out HS2.out ac cb (hx ▸ hy ▸ hlv)
          rw [← k7] at T1
          have T1 := Lib.hid T1
          have HQ := Lib.hid hq
          clear hx hy hlv hc hq k1 k2 k3 k4 k5 k6 k7 cm ct ac cb
          go_wp2_with fail
          go_quiet_grown (first | (go_at_fn 30; refine Calls.grown_of (hcc _ _)))
          have S2 : Aside (SW encF w0 blk off d (grow (wr.drewN nq) osq)) := SJ.out.grown nq osq
          clear la lb hcc SJ
          generalize grow (wr.drewN nq) osq = w2 at S2 ⊢
          clear nq osq
          go_wp2
          go_roundg (gk - 1)
          case measure => omega
          case rel => exact ⟨s, c, rfl, rfl, by omega, by omega, by omega, by omega, S2, T.out.1, T1.out⟩
        | false =>
          have hd : decide (cfF x y < 0) = false := decide_eq_false (cfF_pos hlv)
          have T1 := below_mid (b := b) HS1.out HS2.out cm ct (hx ▸ hy ▸ hlv)
          rw [← k6] at T1
          have T1 := Lib.hid T1
          have HQ := Lib.hid hq
          clear hx hy hlv hc hq k1 k2 k3 k4 k5 k6 k7 cm ct ac cb
          go_wp2_with fail
          go_quiet_grown (first | (go_at_fn 30; refine Calls.grown_of (hcc _ _)))
          have S2 : Aside (SW encF w0 blk off d (grow (wr.drewN nq) osq)) := SJ.out.grown nq osq
          clear la lb hcc SJ
          generalize grow (wr.drewN nq) osq = w2 at S2 ⊢
          clear nq osq
          go_wp2
          go_roundg (gk - 1)
          case measure => omega
          case rel => exact ⟨c + 1, r, by go_num, rfl, by omega, by omega, by omega, by omega, S2, T1.out, T.out.2⟩
      · have hltz : ¬ (s : Int) < (r : Int) := by omega
        obtain rfl : s = r := by omega
        have F : Found a m b s d := by
          have k1 := HT.out; have k2 := HN.out; have k4 := HA.out; have k5 := HB.out; have k6 := HS0.out; have k7 := HR0.out
          have hT := T.out
          refine ⟨by omega, by omega, by omega, by omega, fun c h1 h2 h3 => ?_, fun c h1 h2 h3 => ?_⟩
          · rw [← k1]; exact hT.1 c (by omega) h3
          · rw [← k1]; exact hT.2 c h1 (by omega)
        obtain ⟨e, he⟩ : ∃ e, e = t + m - s := ⟨_, rfl⟩
        have sm : s ≤ m := F.le2
        have st : s ≤ t := by have := F.le3; have := HT.out; omega
        have hsa : a ≤ s := F.le1
        have te : t ≤ e := by omega
        have me : m ≤ e := by omega
        have eb : e ≤ b := by have := F.le4; have := HT.out; omega
        have ze : IntKind.i64.wrap ((n : Int) - (s : Int)) = (e : Int) := by have := HN.out; rw [IntKind.wrap_i64]; omega
        have at_ : a ≤ t := by omega
        have tb : t ≤ b := by omega
        have HH : Hid (∀ d1 : Array UInt64, Rot s m e d d1 → Halves a s t e b d1) := fun d1 h1 => by
          have k1 := HT.out; have k4 := HA.out; have k5 := HB.out
          have := F.halves (d1 := d1) (by omega) (by omega) HS1.out HS2.out (by rw [← k1, ← he]; exact h1.2)
          rw [← k1, ← he] at this
          exact this
        have HE := Lib.hid he
        have tlo : a < t := by have := HT.out; have := HA.out; have := HB.out; omega
        have thi : t < b := by have := HT.out; have := HA.out; have := HB.out; omega
        clear he T F hss hrr hg
        obtain ⟨B1, hB1⟩ : ∃ B : Bool, B = decide (s < m ∧ m < e) := ⟨_, rfl⟩
        have HB1 := Lib.hid hB1
        clear hB1
        go_upto_region 39 with fail
        go_cut [185] from 178 to 185 (fun v wc => v = .bool B1 ∧ wc = wr)
        case first =>
          by_cases k1 : s < m
          · have k1z : (s : Int) < (m : Int) := by omega
            by_cases k2 : m < e
            · have k2z : (m : Int) < (e : Int) := by omega
              go_wp2_with fail
              go_meet
              case rel => exact ⟨congrArg Value.bool (HB1.out.trans (decide_eq_true (p := s < m ∧ m < e) ⟨k1, k2⟩)).symm, rfl⟩
            · have k2z : ¬ (m : Int) < (e : Int) := by omega
              go_wp2_with fail
              go_meet
              case rel => exact ⟨congrArg Value.bool (HB1.out.trans (decide_eq_false (p := s < m ∧ m < e) (fun h => k2 h.2))).symm, rfl⟩
          · have k1z : ¬ (s : Int) < (m : Int) := by omega
            go_wp2_with fail
            go_meet
            case rel => exact ⟨congrArg Value.bool (HB1.out.trans (decide_eq_false (p := s < m ∧ m < e) (fun h => k1 h.1))).symm, rfl⟩
        case rest =>
          obtain ⟨rfl, rfl⟩ := hcut
          go_upto_if 185 with fail
          go_cut [] from 178 to 191 (fun wc => ∃ d1 : Array UInt64, d1.size = d.size ∧ Aside (Rot s m e d d1) ∧ Aside (SW encF w0 blk off d1 wc))
          case first =>
            cases B1
            case true =>
              have k : s < m ∧ m < e := of_decide_eq_true HB1.out.symm
              have C := Lib.hid (fun wx hx => rotate_walk blk off cap s m e (.func (.func 30) #[] #[]) d0 d w0 wx RR.out hs hx k.1 k.2 (by omega) hsz)
              clear k
              go_wp2_with ((go_at_call 38; refine (C.out _ SJ.out).mono ?_); rintro e1 w' ⟨rfl, d1, hR, hS⟩)
              go_meet
              case rel => exact ⟨d1, hR.1.1, hR, hS⟩
            case false =>
              have k : ¬ (s < m ∧ m < e) := of_decide_eq_false HB1.out.symm
              have hR := Lib.hid (Rot.none (d := d) k sm me)
              clear k
              go_wp2_with fail
              go_meet
              case rel => exact ⟨d, rfl, hR.out, SJ⟩
          case rest =>
            clear SJ
            obtain ⟨d1, hz1, hR, SJ⟩ := hcut
            have hH := Lib.hid (HH.out d1 hR.out)
            obtain ⟨B2, hB2⟩ : ∃ B : Bool, B = decide (a < s ∧ s < t) := ⟨_, rfl⟩
            have HB2 := Lib.hid hB2
            clear hB2
            go_upto_region 41 with fail
            go_cut [199] from 192 to 199 (fun v wx => v = .bool B2 ∧ wx = wc)
            case first =>
              by_cases k1 : a < s
              · have k1z : (a : Int) < (s : Int) := by omega
                by_cases k2 : s < t
                · have k2z : (s : Int) < (t : Int) := by omega
                  go_wp2_with fail
                  go_meet
                  case rel => exact ⟨congrArg Value.bool (HB2.out.trans (decide_eq_true (p := a < s ∧ s < t) ⟨k1, k2⟩)).symm, rfl⟩
                · have k2z : ¬ (s : Int) < (t : Int) := by omega
                  go_wp2_with fail
                  go_meet
                  case rel => exact ⟨congrArg Value.bool (HB2.out.trans (decide_eq_false (p := a < s ∧ s < t) (fun h => k2 h.2))).symm, rfl⟩
              · have k1z : ¬ (a : Int) < (s : Int) := by omega
                go_wp2_with fail
                go_meet
                case rel => exact ⟨congrArg Value.bool (HB2.out.trans (decide_eq_false (p := a < s ∧ s < t) (fun h => k1 h.1))).symm, rfl⟩
            case rest =>
              obtain ⟨rfl, rfl⟩ := hcut
              go_upto_if 199 with fail
              go_cut [] from 192 to 205 (fun wx => ∃ d2 : Array UInt64, d2.size = d.size ∧ Aside (PermIn a b d d2 ∧ Halves a t t e b d2) ∧ Aside (SW encF w0 blk off d2 wx))
              case first =>
                have hP1 := Lib.hid (permIn_mono d d1 s e a b hsa eb (by omega) hR.out.1)
                cases B2
                case true =>
                  have k : a < s ∧ s < t := of_decide_eq_true HB2.out.symm
                  have C := Lib.hid (fun wx hx => HIH.out a s t d1 wx (by have := HNN.out; omega) k.1 k.2 (by omega) (by omega) hH.out.s1 hH.out.s2 hx)
                  rw [hz1] at C
                  clear k
                  go_wp2_with ((go_at_call 36; refine (C.out _ SJ.out).mono ?_); rintro e1 w' ⟨rfl, d2, hR2, hS⟩)
                  go_meet
                  case rel =>
                    refine ⟨d2, by rw [hR2.1.1]; exact hz1, ⟨permIn_trans _ _ _ _ _ hP1.out (permIn_mono d1 d2 a t a b (Nat.le_refl _) tb (by omega) hR2.1), ?_⟩, hS⟩
                    exact hH.out.left hR2.1 hR2.2 at_ tb te (by omega)
                case false =>
                  have k : ¬ (a < s ∧ s < t) := of_decide_eq_false HB2.out.symm
                  have hJ := Lib.hid (sorted_join hH.out.s1 hH.out.s2 k hsa st)
                  clear k
                  go_wp2_with fail
                  go_meet
                  case rel =>
                    refine ⟨d1, hz1, ⟨hP1.out, ?_⟩, SJ⟩
                    exact hH.out.left (permIn_refl _ _ _) hJ.out at_ tb te (by omega)
              case rest =>
                clear SJ hH hR hz1 d1
                obtain ⟨d2, hz2, hR, SJ⟩ := hcut
                obtain ⟨B3, hB3⟩ : ∃ B : Bool, B = decide (t < e ∧ e < b) := ⟨_, rfl⟩
                have HB3 := Lib.hid hB3
                clear hB3
                go_upto_region 43 with fail
                go_cut [213] from 206 to 213 (fun v wx => v = .bool B3 ∧ wx = wc)
                case first =>
                  by_cases k1 : t < e
                  · have k1z : (t : Int) < (e : Int) := by omega
                    by_cases k2 : e < b
                    · have k2z : (e : Int) < (b : Int) := by omega
                      go_wp2_with fail
                      go_meet
                      case rel => exact ⟨congrArg Value.bool (HB3.out.trans (decide_eq_true (p := t < e ∧ e < b) ⟨k1, k2⟩)).symm, rfl⟩
                    · have k2z : ¬ (e : Int) < (b : Int) := by omega
                      go_wp2_with fail
                      go_meet
                      case rel => exact ⟨congrArg Value.bool (HB3.out.trans (decide_eq_false (p := t < e ∧ e < b) (fun h => k2 h.2))).symm, rfl⟩
                  · have k1z : ¬ (t : Int) < (e : Int) := by omega
                    go_wp2_with fail
                    go_meet
                    case rel => exact ⟨congrArg Value.bool (HB3.out.trans (decide_eq_false (p := t < e ∧ e < b) (fun h => k1 h.1))).symm, rfl⟩
                case rest =>
                  obtain ⟨rfl, rfl⟩ := hcut
                  cases B3
                  case true =>
                    have k : t < e ∧ e < b := of_decide_eq_true HB3.out.symm
                    have C := Lib.hid (fun wx hx => HIH.out t e b d2 wx (by have := HNN.out; omega) k.1 k.2 (by omega) (by omega) hR.out.2.s3 hR.out.2.s4 hx)
                    rw [hz2] at C
                    clear k
                    go_wp2_with ((go_at_call 36; refine (C.out _ SJ.out).mono ?_); rintro e1 w' ⟨rfl, d3, hR3, hS⟩)
                    go_end0
                    refine ⟨rfl, d3, ⟨permIn_trans _ _ _ _ _ hR.out.1 (permIn_mono d2 d3 t b a b at_ (Nat.le_refl _) (by omega) hR3.1), ?_⟩, hS⟩
                    exact hR.out.2.right hR3.1 hR3.2 at_ tb (by omega)
                  case false =>
                    have k : ¬ (t < e ∧ e < b) := of_decide_eq_false HB3.out.symm
                    have hJ := Lib.hid (sorted_join hR.out.2.s3 hR.out.2.s4 k te eb)
                    clear k
                    go_wp2_with fail
                    go_end0
                    refine ⟨rfl, d2, ⟨hR.out.1, ?_⟩, SJ.out⟩
                    exact hR.out.2.right (permIn_refl _ _ _) hJ.out at_ tb (by omega)

theorem symMerge_walk (blk off cap : Nat) (d0 : Array UInt64) (w0 : World) (R : Row1 encF w0 blk off d0) (hsz : d0.size < 4611686018427387904) : ∀ N, Merges w0 blk off cap N d0
  | 0 => fun a m b d w h1 h2 h3 => by omega
  | N + 1 => fun a m b d w h1 h2 h3 hb hs s1 s2 S => by
    by_cases k1 : a + 1 = m
    · subst k1
      exact symMerge_first blk off cap a b d0 d w0 w R hs S h3 hb (by omega) s2
    · by_cases k2 : m + 1 = b
      · subst k2
        exact symMerge_last blk off cap a m d0 d w0 w R hs S (by omega) hb (by omega) s1
      · exact symMerge_main blk off cap N a m b d0 d w0 w R (symMerge_walk blk off cap d0 w0 R hsz N) hs S h1 (by omega) (by omega) hb (by omega) s1 s2
end Go.Proofs.Ythjdcailnibeiaa
