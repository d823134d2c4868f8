/-
  Layer 15 (sample): the document's own Thresholds and Keep.
-/
import Derived.Test.YtidpldnkpacobaaSampleKeep
import Derived.Deep.RegionHeld
namespace Go.Proofs.Ytidpldnkpacobaa
open Go.ChangeShapes Go.WideShapes Go.ChangeAt Go.RowKit Go.Deep
set_option linter.unusedVariables false

section
variable {w w' : World} {E : Nat → Prop} {A : Option Addr} {cap : Nat} {ls : List (List Int)}
set_option maxRecDepth 100000 in
set_option maxHeartbeats 1000000 in
theorem ref_keep (h : RdM w E A ls) (hl : ls.length ≤ 9223372036854775807) (c v : Int) (ht : thereB ls c v = true) (key : ByteArray) (hk : key.size ≤ 1000000) :
    Calls Try.prog 10 #[.slice A ls.length cap, .int .i64 c, .int .i64 v, .string key] w (Tells (.bool (keptAt (thr ls c v) key)) w) := by
  obtain ⟨hm, c0, c1, v0, v1⟩ := there_parts ht
  obtain ⟨l, t, hli, hj, hlev, _, et, t0, t1⟩ := there_row ht
  obtain ⟨k, rfl⟩ : ∃ k : Nat, c = k := ⟨c.toNat, by omega⟩
  obtain ⟨j, rfl⟩ : ∃ j : Nat, v = j := ⟨v.toNat, by omega⟩
  rw [Int.toNat_natCast] at hli hj
  obtain ⟨b, o, B, cc, rfl, _, p1, hq⟩ := h.at hli
  obtain ⟨bq, oq, rfl, p2, _⟩ := hq.at hj
  obtain ⟨n, hn⟩ : ∃ n, lev ls = n := ⟨_, rfl⟩
  rw [hlev, hn] at p1
  rw [hn] at v1
  have h8 := (may_parts hm).2.2.2.1
  rw [hn] at h8
  generalize ls.length = N at *
  have y1 : (k : Int) < N := by omega
  have y2 : (j : Int) < n := by omega
  obtain ⟨ck, w2, rk, rd, b2⟩ := str_row w.drew key hk
  have q1 : w2.cell? ⟨b, o + k, none⟩ = some (.slice (some ⟨bq, oq, none⟩) n cc) := by rw [b2.cell (World.block_lt_of_cell? w _ p1)]; exact p1
  have q2 : w2.cell? ⟨bq, oq + j, none⟩ = some (.int .i64 t) := by rw [b2.cell (World.block_lt_of_cell? w _ p2)]; exact p2
  have HQ := Lib.hid (And.intro q1 q2)
  have HH := refHash (some ⟨w.heap.size, 0, none⟩) (zsOf key) ck w2 (by rw [zs_len]; omega) (rds_ints rd) (zs_byte key)
  rw [zs_len] at HH
  have HH := Lib.hid HH
  obtain ⟨m0, m1⟩ := mixOf_bd (zsOf key)
  have HE : Hid (keptAt (thr ls k j) key = decide (t ≤ mixOf (zsOf key) % 65536)) := Lib.hid (by rw [et]; rfl)
  have HB : Hid (Below w.heap.size w w2) := Lib.hid ((bel_drewS (Below.refl _ _) 1).trans b2)
  have e9 : w.drew.heap.size = w.heap.size := rfl
  rw [e9] at rk
  have ZW : Hid (IntKind.i64.wrap ((mixOf (zsOf key)).tmod 65536) = mixOf (zsOf key) % 65536) := Lib.hid (by rw [Int.tmod_eq_emod_of_nonneg m0, IntKind.wrap_i64]; omega)
  clear h hq hli hj hlev et hm hn rd b2 q1 q2 ht e9
  go_enter Try.func10, Try.ntmps10
  go_wp2_with fail
  go_region_held (fun w' => w'.cell? ⟨b, o + k, none⟩ = some (.slice (some ⟨bq, oq, none⟩) n cc) ∧ w'.cell? ⟨bq, oq + j, none⟩ = some (.int .i64 t))
    (first | exact HQ.out | go_keep)
    (first | ((go_at_call 15; with_reducible refine HH.out.mono ?_); rintro e w3 ⟨rfl, rfl⟩))
  all_goals
    go_wp2_with fail
    go_ret
    exact ⟨ret_bool (by rw [HE.out]; first | rw [ZW.out] | (congr 1; rw [← ZW.out])), HB.out⟩
theorem may_no {ls : List (List Int)} {i : Nat} {l : List Int} (h : ls[i]? = some l) (hb : l.length = lev ls → 1 ≤ l.length → l.length ≤ 8 → ¬ refB l) : mayL ls = false := by
  cases e : mayL ls with
  | false => rfl
  | true =>
    obtain ⟨_, _, h3, h4, h5⟩ := may_parts e
    obtain ⟨h6, h7⟩ := h5 l (List.mem_of_getElem? h)
    exact absurd (rise_ref h7) (hb h6 (by omega) (by omega))
def goodR (n : Nat) (l : List Int) : Bool := decide (1 ≤ l.length) && decide (l.length ≤ 8) && goodC n l
theorem may_yes {ls : List (List Int)} (h1 : 1 ≤ ls.length) (h4 : ls.length ≤ 4) (h : ls.all (goodR (lev ls)) = true) : mayL ls = true := by
  rw [List.all_eq_true] at h
  have hg : ∀ l ∈ ls, 1 ≤ l.length ∧ l.length ≤ 8 ∧ goodC (lev ls) l = true := fun l hl => by
    have := h l hl
    unfold goodR at this
    simp only [Bool.and_eq_true, decide_eq_true_eq] at this
    exact ⟨this.1.1, this.1.2, this.2⟩
  obtain ⟨l0, hl0⟩ := at_some (l := ls) (i := 0) (by omega)
  have hlev : lev ls = l0.length := by unfold lev; rw [getD_some hl0]
  obtain ⟨g1, g2, _⟩ := hg l0 (List.mem_of_getElem? hl0)
  unfold mayL
  rw [decide_eq_true h1, decide_eq_true h4, decide_eq_true (by omega), decide_eq_true (by omega), List.all_eq_true.2 (fun l hl => (hg l hl).2.2)]
  rfl
theorem goodR_yes {n : Nat} {l : List Int} (h1 : 1 ≤ l.length) (h8 : l.length ≤ 8) (e : l.length = n) (h : refB l) : goodR n l = true := by
  unfold goodR goodC
  rw [decide_eq_true h1, decide_eq_true h8, decide_eq_true e, ref_rise h h1]
  rfl
set_option maxRecDepth 100000 in
set_option maxHeartbeats 1000000 in
theorem ref_thr (h : RdM w E A ls) (hl : ls.length ≤ 9223372036854775807) (hf : FitM ls) :
    Calls Try.prog 7 #[.slice A ls.length cap] w (Tells (.bool (mayL ls)) w) := by
  have HR := Lib.hid h
  have HF := Lib.hid hf
  obtain ⟨N, hN⟩ : ∃ N, ls.length = N := ⟨_, rfl⟩
  have HN := Lib.hid hN
  rw [hN] at hl ⊢
  by_cases h1 : 1 ≤ N
  case neg =>
    have HM : Hid (mayL ls = false) := Lib.hid (by unfold mayL; rw [HN.out, decide_eq_false h1]; simp)
    have y1 : (N : Int) < 1 := by omega
    clear h hf hN
    go_enter Try.func7, Try.ntmps7
    go_wp2_with fail
    go_ret
    exact ⟨ret_bool HM.out.symm, Below.refl _ _⟩
  by_cases h4 : N ≤ 4
  case neg =>
    have HM : Hid (mayL ls = false) := Lib.hid (by unfold mayL; rw [HN.out, decide_eq_false h4]; simp)
    have y1 : ¬ (N : Int) < 1 := by omega
    have y2 : (4 : Int) < N := by omega
    clear h hf hN
    go_enter Try.func7, Try.ntmps7
    go_wp2_with fail
    go_ret
    exact ⟨ret_bool HM.out.symm, Below.refl _ _⟩
  have y1 : ¬ (N : Int) < 1 := by omega
  have y2 : ¬ (4 : Int) < N := by omega
  have y3 : (0 : Int) < N := by omega
  obtain ⟨l0, hl0⟩ := at_some (l := ls) (i := 0) (by omega)
  obtain ⟨b, o, B, c, rfl, _, _, _⟩ := h.at hl0
  have HI0 := Lib.hid hl0
  have hlev : lev ls = l0.length := by unfold lev; rw [getD_some hl0]
  have hf0 := hf l0 (List.mem_of_getElem? hl0)
  obtain ⟨n, hn⟩ : ∃ n, l0.length = n := ⟨_, rfl⟩
  have HL0 := Lib.hid hn
  have HL : Hid (lev ls = n) := Lib.hid (hlev.trans hn)
  rw [hn] at hf0
  clear h hf hlev hl0 hN hn
  go_enter Try.func7, Try.ntmps7
  go_wp2_with fail
  clear y1 y2
  go_loopg [3, 4] N (fun g s3 s4 wx => ∃ i : Nat, i + g = N ∧ s3 = .int .i64 i ∧ Hid (AllG (goodR n) ls i ∧ Below w.heap.size w wx))
  case atStart => exact ⟨0, by omega, rfl, Lib.hid ⟨rfl, Below.refl _ _⟩⟩
  case round =>
    obtain ⟨i, hi, rfl, HG⟩ := hrel
    cases gk with
    | zero =>
      obtain rfl : i = N := by omega
      have HA := Lib.hid (HG.out.1.whole (by rw [HN.out]; exact Nat.le_refl _))
      have HM : Hid (mayL ls = true) := Lib.hid (may_yes (by rw [HN.out]; exact h1) (by rw [HN.out]; exact h4) (by rw [HL.out]; exact HA.out))
      go_wp2_with fail
      go_ret
      exact ⟨ret_bool HM.out.symm, HG.out.2⟩
    | succ g =>
      have x1 : (i : Int) < N := by omega
      obtain ⟨l, hli⟩ := at_some (l := ls) (i := i) (by rw [HN.out]; omega)
      obtain ⟨b', o', B2, c2, e, _, c1, hq⟩ := (HR.out.still HG.out.2).at hli
      cases e
      obtain ⟨b', o', B3, c3, e, _, c0, _⟩ := (HR.out.still HG.out.2).at HI0.out
      cases e
      rw [Nat.add_zero, HL0.out] at c0
      have HQ := Lib.hid hq
      have HI := Lib.hid hli
      have hfl := HF.out l (List.mem_of_getElem? hli)
      obtain ⟨m, hm⟩ : ∃ m, l.length = m := ⟨_, rfl⟩
      have HMM := Lib.hid hm
      rw [hm] at c1 hfl
      clear hq hli hm
      by_cases m1 : 1 ≤ m
      case neg =>
        have HM := Lib.hid (may_no HI.out (fun e9 e1 e8 => by have := HMM.out; omega))
        have y1 : (m : Int) < 1 := by omega
        go_wp2_with fail
        go_quiet (fail)
        go_wp2_with fail
        go_ret
        exact ⟨ret_bool HM.out.symm, bel_drewS HG.out.2 _⟩
      have Y4 : Hid (decide ((m : Int) < 1) = false) := Lib.hid (decide_eq_false (by omega))
      by_cases m8 : m ≤ 8
      case neg =>
        have HM := Lib.hid (may_no HI.out (fun e9 e1 e8 => by have := HMM.out; omega))
        have Y5 : Hid (decide ((8 : Int) < m) = true) := Lib.hid (decide_eq_true (by omega))
        go_wp2_with fail
        have y4 := Y4.out
        have y5 := Y5.out
        go_quiet (fail)
        go_wp2_with fail
        go_ret
        exact ⟨ret_bool HM.out.symm, bel_drewS HG.out.2 _⟩
      have Y5 : Hid (decide ((8 : Int) < m) = false) := Lib.hid (decide_eq_false (by omega))
      by_cases mn : m = n
      case neg =>
        have HM := Lib.hid (may_no HI.out (fun e9 e1 e8 => by have := HMM.out; have := HL.out; omega))
        have Y6 : Hid (((m : Int) == (n : Int)) = false) := Lib.hid (beq_eq_false_iff_ne.2 (by omega))
        go_wp2_with fail
        have y4 := Y4.out
        have y5 := Y5.out
        have y6 := Y6.out
        go_quiet (fail)
        go_wp2_with fail
        go_ret
        exact ⟨ret_bool HM.out.symm, bel_drewS HG.out.2 _⟩
      subst mn
      have Y6 : Hid (((m : Int) == (m : Int)) = true) := Lib.hid (by simp)
      obtain ⟨x, hx⟩ := at_some (l := l) (i := 0) (by rw [HMM.out]; omega)
      obtain ⟨bq, oq, rfl, p0, _⟩ := HQ.out.at hx
      rw [Nat.add_zero] at p0
      have HX := Lib.hid (getD_some (d := 0) hx)
      clear hx
      have x2 : (0 : Int) < m := by omega
      by_cases x0 : x = 0
      case neg =>
        have HM := Lib.hid (may_no HI.out (fun e9 e1 e8 e => by have := e.1; rw [HX.out] at this; exact x0 this))
        have y7 : (x == 0) = false := beq_eq_false_iff_ne.2 x0
        go_wp2_with fail
        have y4 := Y4.out
        have y5 := Y5.out
        have y6 := Y6.out
        go_quiet (fail)
        go_wp2_with fail
        go_ret
        exact ⟨ret_bool HM.out.symm, bel_drewS HG.out.2 _⟩
      subst x0
      go_wp2_with fail
      have y4 := Y4.out
      have y5 := Y5.out
      have y6 := Y6.out
      go_quiet (fail)
      clear y4 y5 y6
      go_wp2_with fail
      have B0 := Lib.hid (bel_drewS HG.out.2 nq)
      have HA := Lib.hid HG.out.1
      have HQ0 := Lib.hid (HQ.out.still (bel_drewS (Below.refl _ _) nq))
      clear p0 c0 x2 Y4 Y5 Y6
      obtain ⟨wr0, hw0⟩ : ∃ wr0, wr = wr0 := ⟨_, rfl⟩
      rw [hw0] at HQ c1 HQ0
      go_loopg [4] (m - 1) (fun g s4 wx => ∃ j : Nat, j + g = m ∧ 1 ≤ j ∧ s4 = .int .i64 j ∧ Hid (∀ t, t + 1 < j → l.getD t 0 ≤ l.getD (t + 1) 0 ∧ l.getD (t + 1) 0 ≤ 65536) ∧ Hid (Below w.heap.size w wx ∧ Below wr0.heap.size wr0 wx))
      case atStart => exact ⟨1, by omega, Nat.le_refl _, rfl, Lib.hid (fun t ht => by omega), Lib.hid ⟨B0.out, by rw [hw0]; exact bel_drewS (Below.refl _ _) _⟩⟩
      case round =>
        obtain ⟨j, hj, hj1, rfl, HU, HW⟩ := hrel
        have c1 := (HW.out.2.cell (World.block_lt_of_cell? wr0 _ c1)).trans c1
        cases gk with
        | zero =>
          obtain rfl : j = m := by omega
          have HB := Lib.hid (goodR_yes (n := j) (by rw [HMM.out]; exact m1) (by rw [HMM.out]; exact m8) HMM.out ⟨HX.out, fun t ht => HU.out t (by rw [← HMM.out]; exact ht)⟩)
          go_wp2_with fail
          go_roundg g
          case rel => exact ⟨i + 1, by omega, by go_num, Lib.hid ⟨HA.out.next HI.out HB.out, HW.out.1⟩⟩
          case measure => omega
        | succ g2 =>
          obtain ⟨q, hq1⟩ : ∃ q, j = q + 1 := ⟨j - 1, by omega⟩
          obtain ⟨y, hy⟩ := at_some (l := l) (i := j) (by rw [HMM.out]; omega)
          obtain ⟨x, hx⟩ := at_some (l := l) (i := q) (by rw [HMM.out]; omega)
          obtain ⟨b1, o1, e, p1, _⟩ := (HQ.out.still HW.out.2).at hy
          cases e
          obtain ⟨b1, o1, e, p2, _⟩ := (HQ.out.still HW.out.2).at hx
          cases e
          have HY := Lib.hid (getD_some (d := 0) hy)
          have HXX := Lib.hid (getD_some (d := 0) hx)
          have z1 : (j : Int) - 1 = (q : Int) := by omega
          have z5 : IntKind.i64.wrap (q : Int) = (q : Int) := by rw [IntKind.wrap_i64]; omega
          have z3 : (j : Int) < m := by omega
          have z4 : (q : Int) < m := by omega
          have HQ1 := Lib.hid hq1
          clear hy hx hq1
          by_cases hyx : y < x
          case pos =>
            have HM := Lib.hid (may_no HI.out (fun e9 e1 e8 e => by
              have := (e.2 q (by have := HQ1.out; rw [HMM.out]; omega)).1
              rw [HXX.out, ← HQ1.out, HY.out] at this
              omega))
            have Y1 : Hid (decide (y < x) = true) := Lib.hid (decide_eq_true hyx)
            clear hyx
            go_wp2_with fail
            have y1 := Y1.out
            go_quiet (fail)
            go_wp2_with fail
            go_ret
            exact ⟨ret_bool HM.out.symm, bel_drewS HW.out.1 _⟩
          have Y1 : Hid (decide (y < x) = false) := Lib.hid (decide_eq_false hyx)
          by_cases hy6 : y ≤ 65536
          case neg =>
            have HM := Lib.hid (may_no HI.out (fun e9 e1 e8 e => by
              have := (e.2 q (by have := HQ1.out; rw [HMM.out]; omega)).2
              rw [← HQ1.out, HY.out] at this
              omega))
            have Y2 : Hid (decide (65536 < y) = true) := Lib.hid (decide_eq_true (by omega))
            clear hyx hy6
            go_wp2_with fail
            have y1 := Y1.out
            have y2 := Y2.out
            go_quiet (fail)
            go_wp2_with fail
            go_ret
            exact ⟨ret_bool HM.out.symm, bel_drewS HW.out.1 _⟩
          have Y2 : Hid (decide (65536 < y) = false) := Lib.hid (decide_eq_false (by omega))
          have HU2 : Hid (∀ t, t + 1 < j + 1 → l.getD t 0 ≤ l.getD (t + 1) 0 ∧ l.getD (t + 1) 0 ≤ 65536) := Lib.hid (fun t ht => by
            by_cases e : t = q
            · rw [e, HXX.out, ← HQ1.out, HY.out]; omega
            · exact HU.out t (by have := HQ1.out; omega))
          clear hyx hy6
          go_wp2_with fail
          have y1 := Y1.out
          have y2 := Y2.out
          go_quiet (fail)
          go_wp2_with fail
          go_roundg g2
          case rel => exact ⟨j + 1, by omega, by omega, by go_num, HU2, Lib.hid ⟨bel_drewS HW.out.1 _, bel_drewS HW.out.2 _⟩⟩
          case measure => omega
end
end Go.Proofs.Ytidpldnkpacobaa
