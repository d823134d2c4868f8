/-
  The library's symMerge at float64, walked where the second of the two ranges has one element.
-/
import Derived.Test.YthjdcailnibeiaaSymOne
namespace Go.Proofs.Ythjdcailnibeiaa
open Go.Shelf Go.RowKit Go.Lib Go.Sort
set_option linter.unusedVariables false

set_option maxHeartbeats 4000000 in
set_option maxRecDepth 100000 in
theorem symMerge_last (blk off cap a m : Nat) (d0 d : Array UInt64) (w0 w : World) (R : Row1 encF w0 blk off d0) (hs : d0.size = d.size) (S : SW encF w0 blk off d w)
    (ham : a + 1 < m) (hb : m + 1 ≤ d.size) (hsz : d.size < 4611686018427387904) (hsorted : SortedIn ltF a m d) :
    Calls Try.prog 36 #[.slice (some ⟨blk, off, none⟩) d.size cap, .int .i64 a, .int .i64 m, .int .i64 ((m + 1 : Nat) : Int), .func (.func 30) #[] #[]] w
      (SortsTo w0 blk off fun d' => PermIn a (m + 1) d d' ∧ SortedIn ltF a (m + 1) d') := by
  have mixed := insLays.mixed
  have hcl0 := R.hO.cells
  simp only [Value.cells] at hcl0
  have hst := R.hO.store Try.prog
  have eg := enterCmp
  have HC : Aside _ := cmpF blk off d0.size w0
  have S0 : Aside (SW encF w0 blk off d w) := S
  have HS := Lib.hid hsorted
  clear S hsorted
  obtain ⟨b, hbm⟩ : ∃ b, b = m + 1 := ⟨_, rfl⟩
  rw [← hbm] at hb ⊢
  obtain ⟨l, hl⟩ : ∃ l, l = m - a := ⟨_, rfl⟩
  have zl : IntKind.i64.wrap ((m : Int) - (a : Int)) = (l : Int) := by rw [IntKind.wrap_i64]; omega
  have l1 : ((l : Int) == 1) = false := by simp; omega
  have zm : IntKind.i64.wrap ((b : Int) - (m : Int)) = 1 := by rw [IntKind.wrap_i64]; omega
  have HM := Lib.hid hbm
  have HA := Lib.hid ham
  clear hbm hl ham
  go_enter Try.func36, Try.ntmps36
  go_wp2
  go_loopg [14, 15] (m - a) (fun g vi vj wr => ∃ (i j : Nat), vi = .int .i64 i ∧ vj = .int .i64 j ∧ a ≤ i ∧ i ≤ j ∧ j ≤ m ∧ j - i ≤ g ∧ Aside (SW encF w0 blk off d wr) ∧
    Aside ((∀ x, a ≤ x → x < i → ltF d[m]! d[x]! = false) ∧ (∀ x, j ≤ x → x < m → ltF d[m]! d[x]! = true)))
  case atStart =>
    have := HA.out
    exact ⟨a, m, rfl, rfl, Nat.le_refl _, by omega, Nat.le_refl _, by omega, S0, fun x h1 h2 => by omega, fun x h1 h2 => by omega⟩
  case round =>
    clear S0
    obtain ⟨i, j, rfl, rfl, hmi, hij, hjb, hg, SJ, T⟩ := hrel
    by_cases hlt : i < j
    · have hltz : (i : Int) < (j : Int) := by omega
      obtain ⟨h, hh⟩ : ∃ h, h = (i + j) / 2 := ⟨_, rfl⟩
      have eh : ((i : Int) + (j : Int)) / 2 = (h : Int) := by omega
      have hm := HM.out
      have bh : (h : Int) < (d.size : Int) := by omega
      have b2 : (m : Int) < (d.size : Int) := by omega
      obtain ⟨x, hx⟩ : ∃ x, x = d[m]! := ⟨_, rfl⟩
      obtain ⟨y, hy⟩ : ∃ x, x = d[h]! := ⟨_, rfl⟩
      have la := SJ.out.cl R (by omega) m (by omega)
      have lb := SJ.out.cl R (by omega) h (by omega)
      rw [← hx] at la
      rw [← hy] at lb
      have hc := SJ.out.cmp HC.out (by omega) x y
      simp only [Array.append_empty] at hc
      have hmh : a ≤ h := by omega
      have hhb : h < m := by omega
      have hih : i ≤ h := by omega
      have hhj : h < j := by omega
      clear hh hm
      cases hlv : ltF x y with
      | true =>
        have hd : decide (cfF x y < 0) = true := decide_eq_true (cfF_neg hlv)
        have T1 := Lib.hid (above_last HS.out hmh (hx ▸ hy ▸ hlv))
        clear hx hy hlv
        go_wp2_with fail
        go_quiet_grown (first | (go_at_fn 30; refine Calls.grown_of (hc _ _)))
        have S2 : Aside (SW encF w0 blk off d (grow (wr.drewN nq) osq)) := SJ.out.grown nq osq
        clear la lb hc SJ
        generalize grow (wr.drewN nq) osq = w2 at S2 ⊢
        clear nq osq
        go_wp2
        go_roundg (gk - 1)
        case measure => omega
        case rel => exact ⟨i, h, rfl, rfl, by omega, by omega, by omega, by omega, S2, T.out.1, T1.out⟩
      | false =>
        have hd : decide (cfF x y < 0) = false := decide_eq_false (cfF_pos hlv)
        have T1 := Lib.hid (below_last HS.out hhb (hx ▸ hy ▸ hlv))
        clear hx hy hlv
        go_wp2_with fail
        go_quiet_grown (first | (go_at_fn 30; refine Calls.grown_of (hc _ _)))
        have S2 : Aside (SW encF w0 blk off d (grow (wr.drewN nq) osq)) := SJ.out.grown nq osq
        clear la lb hc SJ
        generalize grow (wr.drewN nq) osq = w2 at S2 ⊢
        clear nq osq
        go_wp2
        go_roundg (gk - 1)
        case measure => omega
        case rel => exact ⟨h + 1, j, by go_num, rfl, by omega, by omega, by omega, by omega, S2, T1.out, T.out.2⟩
    · have hltz : ¬ (i : Int) < (j : Int) := by omega
      obtain rfl : i = j := by omega
      have HI := Lib.hid hmi
      clear hmi
      go_wp2
      go_loopg [17] (m - a) (fun g vk wr => ∃ (k : Nat) (dk : Array UInt64), vk = .int .i64 k ∧ i ≤ k ∧ k ≤ m ∧ k - i ≤ g ∧ dk.size = d.size ∧ Aside (SW encF w0 blk off dk wr) ∧ Aside (ShiftDown a k b m d dk))
      case atStart =>
        have := HI.out
        exact ⟨m, d, rfl, hjb, Nat.le_refl _, by omega, rfl, SJ, ShiftDown.start a b m d⟩
      case round =>
        clear SJ
        obtain ⟨k, dk, rfl, hak, hkp, hg2, hz, SK, SH⟩ := hrel
        by_cases hkl : i < k
        · have hklz : (i : Int) < (k : Int) := by omega
          have hm := HM.out
          have hi := HI.out
          obtain ⟨q, hq⟩ : ∃ q, q + 1 = k := ⟨k - 1, by omega⟩
          have eb : ((k : Int) - 1).toNat = q := by omega
          have pb : (0 : Int) ≤ (k : Int) - 1 := by omega
          have bb : (k : Int) - 1 < (d.size : Int) := by omega
          have rb : IntKind.i64.wrap ((k : Int) - 1) = (k : Int) - 1 := by rw [IntKind.wrap_i64]; omega
          have bk : (k : Int) < (d.size : Int) := by omega
          obtain ⟨x, hx⟩ : ∃ x, x = dk[k]! := ⟨_, rfl⟩
          obtain ⟨y, hy⟩ : ∃ x, x = dk[q]! := ⟨_, rfl⟩
          have S3 : Aside (SW encF w0 blk off (swp dk k q) ((wr.setCell ⟨blk, off + k, none⟩ (encF y)).setCell ⟨blk, off + q, none⟩ (encF x)).drew) := by rw [hx, hy]; exact SK.out.swapped R k q (by omega) (by omega)
          have c1 := SK.out.c1 R (by omega) k (by omega)
          have c2 := SK.out.c1 R (by omega) q (by omega)
          have f1 := SK.out.f1 R (by omega) k (by omega)
          have f2 := SK.out.f1 R (by omega) q (by omega)
          obtain ⟨u, c3⟩ := SK.out.c2 R (by omega) k q (by omega) (by omega) (encF y)
          rw [← hx] at c1
          rw [← hy] at c2
          have SH1 := SH.out
          rw [← hq] at SH1
          have SH2 := Lib.hid (SH1.step (by omega) (by omega) (by omega))
          rw [hq] at SH2
          have HQ := Lib.hid hq
          clear SK SH SH1 hx hy hq hm hi
          go_wp2_with fail
          go_big_region_o
          clear c1 c2 c3 f1 f2
          generalize ((wr.setCell ⟨blk, off + k, none⟩ (encF y)).setCell ⟨blk, off + q, none⟩ (encF x)).drew = w3 at S3 ⊢
          clear eb
          go_wp2
          go_roundg (gk - 1)
          case measure => omega
          case rel =>
            have := HQ.out
            exact ⟨q, _, by first | go_num | (congr 1; omega), by omega, by omega, by omega, by rw [size_swp]; exact hz, S3, SH2.out⟩
        · have hklz : ¬ (i : Int) < (k : Int) := by omega
          obtain rfl : k = i := by omega
          go_wp2
          go_end0
          have hm := HM.out
          have hi := HI.out
          have hT := T.out
          have hsrt := HS.out
          subst hm
          refine ⟨rfl, _, ⟨SH.out.perm, ?_⟩, SK.out⟩
          exact put_last (i := k) hsrt hi hjb hT.1 hT.2 (fun x h1 h2 => SH.out.high x h1 h2) SH.out.at_ (fun x h1 => SH.out.low x h1)
end Go.Proofs.Ythjdcailnibeiaa
