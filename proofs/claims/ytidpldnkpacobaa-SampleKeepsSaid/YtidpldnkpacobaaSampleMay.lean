/-
  Layer 15 (sample): whether they are thresholds; the threshold of a class and a level.
-/
import Derived.Test.YtidpldnkpacobaaSampleBase
namespace Go.Proofs.Ytidpldnkpacobaa
open Go.ChangeShapes Go.WideShapes Go.ChangeAt Go.RowKit Go.Deep
set_option linter.unusedVariables false

section
variable {α : Type} {l : List α} {f : α → Bool} {i : Nat} {r : α}
/-- All of the first i. -/
def AllG (f : α → Bool) (l : List α) (i : Nat) : Prop := (l.take i).all f = true
theorem AllG.start : AllG f l 0 := rfl
theorem AllG.next (h : AllG f l i) (hi : l[i]? = some r) (hb : f r = true) : AllG f l (i + 1) := by
  unfold AllG at h ⊢
  obtain ⟨hl, e⟩ := List.getElem?_eq_some_iff.1 hi
  rw [List.take_succ_eq_append_getElem hl, List.all_append, h, e]
  simp [hb]
theorem AllG.whole (h : AllG f l i) (hi : l.length ≤ i) : l.all f = true := by
  unfold AllG at h
  rwa [List.take_of_length_le hi] at h
theorem allG_no (hi : l[i]? = some r) (hb : f r = false) : l.all f = false := by
  rw [List.all_eq_false]; exact ⟨r, List.mem_of_getElem? hi, by rw [hb]; simp⟩
end
def FitM (ls : List (List Int)) : Prop := ∀ l ∈ ls, l.length ≤ 9223372036854775807
section
variable {w w' : World} {E : Nat → Prop} {A : Option Addr} {cap : Nat} {ls : List (List Int)}
set_option maxRecDepth 100000 in
set_option maxHeartbeats 1000000 in
theorem may_walk (h : RdM w E A ls) (hl : ls.length ≤ 9223372036854775807) (hf : FitM ls) :
    Calls Try.prog 8 #[.slice A ls.length cap] w (Tells (.bool (mayL ls)) w) := by
  have HR := Lib.hid h
  have HF := Lib.hid hf
  obtain ⟨N, hN⟩ : ∃ N, ls.length = N := ⟨_, rfl⟩
  have HN := Lib.hid hN
  rw [hN] at hl ⊢
  by_cases h1 : 1 ≤ N
  case neg =>
    have HM : Hid (mayL ls = false) := Lib.hid (by unfold mayL; rw [HN.out, decide_eq_false h1]; simp)
    have y1 : (N : Int) < 1 := by omega
    clear h hf hN
    go_enter Try.func8, Try.ntmps8
    go_wp2_with fail
    go_ret
    exact ⟨ret_bool HM.out.symm, Below.refl _ _⟩
  by_cases h4 : N ≤ 4
  case neg =>
    have HM : Hid (mayL ls = false) := Lib.hid (by unfold mayL; rw [HN.out, decide_eq_false h4]; simp)
    have y1 : ¬ (N : Int) < 1 := by omega
    have y2 : (4 : Int) < N := by omega
    clear h hf hN
    go_enter Try.func8, Try.ntmps8
    go_wp2_with fail
    go_ret
    exact ⟨ret_bool HM.out.symm, Below.refl _ _⟩
  have y1 : ¬ (N : Int) < 1 := by omega
  have y2 : ¬ (4 : Int) < N := by omega
  have y3 : (0 : Int) < N := by omega
  obtain ⟨l0, hl0⟩ := at_some (l := ls) (i := 0) (by omega)
  obtain ⟨b, o, B, c, rfl, _, c0, _⟩ := h.at hl0
  rw [Nat.add_zero] at c0
  have hlev : lev ls = l0.length := by unfold lev; rw [getD_some hl0]
  have hf0 := hf l0 (List.mem_of_getElem? hl0)
  obtain ⟨n, hn⟩ : ∃ n, l0.length = n := ⟨_, rfl⟩
  have HL : Hid (lev ls = n) := Lib.hid (hlev.trans hn)
  rw [hn] at c0 hf0
  clear h hf hlev hl0
  by_cases h5 : 1 ≤ n
  case neg =>
    have HM : Hid (mayL ls = false) := Lib.hid (by unfold mayL; rw [HL.out, decide_eq_false h5]; simp)
    have y4 : (n : Int) < 1 := by omega
    clear hN hn
    go_enter Try.func8, Try.ntmps8
    go_wp2_with fail
    go_ret
    exact ⟨ret_bool HM.out.symm, Below.refl _ _⟩
  by_cases h6 : n ≤ 8
  case neg =>
    have HM : Hid (mayL ls = false) := Lib.hid (by unfold mayL; rw [HL.out, decide_eq_false h6]; simp)
    have y4 : ¬ (n : Int) < 1 := by omega
    have y5 : (8 : Int) < n := by omega
    clear hN hn
    go_enter Try.func8, Try.ntmps8
    go_wp2_with fail
    go_ret
    exact ⟨ret_bool HM.out.symm, Below.refl _ _⟩
  have HM : Hid (mayL ls = ls.all (goodC n)) := Lib.hid (by unfold mayL; rw [HN.out, HL.out, decide_eq_true h1, decide_eq_true h4, decide_eq_true h5, decide_eq_true h6]; simp)
  have y4 : ¬ (n : Int) < 1 := by omega
  have y5 : ¬ (8 : Int) < n := by omega
  clear hN hn
  go_enter Try.func8, Try.ntmps8
  go_wp2_with fail
  clear y1 y2 y3 y4 y5 c0
  go_loopg [5, 26] N (fun g s5 s26 wx => ∃ i : Nat, i + g = N ∧ s26 = .int .i64 i ∧ Hid (AllG (goodC n) ls i ∧ Below w.heap.size w wx))
  case atStart => exact ⟨0, by omega, rfl, Lib.hid ⟨rfl, Below.refl _ _⟩⟩
  case round =>
    obtain ⟨i, hi, rfl, HG⟩ := hrel
    cases gk with
    | zero =>
      obtain rfl : i = N := by omega
      have HA := Lib.hid (HG.out.1.whole (by rw [HN.out]; exact Nat.le_refl _))
      go_wp2_with fail
      go_ret
      exact ⟨ret_bool (by rw [HM.out, HA.out]), HG.out.2⟩
    | succ g =>
      have x1 : (i : Int) < N := by omega
      obtain ⟨l, hli⟩ := at_some (l := ls) (i := i) (by rw [HN.out]; omega)
      obtain ⟨b', o', B2, c2, e, _, c1, hq⟩ := (HR.out.still HG.out.2).at hli
      cases e
      have HQ := Lib.hid hq
      have HI := Lib.hid hli
      have hfl := HF.out l (List.mem_of_getElem? hli)
      obtain ⟨m, hm⟩ : ∃ m, l.length = m := ⟨_, rfl⟩
      have HMM := Lib.hid hm
      clear hq hli
      by_cases he : m = n
      case neg =>
        have HB : Hid (goodC n l = false) := Lib.hid (by unfold goodC; rw [HMM.out, decide_eq_false he]; rfl)
        have y1 : ((m : Int) == (n : Int)) = false := beq_eq_false_iff_ne.2 (by omega)
        rw [hm] at c1 hfl
        clear hm
        go_wp2_with fail
        go_ret
        exact ⟨ret_bool (by rw [HM.out, allG_no HI.out HB.out]), HG.out.2⟩
      have HE : Hid (goodC n l = riseB l) := Lib.hid (by unfold goodC; rw [HMM.out, decide_eq_true he]; rfl)
      have C := Lib.hid (rises_walk HQ.out (by omega) hfl)
      rw [hm] at c1 hfl C
      subst he
      clear hm
      cases hr : riseB l with
      | false =>
        rw [hr] at C HE
        clear hr
        go_wp2_with fail
        refine C.out.mono ?_
        rintro e w1 ⟨rfl, b1⟩
        go_wp2_with fail
        go_ret
        exact ⟨ret_bool (by rw [HM.out, allG_no HI.out HE.out]), HG.out.2.trans (b1.mono HG.out.2.size)⟩
      | true =>
        rw [hr] at C HE
        clear hr
        go_wp2_with fail
        refine C.out.mono ?_
        rintro e w1 ⟨rfl, b1⟩
        have B1 := Lib.hid (HG.out.2.trans (b1.mono HG.out.2.size))
        clear b1
        go_wp2_with fail
        go_roundg g
        case rel => exact ⟨i + 1, by omega, by go_num, Lib.hid ⟨HG.out.1.next HI.out HE.out, B1.out⟩⟩
        case measure => omega
end
end Go.Proofs.Ytidpldnkpacobaa
