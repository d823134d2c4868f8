/-
  Layer 16 (level): may the document's gauge be?
-/
import Derived.Test.YtppffnfldgoknaaLevelMem
namespace Go.Proofs.Ytppffnfldgoknaa
open Go.ChangeShapes Go.WideShapes Go.ChangeAt Go.RowKit
set_option linter.unusedVariables false

section
variable {w w' : World} {a : Nat} {N low high hold m d : Int} {s : Ls}
set_option maxRecDepth 100000 in
set_option maxHeartbeats 1000000 in
theorem good_yes (h : Gr w a N low high hold s) (g : GoodL N low high hold) :
    Calls Try.prog 7 #[.pointer (some ⟨a, 0, none⟩)] w fun e w' => e = .returned (.bool true) ∧ ∃ n, w' = w.drewN n := by
  have c0 := h.c0
  have c1 := h.c1
  have c2 := h.c2
  have c3 := h.c3
  obtain ⟨n1, n8, l0, lh, hi1, o1, o2⟩ := g
  have y1 := Lib.hid (decide_eq_true (p := 1 ≤ N) n1)
  have y2 := Lib.hid (decide_eq_true (p := N ≤ 8) n8)
  have y3 := Lib.hid (decide_eq_true (p := 0 ≤ low) l0)
  have y4 := Lib.hid (decide_eq_true (p := low ≤ high) lh)
  have y5 := Lib.hid (decide_eq_true (p := high ≤ 1000) hi1)
  have y6 := Lib.hid (decide_eq_true (p := 1 ≤ hold) o1)
  have y7 := Lib.hid (decide_eq_true (p := hold ≤ 1000) o2)
  clear h n1 n8 l0 lh hi1 o1 o2
  go_enter Try.func7, Try.ntmps7
  go_wp2_with fail
  have y1 := y1.out
  have y2 := y2.out
  have y3 := y3.out
  have y4 := y4.out
  have y5 := y5.out
  have y6 := y6.out
  have y7 := y7.out
  go_quiet (fail)
  go_wp2_with fail
  go_ret
  exact ⟨rfl, _, rfl⟩
set_option maxRecDepth 100000 in
set_option maxHeartbeats 4000000 in
theorem good_no (h : Gr w a N low high hold s) (g : ¬ GoodL N low high hold) :
    Calls Try.prog 7 #[.pointer (some ⟨a, 0, none⟩)] w fun e w' => e = .returned (.bool false) ∧ ∃ n, w' = w.drewN n := by
  have c0 := h.c0
  have c1 := h.c1
  have c2 := h.c2
  have c3 := h.c3
  have g := not_good g
  clear h
  rcases g with x1 | ⟨x1, x2⟩ | ⟨x1, x2, x3⟩ | ⟨x1, x2, x3, x4⟩ | ⟨x1, x2, x3, x4, x5⟩ | ⟨x1, x2, x3, x4, x5, x6⟩ | ⟨x1, x2, x3, x4, x5, x6, x7⟩
  · have y1 := Lib.hid (decide_eq_false (p := 1 ≤ N) (by omega))
    clear x1
    go_enter Try.func7, Try.ntmps7
    go_wp2_with fail
    have y1 := y1.out
    go_quiet (fail)
    go_wp2_with fail
    go_ret
    exact ⟨rfl, _, rfl⟩
  · have y1 := Lib.hid (decide_eq_true (p := 1 ≤ N) (by omega))
    have y2 := Lib.hid (decide_eq_false (p := N ≤ 8) (by omega))
    clear x1 x2
    go_enter Try.func7, Try.ntmps7
    go_wp2_with fail
    have y1 := y1.out
    have y2 := y2.out
    go_quiet (fail)
    go_wp2_with fail
    go_ret
    exact ⟨rfl, _, rfl⟩
  · have y1 := Lib.hid (decide_eq_true (p := 1 ≤ N) (by omega))
    have y2 := Lib.hid (decide_eq_true (p := N ≤ 8) (by omega))
    have y3 := Lib.hid (decide_eq_false (p := 0 ≤ low) (by omega))
    clear x1 x2 x3
    go_enter Try.func7, Try.ntmps7
    go_wp2_with fail
    have y1 := y1.out
    have y2 := y2.out
    have y3 := y3.out
    go_quiet (fail)
    go_wp2_with fail
    go_ret
    exact ⟨rfl, _, rfl⟩
  · have y1 := Lib.hid (decide_eq_true (p := 1 ≤ N) (by omega))
    have y2 := Lib.hid (decide_eq_true (p := N ≤ 8) (by omega))
    have y3 := Lib.hid (decide_eq_true (p := 0 ≤ low) (by omega))
    have y4 := Lib.hid (decide_eq_false (p := low ≤ high) (by omega))
    clear x1 x2 x3 x4
    go_enter Try.func7, Try.ntmps7
    go_wp2_with fail
    have y1 := y1.out
    have y2 := y2.out
    have y3 := y3.out
    have y4 := y4.out
    go_quiet (fail)
    go_wp2_with fail
    go_ret
    exact ⟨rfl, _, rfl⟩
  · have y1 := Lib.hid (decide_eq_true (p := 1 ≤ N) (by omega))
    have y2 := Lib.hid (decide_eq_true (p := N ≤ 8) (by omega))
    have y3 := Lib.hid (decide_eq_true (p := 0 ≤ low) (by omega))
    have y4 := Lib.hid (decide_eq_true (p := low ≤ high) (by omega))
    have y5 := Lib.hid (decide_eq_false (p := high ≤ 1000) (by omega))
    clear x1 x2 x3 x4 x5
    go_enter Try.func7, Try.ntmps7
    go_wp2_with fail
    have y1 := y1.out
    have y2 := y2.out
    have y3 := y3.out
    have y4 := y4.out
    have y5 := y5.out
    go_quiet (fail)
    go_wp2_with fail
    go_ret
    exact ⟨rfl, _, rfl⟩
  · have y1 := Lib.hid (decide_eq_true (p := 1 ≤ N) (by omega))
    have y2 := Lib.hid (decide_eq_true (p := N ≤ 8) (by omega))
    have y3 := Lib.hid (decide_eq_true (p := 0 ≤ low) (by omega))
    have y4 := Lib.hid (decide_eq_true (p := low ≤ high) (by omega))
    have y5 := Lib.hid (decide_eq_true (p := high ≤ 1000) (by omega))
    have y6 := Lib.hid (decide_eq_false (p := 1 ≤ hold) (by omega))
    clear x1 x2 x3 x4 x5 x6
    go_enter Try.func7, Try.ntmps7
    go_wp2_with fail
    have y1 := y1.out
    have y2 := y2.out
    have y3 := y3.out
    have y4 := y4.out
    have y5 := y5.out
    have y6 := y6.out
    go_quiet (fail)
    go_wp2_with fail
    go_ret
    exact ⟨rfl, _, rfl⟩
  · have y1 := Lib.hid (decide_eq_true (p := 1 ≤ N) (by omega))
    have y2 := Lib.hid (decide_eq_true (p := N ≤ 8) (by omega))
    have y3 := Lib.hid (decide_eq_true (p := 0 ≤ low) (by omega))
    have y4 := Lib.hid (decide_eq_true (p := low ≤ high) (by omega))
    have y5 := Lib.hid (decide_eq_true (p := high ≤ 1000) (by omega))
    have y6 := Lib.hid (decide_eq_true (p := 1 ≤ hold) (by omega))
    have y7 := Lib.hid (decide_eq_false (p := hold ≤ 1000) (by omega))
    clear x1 x2 x3 x4 x5 x6 x7
    go_enter Try.func7, Try.ntmps7
    go_wp2_with fail
    have y1 := y1.out
    have y2 := y2.out
    have y3 := y3.out
    have y4 := y4.out
    have y5 := y5.out
    have y6 := y6.out
    have y7 := y7.out
    go_quiet (fail)
    go_wp2_with fail
    go_ret
    exact ⟨rfl, _, rfl⟩
end
end Go.Proofs.Ytppffnfldgoknaa
