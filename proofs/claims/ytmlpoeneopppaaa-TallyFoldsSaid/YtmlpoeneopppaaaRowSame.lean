/-
  The document's own SameRow (layer 6's), at rows that are alike.
-/
import Derived.Test.YtmlpoeneopppaaaBatchMem
import Derived.Test.YtmlpoeneopppaaaKit
import Derived.Deep.LoopGhost
import Derived.Deep.QuietTactic
namespace Go.Proofs.Ytmlpoeneopppaaa
open Go.ChangeShapes Go.WideShapes Go.ChangeAt Go.RowKit
set_option linter.unusedVariables false

set_option maxHeartbeats 2000000 in
set_option maxRecDepth 100000 in
theorem sameRow (r : Rw) (B B' : Option Addr) (c c' : Nat) (w : World) (h1 : RdN w B c r.bks) (h2 : RdN w B' c' r.bks) (hl : r.bks.length ≤ 1000) :
    Calls Try.prog 6 #[rowVal r B c, rowVal r B' c'] w (Holds w) := by
  have H1 := Lib.hid ((h1.alloc (.cells #[.string r.key, .int .i64 r.kind, .int .u64 (r.many : Nat), .int .i64 r.sum, .int .i64 r.least, .int .i64 r.most, .bool r.over, .slice B r.bks.length c] 28)).alloc (.cells #[.string r.key, .int .i64 r.kind, .int .u64 (r.many : Nat), .int .i64 r.sum, .int .i64 r.least, .int .i64 r.most, .bool r.over, .slice B' r.bks.length c'] 28))
  have H2 := Lib.hid ((h2.alloc (.cells #[.string r.key, .int .i64 r.kind, .int .u64 (r.many : Nat), .int .i64 r.sum, .int .i64 r.least, .int .i64 r.most, .bool r.over, .slice B r.bks.length c] 28)).alloc (.cells #[.string r.key, .int .i64 r.kind, .int .u64 (r.many : Nat), .int .i64 r.sum, .int .i64 r.least, .int .i64 r.most, .bool r.over, .slice B' r.bks.length c'] 28))
  clear h1 h2
  unfold rowVal
  go_enter Try.func6, Try.ntmps6
  go_wp2
  go_loopg [5] (r.bks.length) (fun g s5 wx => ∃ (i n : Nat), i + g = r.bks.length ∧ s5 = .int .i64 i ∧ Hid (wx = ((w.alloc (.cells #[.string r.key, .int .i64 r.kind, .int .u64 (r.many : Nat), .int .i64 r.sum, .int .i64 r.least, .int .i64 r.most, .bool r.over, .slice B r.bks.length c] 28)).alloc (.cells #[.string r.key, .int .i64 r.kind, .int .u64 (r.many : Nat), .int .i64 r.sum, .int .i64 r.least, .int .i64 r.most, .bool r.over, .slice B' r.bks.length c'] 28)).drewN n))
  case atStart => exact ⟨0, 0, by omega, rfl, Lib.hid rfl⟩
  case round =>
    obtain ⟨i, n, hig, rfl, HW⟩ := hrel
    have hw := HW.out
    subst hw
    clear HW
    cases gk with
    | zero =>
      have e1 : decide ((i : Int) < (r.bks.length : Int)) = false := decide_eq_false (by omega)
      have e2 : decide (i < r.bks.length) = false := decide_eq_false (by omega)
      go_wp2
      go_ret
      exact ⟨rfl, below_of_grown (grown_drew (grown_alloc (grown_alloc (grown_refl _ _) _) _) _)⟩
    | succ g =>
      have hlt : i < r.bks.length := by omega
      have hltz : (i : Int) < (r.bks.length : Int) := by omega
      obtain ⟨x, hx⟩ : ∃ x, r.bks[i]? = some x := ⟨_, List.getElem?_eq_getElem hlt⟩
      obtain ⟨a1, rfl⟩ := H1.out.some_of (by omega)
      obtain ⟨a2, rfl⟩ := H2.out.some_of (by omega)
      have p0 := H1.out.rd a1 rfl i x hx
      have q0 := H2.out.rd a2 rfl i x hx
      clear hx
      go_wp2
      go_quiet (fail)
      go_wp2
      go_roundg g
      case rel => exact ⟨i + 1, _, by omega, by go_num, Lib.hid rfl⟩
      case measure => omega
end Go.Proofs.Ytmlpoeneopppaaa
