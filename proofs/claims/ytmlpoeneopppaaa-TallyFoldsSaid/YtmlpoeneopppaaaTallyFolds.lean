/-
  Layer 18: the law TallyFolds.
-/
import Derived.Test.YtmlpoeneopppaaaTallyUp
import Derived.Test.YtmlpoeneopppaaaRowSame
namespace Go.Proofs.Ytmlpoeneopppaaa
open Go.ChangeShapes Go.WideShapes Go.ChangeAt Go.RowKit
set_option linter.unusedVariables false

set_option maxRecDepth 100000 in
set_option maxHeartbeats 1000000 in
theorem folds_many (key : ByteArray) (kind : Int) (A : Option Addr) (cap n : Nat) (W : World) (hn : 200 < n) :
    Calls Try.prog 3 #[.string key, .int .i64 kind, .slice A n cap] W (Holds W) := by
  have CU := Lib.hid (up_tally W)
  have i3 : (200 : Int) < n := by omega
  clear hn
  go_enter Try.func3, Try.ntmps3
  go_wp2_with fail
  refine CU.out.mono ?_
  rintro e w1 ⟨rfl, b1⟩
  go_wp2_with fail
  go_ret
  exact ⟨rfl, b1⟩
set_option maxRecDepth 100000 in
set_option maxHeartbeats 1000000 in
theorem folds_walk (key : ByteArray) (hs : key.size ≤ 281474976710656) (kind : Int) (A : Option Addr) (cap : Nat) (l : List Int) (W : World) (hR : RdV W A cap l) (hz : ∀ x ∈ l, In64 x) (hl : l.length ≤ 200) :
    Calls Try.prog 3 #[.string key, .int .i64 kind, .slice A l.length cap] W (Holds W) := by
  have CU := Lib.hid (up_tally W)
  have CF := Lib.hid (fun w1 (b : Below W.heap.size W w1) => fold_walk w1 key hs kind A cap l (hR.below b) hz (by omega))
  have CR := Lib.hid (fun w1 (b : Below W.heap.size W w1) => refold_walk w1 key kind A cap l (hR.below b) hz (by omega))
  have LB : Hid ((foldR key kind l).bks.length ≤ 1000) := Lib.hid (by
    cases l with
    | nil => exact Nat.zero_le _
    | cons v l => have := (foldR_ok (key := key) (kind := kind) (l := l) (hz v (by simp)) (fun x hx => hz x (by simp [hx]))).len; omega)
  unfold Tells18 at CF CR
  generalize foldR key kind l = r at *
  have i3 : ¬ (200 : Int) < l.length := by omega
  clear hs hR hz hl
  generalize l.length = K at *
  go_enter Try.func3, Try.ntmps3
  go_wp2_with fail
  refine CU.out.mono ?_
  rintro e w1 ⟨rfl, b1⟩
  have C1 := Lib.hid (CF.out w1 b1)
  go_wp2_with fail
  refine C1.out.mono ?_
  rintro e w2 ⟨B, c, rfl, o2, b2⟩
  have B2 := Lib.hid (b1.trans (b2.mono b1.size))
  have C2 := Lib.hid (CR.out w2 B2.out)
  have O2 := Lib.hid o2
  clear C1 CF CU CR b1 b2 o2
  go_wp2_with fail
  refine C2.out.mono ?_
  rintro e w3 ⟨B', c', rfl, o3, b3⟩
  have C3 := Lib.hid (sameRow r B B' c c' w3 (O2.out.rd.below b3 (Nat.le_refl _)) o3.rd LB.out)
  have B3 := Lib.hid (B2.out.trans (b3.mono B2.out.size))
  clear C2 o3 b3 O2 B2
  go_wp2_with fail
  refine C3.out.mono ?_
  rintro e w4 ⟨rfl, b4⟩
  have B4 := Lib.hid (B3.out.trans (b4.mono B3.out.size))
  clear b4 C3 B3
  go_wp2_with fail
  go_ret
  exact ⟨rfl, B4.out⟩
end Go.Proofs.Ytmlpoeneopppaaa
