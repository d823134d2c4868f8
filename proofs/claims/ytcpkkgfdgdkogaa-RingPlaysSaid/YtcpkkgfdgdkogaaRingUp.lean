/-
  Layer 10: which deed; a ring of a call's own beside what was handed in; the head of its laws.
-/
import Derived.Test.YtcpkkgfdgdkogaaRingInt
import Derived.Test.YtcpkkgfdgdkogaaRingStr
import Derived.Test.YtcpkkgfdgdkogaaEqlCode
import Derived.Deep.SlicePairs
import Derived.Deep.Strs
namespace Go.Proofs.Ytcpkkgfdgdkogaa
open Go.ChangeShapes Go.WideShapes Go.ChangeAt Go.RowKit Go.Deep
set_option linter.unusedVariables false

theorem ret_i64 {a b : Int} (h : a = b) : Ending.returned (.int .i64 a) = .returned (.int .i64 b) := by rw [h]
/-- Which deed it is. -/
def pickN (c : Int) : Nat := (if c < 0 then (-(c + 1)) % 4 else c % 4).toNat
theorem pickN_lt (c : Int) : pickN c < 4 := by
  unfold pickN
  split <;> omega
theorem pick_walk (w : World) (c : Int) (h0 : -9223372036854775808 ≤ c) (h1 : c ≤ 9223372036854775807) :
    Calls Try.prog 7 #[.int .i64 c, .int .i64 4] w fun e w' => e = .returned (.int .i64 (pickN c : Nat)) ∧ w' = w := by
  by_cases hc : c < 0
  · have e : ((pickN c : Nat) : Int) = (-(c + 1)) % 4 := by unfold pickN; rw [if_pos hc]; omega
    rw [e]
    go_enter Try.func7, Try.ntmps7
    go_wp2_with fail
    go_ret
    exact ⟨ret_i64 (by have t := Int.tmod_eq_emod_of_nonneg (a := -(c + 1)) (b := 4) (by omega); rw [Int.neg_tmod] at t; omega), rfl⟩
  · have e : ((pickN c : Nat) : Int) = c % 4 := by unfold pickN; rw [if_neg hc]; omega
    rw [e]
    go_enter Try.func7, Try.ntmps7
    go_wp2_with fail
    go_ret
    exact ⟨ret_i64 (by omega), rfl⟩

/-- A ring of the call's own; what was there is as it was. -/
def Or {α : Type} (st e : TypeId) (enc : α → Value) (W w : World) (F : Nat → Prop) (a r : Nat) (q : List α) : Prop := Rn st e enc w F a r q ∧ (∀ g, F g → W.heap.size ≤ g) ∧ Below W.heap.size W w
section
variable {α : Type} {st e : TypeId} {enc : α → Value} {W w w' : World} {F F' : Nat → Prop} {a r : Nat} {q q' : List α}
theorem Or.still (h : Or st e enc W w F a r q) (b : Below w.heap.size w w') : Or st e enc W w' F a r q := ⟨h.1.still b, h.2.1, h.2.2.trans (b.mono h.2.2.size)⟩
theorem Or.drewN (h : Or st e enc W w F a r q) (n : Nat) : Or st e enc W (w.drewN n) F a r q := h.still (below_drewN w n)
theorem Or.turn (h : Or st e enc W w F a r q) (hr : Rn st e enc w' F' a r q') (hm : Mv8 w F w' F') : Or st e enc W w' F' a r q' :=
  ⟨hr, fun g hg => by
    rcases hm.own g hg with e | e
    · exact h.2.1 g e
    · have := h.2.2.size; omega, h.2.2.trans (hm.keeps.below h.2.1 h.2.2.size)⟩
theorem Or.start (hr : Rn st e enc w' F a r q) (hF : ∀ g, F g → w.heap.size ≤ g) (hb : Below W.heap.size W w) (hb' : Below w.heap.size w w') : Or st e enc W w' F a r q :=
  ⟨hr, fun g hg => by have := hF g hg; have := hb.size; omega, hb.trans (hb'.mono hb.size)⟩
end
abbrev OrI (W w : World) (F : Nat → Prop) (a r : Nat) (q : List Int) : Prop := Or 48 3 encI W w F a r q
abbrev OrS (W w : World) (F : Nat → Prop) (a r : Nat) (q : List ByteArray) : Prop := Or 50 9 encS W w F a r q

set_option maxRecDepth 100000 in
theorem up_ring (w : World) : Calls Try.prog 5 #[] w (Holds w) := by
  have C0 := Lib.hid (newI w 1 (by omega) (by omega))
  have CB := Lib.hid (fun w => new_badS w 0 (.inl (by omega)))
  unfold errR at CB
  have eqc := eql_codes
  go_enter Try.func5, Try.ntmps5
  go_wp2_with fail
  refine C0.out.mono ?_
  rintro e w1 ⟨a, F, rfl, r1, b1, hF⟩
  have O1 : Hid (OrI w w1 F a 1 []) := Lib.hid (Or.start r1 hF (Below.refl _ _) b1)
  have C1 := Lib.hid (pushI r1 (by simp) 5)
  clear C0 r1 b1 hF
  go_wp2_with fail
  refine (CB.out _).mono ?_
  rintro e w2 ⟨rfl, rfl⟩
  clear CB
  go_wp2_with fail
  refine C1.out.mono ?_
  rintro e w3 ⟨rfl, F3, r3, m3⟩
  have O3 : Hid (OrI w w3 F3 a 1 [5]) := Lib.hid (O1.out.turn r3 m3)
  have C3 := Lib.hid (push_fullI r3 rfl 6)
  clear C1 O1 r3 m3
  go_wp2_with fail
  refine C3.out.mono ?_
  rintro e w4 ⟨rfl, n4, rfl⟩
  have O4 : Hid (OrI w (w3.drewN n4) F3 a 1 [5]) := Lib.hid (O3.out.drewN n4)
  have C4 := Lib.hid (popI O4.out.1)
  clear C3 O3
  go_wp2_with fail
  refine C4.out.mono ?_
  rintro e w5 ⟨rfl, r5, m5⟩
  have O5 : Hid (OrI w w5 F3 a 1 []) := Lib.hid (O4.out.turn r5 m5)
  have C5 := Lib.hid (lenI r5)
  clear C4 O4 r5 m5
  go_wp2_with fail
  refine C5.out.mono ?_
  rintro e w6 ⟨rfl, rfl⟩
  go_wp2_with fail
  go_ret
  exact ⟨rfl, O5.out.2.2⟩
end Go.Proofs.Ytcpkkgfdgdkogaa
