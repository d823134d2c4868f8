/-
  Layer 6: the head of its laws: the document's example, and nothing.
-/
import Derived.Test.YtcddgbllmobhdaaDoorWireRefPut
import Derived.Test.YtcddgbllmobhdaaDoorWireRead
import Derived.Test.YtcddgbllmobhdaaDoorWireEnd
import Derived.Test.YtcddgbllmobhdaaDoorErrIs
namespace Go.Proofs.YtcddgbllmobhdaaDoor
open Go.ChangeShapes Go.WideShapes Go.ChangeAt Go.RowKit
set_option linter.unusedVariables false

theorem Rdr.below {w w' : World} {b : Nat} {A : Option Addr} {cap : Nat} {l : List UInt8} {r : Rs} (h : Rdr w b A cap l r) (hb : Below w.heap.size w w') : Rdr w' b A cap l r :=
  ⟨by rw [hb.block _ h.lt]; exact h.blk, h.rd.below hb (Nat.le_refl _), h.ne, h.le⟩
theorem Mr.below {W w w' : World} {b : Nat} {A : Option Addr} {cap : Nat} {l : List UInt8} {r : Rs} (hb : Below W.heap.size W w) (hW : W.heap.size ≤ b) (h : Mr w b A cap l r w') : Below W.heap.size W w' :=
  ⟨h.grown.os.trans hb.os, h.grown.tape.trans hb.tape, h.grown.output.trans hb.output, Nat.le_trans hb.size h.grown.size, fun k hk => (h.grown.block k (Nat.lt_of_lt_of_le hk hb.size) (fun e => by have := Option.some.inj e; omega)).trans (hb.block k hk)⟩
theorem enc_one : enc (foldN (-1)) = [1] := by
  rw [show foldN (-1) = 1 by decide, enc_small (by omega)]; rfl
set_option maxRecDepth 100000 in
theorem up_wire (w : World) (hL : Laid w) : Calls Tryd.prog 6 #[] w (Holds w) := by
  have HL := Lib.hid hL
  have C0 := Lib.hid (wireRead w none 0 [] (RdS.nil w))
  clear hL
  go_enter Tryd.func6, Tryd.ntmps6
  go_wp2_with fail
  refine C0.out.mono ?_
  rintro e w1 ⟨rfl, b1, r1⟩
  have C1 := wireReadNumber w1 w.heap.size none 0 [] ⟨0, false⟩ r1 (by simp)
  unfold Nums at C1
  rw [show rsNum [] ⟨0, false⟩ = (0, ⟨0, true⟩) by unfold rsNum; simp only [List.drop_nil]; rw [dec_nil]; rfl] at C1
  have C1 := Lib.hid C1
  have B1 := Lib.hid b1
  clear b1 r1 C0
  go_wp2_with fail
  refine C1.out.mono ?_
  rintro e w2 ⟨rfl, m2⟩
  have B2 := Lib.hid (m2.below B1.out (Nat.le_refl _))
  have C2 := wireWhole none 0 [] (-1) w2 (RdS.nil w2) (by simp) (by omega) (by omega)
  rw [List.nil_append, enc_one] at C2
  have C2 := Lib.hid C2
  have R2 := Lib.hid m2.rdr
  clear m2 C1
  go_wp2_with fail
  refine C2.out.mono ?_
  rintro e w3 ⟨v3, rfl, o3, b3⟩
  obtain ⟨A3, c3, rfl, rd3⟩ := o3.rd
  have hcv : (convert 22 9 (.slice A3 1 c3)).run Tryd.prog w3 = .ok (.string ⟨#[1]⟩) w3 := rd_conv rd3
  have B3 := Lib.hid (B2.out.trans (b3.mono B2.out.size))
  have C3 := Lib.hid (wireEnd w3 w.heap.size none 0 [] ⟨0, true⟩ (R2.out.below b3) (by simp))
  clear o3 rd3 b3 C2
  go_wp2_with fail
  refine C3.out.mono ?_
  rintro e w4 ⟨N, rfl, hS, b4⟩
  have B4 := Lib.hid (B3.out.trans (b4.mono B3.out.size))
  have C4 := Lib.hid (isSpot N 0 2 w4 (HL.out.below B4.out) hS)
  clear hS b4 C3 hcv
  go_wp2_with fail
  refine C4.out.mono ?_
  rintro e w5 ⟨rfl, b5⟩
  have B5 := Lib.hid (B4.out.trans (b5.mono B4.out.size))
  clear b5
  go_wp2_with fail
  go_ret
  exact ⟨rfl, B5.out⟩
end Go.Proofs.YtcddgbllmobhdaaDoor
