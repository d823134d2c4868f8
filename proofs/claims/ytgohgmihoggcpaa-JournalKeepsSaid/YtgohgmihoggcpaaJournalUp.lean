/-
  Layer 9: the head of its laws: the document's example, and a record.
-/
import Derived.Test.YtgohgmihoggcpaaJournalSteps
namespace Go.Proofs.Ytgohgmihoggcpaa
open Go.ChangeShapes Go.WideShapes Go.ChangeAt Go.RowKit
set_option linter.unusedVariables false

theorem conv_one (w : World) (x : Value) : (convert 32 32 (.slice (some ⟨w.heap.size, 0, none⟩) 1 1)).run Try.prog (w.alloc (.cells #[x] 5)) = .ok (.slice (some ⟨w.heap.size, 0, none⟩) 1 1) (w.alloc (.cells #[x] 5 (1, 2))) :=
  Lib.run_convert_bytes_const (P := Try.prog) w 32 5 #[x] 1 1 Try.underlying32 Try.underlying5
theorem one_row (w : World) (x : UInt8) : RdS (w.alloc (.cells #[.int .u8 x.toNat] 5 (1, 2))) (some ⟨w.heap.size, 0, none⟩) 1 [x] := by
  refine ⟨Nat.le_refl _, fun e => (by cases e), ?_⟩
  intro ad ha i c hc
  cases ha
  rw [Addr.add_lit, Nat.zero_add, cell_of_block (heap_alloc_new w _)]
  match i, hc with
  | 0, hc => cases hc; rfl
theorem encR_one : (encR [97]).length = 2 := by unfold encR; rw [show ([97] : List UInt8).length = 1 from rfl, enc_small (by omega)]; rfl
theorem up_app : opAppend 100 false [] 0 (encR [97]) = (0, [⟨0, encR [97], 0⟩]) := by
  unfold opAppend
  rw [if_neg (by simp), if_neg (by omega), if_neg (by rw [encR_one]; simp [used])]
  rfl
set_option maxRecDepth 100000 in
theorem up_journal (w : World) : Calls Try.prog 4 #[] w (Holds w) := by
  have C0 := Lib.hid (Own8.new (W := w) 100 (by omega) (by omega) (Below.refl _ w))
  have I0 : Hid (Inv 100 []) := Lib.hid (Inv.nil (by omega))
  have eqc := eql_codes
  have cs := conv_one
  go_enter Try.func4, Try.ntmps4
  go_wp2_with fail
  refine C0.out.mono ?_
  rintro e w1 ⟨a, rfl, O1, _⟩
  have C1 := Lib.hid (openJ (many := 2) (G := []) O1 I0.out (start_lst [] (by simp)).segs (by omega))
  clear C0 O1
  go_wp2_with fail
  refine C1.out.mono ?_
  rintro e w2 ⟨aj, rfl, J2⟩
  have K2 : Hid (Jn w w2 a aj 100 false [] 2 [] []) := Lib.hid J2
  have C2 := Lib.hid (openNil w2 2)
  unfold errV at C2
  clear C1 J2
  go_wp2_with fail
  refine C2.out.mono ?_
  rintro e w3 ⟨rfl, rfl⟩
  have hf0 : Hid (Fits [] []) := Lib.hid ⟨by simp, by simp, by simp⟩
  have C3 := Lib.hid (appendJ_full (N := 0) (b := [97]) (K2.out.still ((Below.refl _ _).alloc (Nat.le_refl _) (.cells #[.int .u8 97] 5 (1, 2)))) (by omega) (one_row w3 97) rfl rfl hf0.out I0.out (by simp) ⟨by simp, by simp⟩ rfl up_app)
  clear C2
  go_wp2_with fail
  refine C3.out.mono ?_
  rintro e w4 ⟨rfl, J4⟩
  obtain ⟨vp, vr, g⟩ := J4.jrg
  have hf : Hid (Fits [0] [[97]]) := Lib.hid ⟨by simp, by simp, by simp⟩
  have C4 := Lib.hid (recordJ (k := 0) (r := [97]) (n := 0) g hf.out rfl (by simp) rfl)
  have G := Lib.hid (fun (wx : World) (h : Below w4.heap.size w4 wx) => firstJ (g.still h))
  have H := Lib.hid (fun (wx : World) (h : Below w4.heap.size w4 wx) => nextJ (g.still h) hf.out)
  have B4 := Lib.hid J4.below
  clear C3 K2 J4 g
  go_wp2_with fail
  refine C4.out.mono ?_
  rintro e w5 ⟨A, cap, rfl, r5, b5⟩
  have hcv : ∀ m, (convert 32 9 (.slice A 1 cap)).run Try.prog (w5.drewN m) = .ok (.string ⟨#[97]⟩) (w5.drewN m) := fun m => rd_conv (r5.drew m)
  have CF : Hid (Calls Try.prog 10 #[.pointer (some ⟨aj, 0, none⟩)] w5 fun e w' => e = .returned (.int .i64 0) ∧ w' = w5) := Lib.hid (G.out w5 b5)
  have CN : Hid (Calls Try.prog 11 #[.pointer (some ⟨aj, 0, none⟩)] w5 fun e w' => e = .returned (.int .i64 1) ∧ ∃ m, w' = w5.drewN m) := Lib.hid (H.out w5 b5)
  have B5 := Lib.hid (B4.out.trans (b5.mono B4.out.size))
  clear C4 G H r5 b5
  go_wp2_with fail
  refine CF.out.mono ?_
  rintro e w6 ⟨rfl, rfl⟩
  go_wp2_with fail
  refine CN.out.mono ?_
  rintro e w7 ⟨rfl, m, rfl⟩
  go_wp2_with fail
  go_ret
  exact ⟨rfl, B5.out.trans ((below_drewN _ m).mono B5.out.size)⟩
end Go.Proofs.Ytgohgmihoggcpaa
