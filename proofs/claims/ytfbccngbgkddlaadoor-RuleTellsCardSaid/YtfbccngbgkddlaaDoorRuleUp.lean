/-
  Layer 14 (rule): the head of its laws: the document's example.
-/
import Derived.Test.YtfbccngbgkddlaaDoorRuleClass
namespace Go.Proofs.YtfbccngbgkddlaaDoor
open Go.ChangeShapes Go.WideShapes Go.ChangeAt Go.RowKit
set_option linter.unusedVariables false

def cpuR : List Ru := [(⟨#[99, 112, 117]⟩, 0)]
theorem cls_up1 : clsV cpuR 2 ⟨#[99, 112, 117, 46, 120]⟩ = .tuple #[.int .i64 0, .nilIface] := by
  unfold clsV; rw [show mayR cpuR 2 = true by decide +kernel, show classOf cpuR 2 ⟨#[99, 112, 117, 46, 120]⟩ = 0 by decide +kernel]; rfl
theorem cls_up2 : clsV cpuR 2 ⟨#[109, 101, 109]⟩ = .tuple #[.int .i64 1, .nilIface] := by
  unfold clsV; rw [show mayR cpuR 2 = true by decide +kernel, show classOf cpuR 2 ⟨#[109, 101, 109]⟩ = 1 by decide +kernel]; rfl
theorem cls_up3 : clsV cpuR 0 ⟨#[109, 101, 109]⟩ = .tuple #[.int .i64 0, .iface 35 (.int .i64 1)] := by
  unfold clsV; rw [show mayR cpuR 0 = false by decide +kernel]; rfl
theorem fit_up : FitRu cpuR := fun p c h => by
  unfold cpuR at h
  simp only [List.mem_singleton, Prod.mk.injEq] at h
  obtain ⟨rfl, rfl⟩ := h
  exact ⟨by decide +kernel, by omega, by omega⟩
set_option maxHeartbeats 1000000 in
theorem up_rule (w : World) : Calls Tryd.prog 4 #[] w (Holds w) := by
  have CL := Lib.hid (fun (wx : World) (c : Int) (key : ByteArray) (hr : RdRu wx (some ⟨w.heap.size, 0, none⟩) cpuR) (hc : InZ c) => class_walk (some ⟨w.heap.size, 0, none⟩) 1 cpuR c key wx hr (by decide) fit_up hc)
  have R0 : Hid (RdRu (w.alloc (.cells #[.string ⟨#[99, 112, 117]⟩, .int .i64 0] 42)) (some ⟨w.heap.size, 0, none⟩) cpuR) := Lib.hid (by
    have hb := heap_alloc_new w (.cells #[.string ⟨#[99, 112, 117]⟩, .int .i64 0] 42)
    refine .inr ⟨w.heap.size, 0, rfl, fun i p c h => ?_⟩
    match i, h with
    | 0, h => cases h; exact ⟨cell_of_block hb, cell_of_block hb⟩
    | (i + 1), h => cases h)
  have B0 : Hid (Below w.heap.size w (w.alloc (.cells #[.string ⟨#[99, 112, 117]⟩, .int .i64 0] 42))) := Lib.hid ((Below.refl _ _).alloc (Nat.le_refl _) _)
  have he := eql_codes
  have C1 := Lib.hid (CL.out _ 2 ⟨#[99, 112, 117, 46, 120]⟩ R0.out ⟨by omega, by omega⟩)
  rw [cls_up1, show cpuR.length = 1 from rfl] at C1
  go_enter Tryd.func4, Tryd.ntmps4
  go_wp2_with fail
  refine C1.out.mono ?_
  rintro e w1 ⟨rfl, b1⟩
  have B1 := Lib.hid (B0.out.trans (b1.mono B0.out.size))
  have R1 := Lib.hid (R0.out.below b1)
  clear b1 C1 R0 B0
  have C2 := Lib.hid (CL.out _ 2 ⟨#[109, 101, 109]⟩ R1.out ⟨by omega, by omega⟩)
  rw [cls_up2, show cpuR.length = 1 from rfl] at C2
  go_wp2_with fail
  refine C2.out.mono ?_
  rintro e w2 ⟨rfl, b2⟩
  have B2 := Lib.hid (B1.out.trans (b2.mono B1.out.size))
  have R2 := Lib.hid (R1.out.below b2)
  clear b2 C2 R1 B1
  have C3 := Lib.hid (CL.out _ 0 ⟨#[109, 101, 109]⟩ R2.out ⟨by omega, by omega⟩)
  rw [cls_up3, show cpuR.length = 1 from rfl] at C3
  clear CL
  go_wp2_with fail
  refine C3.out.mono ?_
  rintro e w3 ⟨rfl, b3⟩
  have B3 := Lib.hid (B2.out.trans (b3.mono B2.out.size))
  clear b3 C3 R2 B2
  go_wp2_with fail
  go_ret
  exact ⟨rfl, B3.out⟩
end Go.Proofs.YtfbccngbgkddlaaDoor
