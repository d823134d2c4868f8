/-
  Layer 18: the document's example, at the head of its laws.
-/
import Derived.Test.YtmlpoeneopppaaaTallyRefFold
namespace Go.Proofs.Ytmlpoeneopppaaa
open Go.ChangeShapes Go.WideShapes Go.ChangeAt Go.RowKit
set_option linter.unusedVariables false

theorem fold_013 : foldR ⟨#[97]⟩ 3 [0, 1, 3] = ⟨⟨#[97]⟩, 3, 3, 4, 0, 3, false, [1, 1, 1]⟩ := by kernel_rfl
theorem bkt_m5 : bkt (-5) = 0 := bkt_neg (by decide)
set_option maxRecDepth 100000 in
set_option maxHeartbeats 1000000 in
theorem up_tally (w : World) : Calls Try.prog 5 #[] w (Holds w) := by
  have r0 : RdV (w.alloc (.cells #[.int .i64 0, .int .i64 1, .int .i64 3] 2)) (some ⟨w.heap.size, 0, none⟩) 3 [0, 1, 3] := ⟨by simp, (fun e => by cases e), fun ad ha i x hx => by
    cases ha
    rw [Addr.add_lit, Nat.zero_add, cell_of_block (heap_alloc_new w _)]
    match i, hx with
    | 0, hx => cases hx; rfl
    | 1, hx => cases hx; rfl
    | 2, hx => cases hx; rfl⟩
  have CF := Lib.hid (fold_walk (w.alloc (.cells #[.int .i64 0, .int .i64 1, .int .i64 3] 2)) ⟨#[97]⟩ (by decide) 3 (some ⟨w.heap.size, 0, none⟩) 3 [0, 1, 3] r0 (fun x hx => by
    simp at hx
    rcases hx with rfl | rfl | rfl <;> exact ⟨by decide, by decide⟩) (by decide))
  have CB := Lib.hid (fun w => bucket_walk w (v := -5) ⟨by decide, by decide⟩)
  rw [fold_013] at CF
  rw [bkt_m5] at CB
  unfold Tells18 rowVal at CF
  clear r0
  go_enter Try.func5, Try.ntmps5
  go_wp2_with fail
  refine CF.out.mono ?_
  rintro e w1 ⟨B, c, rfl, o1, b1⟩
  have H := (Hr.new (r := ⟨⟨#[97]⟩, 3, 3, 4, 0, 3, false, [1, 1, 1]⟩) o1 b1.size)
  obtain ⟨b, rfl, _, _⟩ := H.form (by decide)
  have p0 : (w1.alloc (.cells #[.string ⟨#[97]⟩, .int .i64 3, .int .u64 3, .int .i64 4, .int .i64 0, .int .i64 3, .bool false, .slice (some ⟨b, 0, none⟩) 3 c] 28)).cell? ⟨b, 0, none⟩ = some (.int .u64 1) := H.rd.rd _ rfl 0 1 rfl
  have p2 : (w1.alloc (.cells #[.string ⟨#[97]⟩, .int .i64 3, .int .u64 3, .int .i64 4, .int .i64 0, .int .i64 3, .bool false, .slice (some ⟨b, 0, none⟩) 3 c] 28)).cell? ⟨b, 2, none⟩ = some (.int .u64 1) := by
    have := H.rd.rd _ rfl 2 1 rfl
    rw [Addr.add_lit] at this
    exact this
  have BB : Hid (Below w.heap.size w (w1.alloc (rowObj ⟨⟨#[97]⟩, 3, 3, 4, 0, 3, false, [1, 1, 1]⟩ (some ⟨b, 0, none⟩) c))) := Lib.hid (((blw_new w _).trans (b1.mono (by simp))).alloc (Nat.le_trans (by simp) b1.size) _)
  clear o1 b1 H CF
  go_wp2_with fail
  refine (CB.out _).mono ?_
  rintro e w2 ⟨rfl, rfl⟩
  go_wp2_with fail
  go_ret
  exact ⟨rfl, BB.out⟩
end Go.Proofs.Ytmlpoeneopppaaa
