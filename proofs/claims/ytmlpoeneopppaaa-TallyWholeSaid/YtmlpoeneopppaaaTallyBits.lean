/-
  Layer 18 (tally): a value's bucket, the program's and the document's; one more of a count.
-/
import Derived.Test.YtmlpoeneopppaaaShelf
import Derived.Test.YtmlpoeneopppaaaTallyMem
import Derived.Deep.LoopGhost
namespace Go.Proofs.Ytmlpoeneopppaaa
open Go.ChangeShapes Go.WideShapes Go.ChangeAt Go.RowKit
set_option linter.unusedVariables false

theorem bucket_walk (w : World) {v : Int} (hv : In64 v) :
    Calls Try.prog 9 #[.int .i64 v] w fun e w' => e = .returned (.int .i64 (bkt v : Nat)) ∧ w = w' := by
  obtain ⟨h0, h1⟩ := hv
  obtain ⟨m, hm⟩ : ∃ m, max v 0 = m := ⟨_, rfl⟩
  have CB : Hid (∀ w, Calls Try.prog 13 #[.int .u64 m] w fun e w' => e = .returned (.int .i64 (bkt v : Nat)) ∧ w' = w) := Lib.hid (fun w => by
    have := Try.bits_Len64 m w (by omega) (by omega)
    rw [show m.toNat = v.toNat by omega] at this
    exact this)
  have z1 : IntKind.u64.wrap m = m := by rw [IntKind.wrap_u64]; omega
  generalize bkt v = K at *
  go_enter Try.func9, Try.ntmps9
  go_wp2_with fail
  refine (CB.out _).mono ?_
  rintro e w2 ⟨rfl, rfl⟩
  go_wp2_with fail
  go_ret
  exact ⟨rfl, rfl⟩
theorem one_walk (w : World) {n : Nat} (h : n ≤ 18446744073709551615) :
    Calls Try.prog 16 #[.int .u64 (n : Nat)] w fun e w' => e = .returned (.int .u64 (upN n : Nat)) ∧ w = w' := by
  have CC := Lib.hid (fun w => satCount n 1 w (by omega) (by omega) (by decide) (by decide))
  unfold Cnts at CC
  have e1 : cntS n 1 = (upN n : Nat) := by
    unfold cntS upN
    split <;> split <;> omega
  rw [e1] at CC
  generalize upN n = q at *
  generalize cntO n 1 = o at *
  clear e1 h
  go_enter Try.func16, Try.ntmps16
  go_wp2_with fail
  refine (CC.out _).mono ?_
  rintro e w2 ⟨rfl, rfl⟩
  go_wp2_with fail
  go_ret
  exact ⟨rfl, rfl⟩
theorem ref_bucket (w : World) {v : Int} (hv : In64 v) :
    Calls Try.prog 20 #[.int .i64 v] w fun e w' => e = .returned (.int .i64 (bkt v : Nat)) ∧ w = w' := by
  have B0 := Lib.hid (bkt_le hv.2)
  have h0 := hv.1
  have h1 := hv.2
  clear hv
  go_enter Try.func20, Try.ntmps20
  go_wp2_with fail
  go_loopg [0, 3] (bkt v) (fun gk s0 s3 wx => ∃ (i : Nat) (x : Int), i + gk = bkt v ∧ s0 = .int .i64 x ∧ s3 = .int .i64 (i : Nat) ∧ w = wx ∧ Hid (bkt x = gk ∧ In64 x))
  case atStart => exact ⟨0, v, by omega, rfl, rfl, rfl, Lib.hid ⟨rfl, h0, h1⟩⟩
  case round =>
    obtain ⟨i, x, hi, rfl, rfl, rfl, HX⟩ := hrel
    clear h0 h1
    obtain ⟨hb, x0, x1⟩ := HX.out
    clear HX
    by_cases hp : 0 < x
    · have hh := bkt_half hp x1
      cases gk with
      | zero => omega
      | succ gk =>
        have HB : Hid (bkt (x / 2) = gk ∧ In64 (x / 2)) := Lib.hid ⟨by omega, by unfold In64; omega⟩
        have i1 : i ≤ 62 := by have := B0.out; omega
        have HI := Lib.hid hi
        obtain ⟨y, hy⟩ : ∃ y, x / 2 = y := ⟨_, rfl⟩
        rw [hy] at HB
        have z1 : x.tdiv 2 = y := by rw [← hy]; exact Int.tdiv_eq_ediv_of_nonneg (by omega)
        have z2 : IntKind.i64.wrap y = y := by rw [IntKind.wrap_i64]; omega
        clear hb hh hi hy
        go_wp2_with fail
        go_roundg gk
        case rel => exact ⟨i + 1, y, by have := HI.out; omega, by go_num, by go_num, rfl, HB⟩
        case measure => omega
    · have hz : bkt x = 0 := bkt_neg (by omega)
      have e0 : bkt v = i := by omega
      clear hb hz hi B0
      go_wp2_with fail
      go_ret
      exact ⟨rfl, rfl⟩
end Go.Proofs.Ytmlpoeneopppaaa
