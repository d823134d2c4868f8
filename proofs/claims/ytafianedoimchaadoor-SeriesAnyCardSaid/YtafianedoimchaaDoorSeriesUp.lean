/-
  Layer 5: the head of its laws: the document's example has its key; a key whose tags don't rise is none.
-/
import Derived.Test.YtafianedoimchaaDoorSeriesKey
import Derived.Test.YtafianedoimchaaDoorSeriesOf
import Derived.Test.YtafianedoimchaaDoorEqlCode
namespace Go.Proofs.YtafianedoimchaaDoor
open Go.ChangeShapes Go.WideShapes Go.ChangeAt Go.RowKit
set_option linter.unusedVariables false

def cpuB : ByteArray := ⟨#[99, 112, 117]⟩
def tagsUp : Tags := [(⟨#[98]⟩, ⟨#[49]⟩), (⟨#[97]⟩, ⟨#[50]⟩)]
theorem may_up : mayB cpuB tagsUp 2 0 = true := by decide +kernel
theorem sort_up : sortT tagsUp = [(⟨#[97]⟩, ⟨#[50]⟩), (⟨#[98]⟩, ⟨#[49]⟩)] := sort_of_rise (by decide +kernel) (List.Perm.swap _ _ _)
theorem keyErr_up : keyErr cpuB tagsUp 2 0 = none := by
  unfold keyErr
  rw [may_up, sort_up]
  decide +kernel
theorem keyL_up : keyL cpuB tagsUp = [99, 112, 117, 44, 97, 61, 50, 44, 98, 61, 49] := by
  unfold keyL
  rw [sort_up]
  decide +kernel
def textUp : ByteArray := ⟨#[99, 112, 117, 44, 98, 61, 49, 44, 97, 61, 50]⟩
theorem parse_up : parseF (textUp ++ restB) = .good ⟨cpuB, tagsUp, 1, 0, 0⟩ := by
  have h := parse_print (n := cpuB) (ts := tagsUp) (k := 1) (v := 0) (t := 0) (by decide +kernel) (by omega) (by omega)
  rw [print_rest] at h
  have e : (⟨(headL cpuB tagsUp ++ restL).toArray⟩ : ByteArray) = textUp ++ restB := by decide +kernel
  rw [e] at h
  exact h

set_option maxHeartbeats 1000000 in
set_option maxRecDepth 100000 in
theorem up_series (w : World) (hL : Laid w) : Calls Tryd.prog 4 #[] w (Holds w) := by
  have hr : RdT (w.alloc (.cells #[.string ⟨#[98]⟩, .string ⟨#[49]⟩, .string ⟨#[97]⟩, .string ⟨#[50]⟩] 32)) (some ⟨w.heap.size, 0, none⟩) tagsUp := by
    have hb := heap_alloc_new w (.cells #[.string ⟨#[98]⟩, .string ⟨#[49]⟩, .string ⟨#[97]⟩, .string ⟨#[50]⟩] 32)
    refine .inr ⟨w.heap.size, 0, rfl, fun i x y h => ?_⟩
    match i, h with
    | 0, h => cases h; exact ⟨cell_of_block hb, cell_of_block hb⟩
    | 1, h => cases h; exact ⟨cell_of_block hb, cell_of_block hb⟩
    | (i + 2), h => cases h
  have C1 := Lib.hid (seriesKey cpuB (some ⟨w.heap.size, 0, none⟩) 2 2 0 0 tagsUp _ (hL.alloc (.cells #[.string ⟨#[98]⟩, .string ⟨#[49]⟩, .string ⟨#[97]⟩, .string ⟨#[50]⟩] 32)) hr (small_of_may may_up) (by omega) (by omega))
  rw [keyErr_up] at C1
  have HL := Lib.hid hL
  have he := eql_codes
  clear hr hL
  go_enter Tryd.func4, Tryd.ntmps4
  go_wp2_with fail
  refine C1.out.mono ?_
  rintro e w1 ⟨rfl, hb⟩
  rw [keyL_up]
  have HB := Lib.hid ((below_new w _).trans (hb.mono (by simp)))
  have HL1 := Lib.hid (HL.out.below HB.out)
  clear hb HL C1
  go_wp2_with fail
  refine (seriesOf textUp ⟨cpuB, tagsUp, 1, 0, 0⟩ w1 HL1.out (by decide +kernel) parse_up (by decide) false (by decide +kernel)).mono ?_
  rintro e w2 ⟨rfl, hb⟩
  have HB2 := Lib.hid (HB.out.trans (hb.mono HB.out.size))
  clear hb HB HL1
  unfold evZero evVal
  go_wp2_with fail
  go_ret
  exact ⟨rfl, HB2.out.alloc HB2.out.size _⟩
end Go.Proofs.YtafianedoimchaaDoor
