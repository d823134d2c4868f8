/-
  An argument that is a slice of bytes, opened: nil or not, a list of whole numbers from 0 to 255.
-/
import Derived.Test.YtpgncpochlfcnaaMixBase
namespace Go.Proofs.Ytpgncpochlfcnaa
open Go.ChangeShapes Go.WideShapes Go.ChangeAt Go.RowKit
set_option linter.unusedVariables false

theorem cells_u8 : Try.prog.cellsOf 5 = 1 := by kernel_rfl
theorem open_bytes {H : Type} {enc : TypeId × Value → H} {W : World} {v : Value} {x : DataW H} {ps : List MemPlace} {r : Reach} {b0 : Nat}
    (hval : Value.okWide Try.prog W r b0 22 v) (hd : DataW.Trod enc Try.prog W 0 (fun _ => true) true 22 v x ps) :
    ∃ (A : Option Addr) (zs : List Int) (cap : Nat), v = .slice A zs.length cap ∧ RdInts .u8 W A zs ∧ Byte zs ∧ zs.length ≤ maxLen ∧ (A = none → zs = [] ∧ cap = 0) := by
  obtain ⟨A, len, cap, rfl⟩ := okWide_slice Try.underlying22 hval
  obtain ⟨fuel, hf⟩ := hd
  rcases open_ints Try.underlying22 Try.underlying5 cells_u8 hf with ⟨hcs, hx⟩ | ⟨a, len', cap', zs, hcs, _, hl, hm, hz, hx, hcell, hwz⟩
  · simp [Value.cells] at hcs
    obtain ⟨rfl, rfl, rfl⟩ := hcs
    exact ⟨none, [], 0, rfl, fun i hi => by simp at hi, fun n hn => by simp at hn, by simp, fun _ => ⟨rfl, rfl⟩⟩
  · simp [Value.cells] at hcs
    obtain ⟨rfl, rfl, rfl⟩ := hcs
    simp only [if_true] at hz
    have hlen : (zs.take len).length = len := by simp; omega
    refine ⟨some a, zs.take len, cap, by rw [hlen], ?_, ?_, by omega, fun h => by cases h⟩
    · intro i hi
      have hi' : i < zs.length := by omega
      refine ⟨a, zs.getD i 0, rfl, ?_, hcell i hi'⟩
      rw [List.getElem?_take, if_pos (by omega)]
      simp [hi']
    · intro n hn
      have := bounds_u8 (hwz n (List.mem_of_mem_take hn))
      omega
end Go.Proofs.Ytpgncpochlfcnaa
