/-
  A list of whole numbers of 64 bits that is handed in ([]int64), with their bounds; and from a place on.
-/
import Derived.Test.YtihloamiibelgaaOwnB
import Derived.Deep.SlicePairs
import Derived.Deep.Fields
namespace Go.Proofs.Ytihloamiibelgaa
open Go.ChangeShapes Go.WideShapes Go.ChangeAt Go.RowKit Go.Deep
set_option linter.unusedVariables false

/-- A slice of whole numbers, nil or not, that reads as this list. -/
structure RdV (w : World) (A : Option Addr) (cap : Nat) (l : List Int) : Prop where
  le : l.length ≤ cap
  nn : A = none → cap = 0
  rd : ∀ ad, A = some ad → ∀ (i : Nat) (x : Int), l[i]? = some x → w.cell? (ad.add i) = some (.int .i64 x)
section
variable {w w' : World} {A : Option Addr} {cap : Nat} {l : List Int}
theorem RdV.nil (w : World) : RdV w none 0 [] := ⟨Nat.le_refl _, fun _ => rfl, fun _ h => by cases h⟩
theorem RdV.below (h : RdV w A cap l) (hb : Below w.heap.size w w') : RdV w' A cap l :=
  ⟨h.le, h.nn, fun ad ha i c hc => by
    have h1 := h.rd ad ha i c hc
    have h2 := World.block_lt_of_cell? w _ h1
    rw [hb.cell h2]; exact h1⟩
theorem RdV.some_of (h : RdV w A cap l) (hl : 0 < l.length) : ∃ ad, A = some ad := by
  cases A with
  | none => have := h.nn rfl; have := h.le; omega
  | some ad => exact ⟨ad, rfl⟩
theorem infoV : (Try.prog.info? 2).map (fun i => (i.zero, i.size, i.bytes)) = some (some (.int .i64 0), 1, 8) := by kernel_rfl
theorem elemV : Try.prog.elem 41 = 2 := by kernel_rfl
theorem underV : Try.prog.underlying 41 = some (.slice (Try.prog.elem 41)) := by rw [elemV]; exact Try.underlying41
theorem vals_from (A : Option Addr) (cap : Nat) (l : List Int) (k : Nat) (hk : k ≤ l.length) (hle : l.length ≤ cap) (hnone : A = none → cap = 0) :
    ∃ A', (∀ w, (Instr.slice 41 (.slice A l.length cap) (some (.int .i64 (k : Int))) none none).run Try.prog w = .ok (.slice A' (l.drop k).length (cap - k)) w) ∧
      ∀ w, RdV w A cap l → RdV w A' (cap - k) (l.drop k) := by
  refine ⟨if cap = k then A else A.map (·.add k), fun w => ?_, fun w h => ?_⟩
  · obtain ⟨i, hi, hz0, hz1, hz2⟩ := info_parts infoV
    rw [run_slice_l w 41 A l.length cap underV _ _ (by omega) (by omega)]
    have hs : (sizeOf (Try.prog.elem 41)).run Try.prog w = .ok 1 w := by
      rw [elemV]
      simp [sizeOf, typeInfo, hi, hz1, Result.andThen]
    rw [hs]
    simp [Result.andThen, sliced]
  · refine ⟨by rw [List.length_drop]; have := h.le; omega, fun e => ?_, fun ad ha i c hi => ?_⟩
    · split at e
      · omega
      · cases A with
        | none => have := h.nn rfl; omega
        | some a => cases e
    · rw [List.getElem?_drop] at hi
      have hlt := (List.getElem?_eq_some_iff.1 hi).1
      split at ha
      · have := h.le; omega
      · cases A with
        | none => cases ha
        | some a =>
          cases ha
          rw [Addr.add_add]
          exact h.rd a rfl (k + i) c hi
end
section
variable {H : Type} {enc : TypeId × Value → H} {W : World}
theorem cells_val : Try.prog.cellsOf 2 = 1 := by kernel_rfl
set_option maxRecDepth 100000 in
theorem open_vals {v : Value} {x : DataW H} {ps : List MemPlace} {r : Reach} {b0 : Nat}
    (hval : Value.okWide Try.prog W r b0 41 v) (hd : DataW.Trod enc Try.prog W 0 (fun _ => true) true 41 v x ps) :
    ∃ (A : Option Addr) (c : Nat) (l : List Int), v = .slice A l.length c ∧ RdV W A c l ∧ l.length ≤ maxLen ∧ ∀ x ∈ l, -9223372036854775808 ≤ x ∧ x ≤ 9223372036854775807 := by
  obtain ⟨A0, len0, cap0, rfl⟩ := okWide_slice Try.underlying41 hval
  obtain ⟨fuel, h⟩ := hd
  rcases open_ints Try.underlying41 Try.underlying2 cells_val h with ⟨hcs, hx⟩ | ⟨a, len, cap, zs, hcs, _, hl, hm, hz, hx, hcell, hwz⟩
  · simp [Value.cells] at hcs
    obtain ⟨rfl, rfl, rfl⟩ := hcs
    exact ⟨none, 0, [], rfl, RdV.nil W, by simp, fun d h => by simp at h⟩
  · simp [Value.cells] at hcs
    obtain ⟨rfl, rfl, rfl⟩ := hcs
    simp only [if_true] at hz
    have hlen : (zs.take len0).length = len0 := by rw [List.length_take]; omega
    refine ⟨some a, cap0, zs.take len0, by rw [hlen], ⟨by rw [hlen]; exact hl, (fun e => by cases e), fun ad ha j y hy => ?_⟩, by omega, fun x hx => bounds_i64 (hwz x (List.mem_of_mem_take hx))⟩
    cases ha
    have hj : j < len0 := by have := (List.getElem?_eq_some_iff.1 hy).1; omega
    have hc := hcell j (by omega)
    rw [List.getElem?_take_of_lt hj] at hy
    rw [List.getD_eq_getElem?_getD, hy] at hc
    exact hc
end
end Go.Proofs.Ytihloamiibelgaa
