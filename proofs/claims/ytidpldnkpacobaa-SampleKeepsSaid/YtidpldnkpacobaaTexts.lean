/-
  Texts handed in: a list of them.
-/
import Derived.Test.YtidpldnkpacobaaKit
import Derived.Deep.Strs
namespace Go.Proofs.Ytidpldnkpacobaa
open Go.ChangeShapes Go.WideShapes Go.ChangeAt Go.RowKit Go.Deep
set_option linter.unusedVariables false

/-- Texts that were handed in. -/
def RdX (w : World) (A : Option Addr) (l : List ByteArray) : Prop := l = [] ∨ ∃ b o, A = some ⟨b, o, none⟩ ∧ ∀ i s, l[i]? = some s → w.cell? ⟨b, o + i, none⟩ = some (.string s)
theorem RdX.at {w : World} {A : Option Addr} {l : List ByteArray} (h : RdX w A l) {i : Nat} {s : ByteArray} (hi : l[i]? = some s) : ∃ b o, A = some ⟨b, o, none⟩ ∧ ∀ w', Below w.heap.size w w' → w'.cell? ⟨b, o + i, none⟩ = some (.string s) := by
  rcases h with rfl | ⟨b, o, e, hc⟩
  · simp at hi
  · refine ⟨b, o, e, fun w' hb => ?_⟩
    have h1 := hc i s hi
    have hl := World.block_lt_of_cell? w _ h1
    rw [hb.cell (p := ⟨b, o + i, none⟩) hl]
    exact h1
theorem cells_str : Try.prog.cellsOf 9 = 1 := by kernel_rfl
section
variable {H : Type} {enc : TypeId × Value → H} {W : World}
set_option maxRecDepth 100000 in
theorem open_texts {v : Value} {x : DataW H} {ps : List MemPlace} {r : Reach} {b0 : Nat}
    (hval : Value.okWide Try.prog W r b0 23 v) (hd : DataW.Trod enc Try.prog W 0 (fun _ => true) true 23 v x ps) :
    ∃ (A : Option Addr) (c : Nat) (l : List ByteArray), v = .slice A l.length c ∧ RdX W A l ∧ l.length ≤ maxLen := by
  obtain ⟨A0, len0, cap0, rfl⟩ := okWide_slice Try.underlying23 hval
  obtain ⟨fuel, h⟩ := hd
  rcases open_strs Try.underlying23 Try.underlying9 cells_str h with ⟨hcs, _⟩ | ⟨a, len, cap, m, Sx, hcs, _, hl, hm, hmm, _, hx⟩
  · simp [Value.cells] at hcs
    obtain ⟨rfl, rfl, rfl⟩ := hcs
    exact ⟨none, 0, [], rfl, .inl rfl, by simp⟩
  · simp [Value.cells] at hcs
    obtain ⟨rfl, rfl, rfl⟩ := hcs
    simp only [if_true] at hmm
    subst hmm
    have hlen : ((List.range len0).map Sx).length = len0 := by simp
    refine ⟨some a, _, (List.range len0).map Sx, by rw [hlen], ?_, by omega⟩
    by_cases h0 : len0 = 0
    · subst h0; exact .inl rfl
    · obtain ⟨b, o, spot⟩ := a
      have hsp : spot = none := by
        have h8 := (hx 0 (by omega)).1
        have := World.cell?_spot h8
        simpa [Addr.add] using this
      subst hsp
      refine .inr ⟨b, o, rfl, fun i s hi => ?_⟩
      rw [List.getElem?_map] at hi
      by_cases hil : i < len0
      · rw [List.getElem?_range hil] at hi
        obtain rfl := Option.some.inj hi
        have := (hx i (by omega)).1
        rw [Go.WideShapes.add_plain] at this
        exact this
      · rw [List.getElem?_eq_none (by simp; omega)] at hi
        cases hi
end
end Go.Proofs.Ytidpldnkpacobaa
