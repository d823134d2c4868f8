/-
  An argument that is a slice of float64, opened: nil or not, an array of bits.
-/
import Derived.Test.YthjdcailnibeiaaEdgeSort
import Derived.Deep.Slices
namespace Go.Proofs.Ythjdcailnibeiaa
open Go.ChangeShapes Go.WideShapes Go.ChangeAt Go.RowKit Go.Deep
set_option linter.unusedVariables false

theorem trod_f64 {H : Type} {enc : TypeId × Value → H} {P : Program} {w : World} {base : Nat} {spare : Nat → Bool} {held : Bool} {e : TypeId} {n : Nat} {v : Value} {x : DataW H × List MemPlace}
    (he : P.underlying e = some (.float .f64)) (h : DataW.trod enc P w base spare held n e [v] = some x) : ∃ b, v = .float .f64 b ∧ b < 18446744073709551616 := by
  cases n with
  | zero => simp [DataW.trod] at h
  | succ n =>
    simp only [DataW.trod, he] at h
    cases v with
    | float k b =>
      by_cases hk : k = .f64 ∧ (Lit.float .f64 b).wf = true
      · exact ⟨b, by rw [hk.1], by simpa [Lit.wf] using hk.2⟩
      · simp [hk] at h
    | _ => simp at h

theorem open_f64s {H : Type} {enc : TypeId × Value → H} {P : Program} {W : World} {t e : TypeId} {v : Value} {x : DataW H} {ps : List MemPlace}
    (ht : P.underlying t = some (.slice e)) (he : P.underlying e = some (.float .f64)) (hc : P.cellsOf e = 1) {r : Reach} {b0 : Nat} (hval : Value.okWide P W r b0 t v)
    (hd : DataW.Trod enc P W 0 (fun _ => true) true t v x ps) :
    ∃ (A : Option Addr) (d : Array UInt64) (cap : Nat), v = .slice A d.size cap ∧ RdF W A d ∧ d.size ≤ maxLen ∧ (∀ ad, A = some ad → 0 < d.size → ad.block < W.heap.size) := by
  obtain ⟨A, len, cap, rfl⟩ := okWide_slice ht hval
  obtain ⟨fuel, hf⟩ := hd
  rcases open_slice1 ht hc hf with ⟨hcs, hx⟩ | ⟨a, len', cap', m, n, V, D, Pl, hcs, hb, hl, hm, hmm, _, hx⟩
  · simp [Value.cells] at hcs
    obtain ⟨rfl, rfl, rfl⟩ := hcs
    exact ⟨none, #[], 0, rfl, fun i hi => by simp at hi, by simp, fun ad h => by cases h⟩
  · simp [Value.cells] at hcs
    obtain ⟨rfl, rfl, rfl⟩ := hcs
    simp only [if_true] at hmm
    subst hmm
    obtain ⟨B, hB⟩ := choose_lt (α := Nat) (n := len) (p := fun i b => V i = .float .f64 b ∧ b < 18446744073709551616) (fun i hi => trod_f64 he (hx i (by omega)).2)
    have hcell : ∀ i, i < len → W.cell? (a.add i) = some (.float .f64 (B i)) := fun i hi => by rw [(hx i (by omega)).1, (hB i hi).1]
    refine ⟨some a, Array.ofFn (fun i : Fin len => UInt64.ofNat (B i)), _, by simp; rfl, ?_, by simp; omega, ?_⟩
    · intro i hi
      have hi' : i < len := by simpa using hi
      refine ⟨a, rfl, ?_⟩
      rw [hcell i hi', getElem!_pos _ i hi, Array.getElem_ofFn]
      unfold encF
      rw [UInt64.toNat_ofNat_of_lt' (by have := (hB i hi').2; simpa [UInt64.size] using this)]
    · intro ad had h0
      cases had
      have hlen : 0 < len := by simpa using h0
      have h := hcell 0 hlen
      have e0 : a.add 0 = a := by unfold Addr.add; simp
      rw [e0] at h
      by_cases hlt : a.block < W.heap.size
      · exact hlt
      · unfold World.cell? at h
        rw [Array.getElem?_eq_none (by omega)] at h
        simp at h
end Go.Proofs.Ythjdcailnibeiaa
