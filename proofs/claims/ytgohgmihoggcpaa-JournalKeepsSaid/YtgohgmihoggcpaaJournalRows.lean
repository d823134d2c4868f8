/-
  Layer 9: rows of bytes that were handed in, as a list of lists.
-/
import Derived.Test.YtgohgmihoggcpaaDiskDeeds
namespace Go.Proofs.Ytgohgmihoggcpaa
open Go.ChangeShapes Go.WideShapes Go.ChangeAt Go.RowKit Go.Deep
set_option linter.unusedVariables false

def RdL (w : World) (A : Option Addr) (ls : List (List UInt8)) : Prop := ls = [] ∨ ∃ b o, A = some ⟨b, o, none⟩ ∧ ∀ i l, ls[i]? = some l → ∃ B c, w.cell? ⟨b, o + i, none⟩ = some (.slice B l.length c) ∧ RdS w B c l
theorem RdL.at {w : World} {A : Option Addr} {ls : List (List UInt8)} (h : RdL w A ls) {i : Nat} {l : List UInt8} (hi : ls[i]? = some l) : ∃ b o, A = some ⟨b, o, none⟩ ∧ ∀ w', Below w.heap.size w w' → ∃ B c, w'.cell? ⟨b, o + i, none⟩ = some (.slice B l.length c) ∧ RdS w' B c l := by
  rcases h with rfl | ⟨b, o, e, hc⟩
  · simp at hi
  · refine ⟨b, o, e, fun w' hb => ?_⟩
    obtain ⟨B, c, h1, h2⟩ := hc i l hi
    have hl := World.block_lt_of_cell? w _ h1
    exact ⟨B, c, by rw [hb.cell (p := ⟨b, o + i, none⟩) hl]; exact h1, h2.below hb (Nat.le_refl _)⟩
section
variable {H : Type} {enc : TypeId × Value → H} {W : World}
set_option maxRecDepth 100000 in
theorem open_lists {v : Value} {x : DataW H} {ps : List MemPlace} {r : Reach} {b0 : Nat}
    (hval : Value.okWide Try.prog W r b0 22 v) (hd : DataW.Trod enc Try.prog W 0 (fun _ => true) true 22 v x ps) :
    ∃ (A : Option Addr) (c : Nat) (ls : List (List UInt8)), v = .slice A ls.length c ∧ RdL W A ls ∧ ls.length ≤ maxLen ∧ ∀ l ∈ ls, l.length ≤ maxLen := by
  obtain ⟨A0, len0, cap0, rfl⟩ := okWide_slice Try.underlying22 hval
  obtain ⟨fuel, h⟩ := hd
  rcases open_slice Try.underlying22 h with ⟨hcs, _⟩ | ⟨a, len, cap, m, n, D, Pl, hcs, _, hl, hm, hmm, _, hx⟩
  · simp [Value.cells] at hcs
    obtain ⟨rfl, rfl, rfl⟩ := hcs
    exact ⟨none, 0, [], rfl, .inl rfl, by simp, fun d h => by simp at h⟩
  · simp [Value.cells] at hcs
    obtain ⟨rfl, rfl, rfl⟩ := hcs
    simp only [if_true] at hmm
    subst hmm
    have each : ∀ i, i < len0 → ∃ q : List UInt8 × Option Addr × Nat, W.cell? (a.add i) = some (.slice q.2.1 q.1.length q.2.2) ∧ RdS W q.2.1 q.2.2 q.1 ∧ q.1.length ≤ maxLen := by
      intro i hi
      obtain ⟨cs', h1, h2⟩ := hx i (by omega)
      rw [cells_bs] at h1
      obtain ⟨_, hlen, hcell⟩ := World.cells?_some h1
      obtain ⟨B, c, l, rfl, rd, hf⟩ := open_bs h2
      refine ⟨(l, B, c), ?_, rd, hf⟩
      have := hcell 0 (by omega)
      rw [Go.Deep.add_add, Nat.mul_one, Nat.add_zero] at this
      simpa using this
    obtain ⟨f, hf⟩ : ∃ f : Nat → List UInt8 × Option Addr × Nat, ∀ i, i < len0 → W.cell? (a.add i) = some (.slice (f i).2.1 (f i).1.length (f i).2.2) ∧ RdS W (f i).2.1 (f i).2.2 (f i).1 ∧ (f i).1.length ≤ maxLen :=
      ⟨fun i => if h : i < len0 then Classical.choose (each i h) else ([], none, 0), fun i hi => by simp only [dif_pos hi]; exact Classical.choose_spec (each i hi)⟩
    have hlen : ((List.range len0).map fun i => (f i).1).length = len0 := by simp
    refine ⟨some a, _, (List.range len0).map fun i => (f i).1, by rw [hlen], ?_, by omega, ?_⟩
    · by_cases h0 : len0 = 0
      · subst h0; exact .inl rfl
      · obtain ⟨b, o, spot⟩ := a
        have hsp : spot = none := by
          have h8 := (hf 0 (by omega)).1
          have := World.cell?_spot h8
          simpa [Addr.add] using this
        subst hsp
        refine .inr ⟨b, o, rfl, fun i d hi => ?_⟩
        rw [List.getElem?_map] at hi
        by_cases hil : i < len0
        · rw [List.getElem?_range hil] at hi
          obtain rfl := Option.some.inj hi
          obtain ⟨hc, rd, _⟩ := hf i hil
          rw [Go.WideShapes.add_plain] at hc
          exact ⟨(f i).2.1, (f i).2.2, hc, rd⟩
        · rw [List.getElem?_eq_none (by simp; omega)] at hi
          cases hi
    · intro d hd
      obtain ⟨i, hi, rfl⟩ := List.mem_map.1 hd
      exact (hf i (by simpa using hi)).2.2
end
end Go.Proofs.Ytgohgmihoggcpaa
