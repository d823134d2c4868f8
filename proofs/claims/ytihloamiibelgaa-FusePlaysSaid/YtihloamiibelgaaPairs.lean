/-
  A list of structs of two whole numbers that is handed in, of any type.
-/
import Derived.Test.YtihloamiibelgaaKit
import Derived.Deep.SlicePairs
namespace Go.Proofs.Ytihloamiibelgaa
open Go.ChangeShapes Go.WideShapes Go.ChangeAt Go.RowKit Go.Deep
set_option linter.unusedVariables false

/-- Pairs that were handed in. -/
def RdP (w : World) (A : Option Addr) (l : List (Int × Int)) : Prop := l = [] ∨ ∃ b o, A = some ⟨b, o, none⟩ ∧ ∀ i x y, l[i]? = some (x, y) → w.cell? ⟨b, o + i * 2, none⟩ = some (.int .i64 x) ∧ w.cell? ⟨b, o + i * 2 + 1, none⟩ = some (.int .i64 y)
theorem RdP.at {w : World} {A : Option Addr} {l : List (Int × Int)} (h : RdP w A l) {i : Nat} {x y : Int} (hi : l[i]? = some (x, y)) :
    ∃ b o, A = some ⟨b, o, none⟩ ∧ ∀ w', Below w.heap.size w w' → w'.cell? ⟨b, o + i * 2, none⟩ = some (.int .i64 x) ∧ w'.cell? ⟨b, o + i * 2 + 1, none⟩ = some (.int .i64 y) := by
  rcases h with rfl | ⟨b, o, e, hc⟩
  · simp at hi
  · refine ⟨b, o, e, fun w' hb => ?_⟩
    obtain ⟨h1, h2⟩ := hc i x y hi
    have hl := World.block_lt_of_cell? w _ h1
    exact ⟨by rw [hb.cell (p := ⟨b, o + i * 2, none⟩) hl]; exact h1, by rw [hb.cell (p := ⟨b, o + i * 2 + 1, none⟩) hl]; exact h2⟩
def WideP (l : List (Int × Int)) : Prop := ∀ x y, (x, y) ∈ l → -9223372036854775808 ≤ x ∧ x ≤ 9223372036854775807 ∧ -9223372036854775808 ≤ y ∧ y ≤ 9223372036854775807
theorem off_addP (b o i : Nat) : (⟨b, o, none⟩ : Addr).add i = ⟨b, o + i, none⟩ := by
  unfold Addr.add
  split
  · subst_vars; rfl
  · rfl
theorem cells_int1 : Try.prog.cellsOf 3 = 1 := by kernel_rfl
set_option maxRecDepth 100000 in
theorem open_pair {ts te : TypeId} {f0 f1 : Field} (hts : Try.prog.underlying ts = some (.slice te)) (hte : Try.prog.underlying te = some (.struct #[f0, f1])) (ce : Try.prog.cellsOf te = 2)
    (o0 : f0.offset = 0) (o1 : f1.offset = 1) (t0 : f0.type = 3) (t1 : f1.type = 3)
    {H : Type} {enc : TypeId × Value → H} {W : World} {v : Value} {x : DataW H} {ps : List MemPlace} {r : Reach} {b0 : Nat}
    (hval : Value.okWide Try.prog W r b0 ts v) (hd : DataW.Trod enc Try.prog W 0 (fun _ => true) true ts v x ps) :
    ∃ (A : Option Addr) (c : Nat) (l : List (Int × Int)), v = .slice A l.length c ∧ RdP W A l ∧ l.length ≤ maxLen ∧ WideP l := by
  obtain ⟨A, len, cap, rfl⟩ := okWide_slice hts hval
  obtain ⟨fuel, h⟩ := hd
  rcases open_slice_pairs hts hte ce o0 o1 (by rw [t0]; exact cells_int1) (by rw [t1]; exact cells_int1) h with ⟨hcs, _⟩ | ⟨a, len', cap', m, k, V0, V1, D0, D1, P0, P1, hcs, _, hl, hm, hmm, _, hc⟩
  · simp [Value.cells] at hcs
    obtain ⟨rfl, rfl, rfl⟩ := hcs
    exact ⟨none, 0, [], rfl, .inl rfl, by simp, fun x y h => by simp at h⟩
  · simp [Value.cells] at hcs
    obtain ⟨rfl, rfl, rfl⟩ := hcs
    simp only [if_true] at hmm
    subst hmm
    rw [t0, t1] at hc
    have hs : ∀ i, i < len → ∃ q : Int × Int, W.cell? (a.add (i * 2)) = some (.int .i64 q.1) ∧ W.cell? (a.add (i * 2 + 1)) = some (.int .i64 q.2) ∧ -9223372036854775808 ≤ q.1 ∧ q.1 ≤ 9223372036854775807 ∧ -9223372036854775808 ≤ q.2 ∧ q.2 ≤ 9223372036854775807 := by
      intro i hi
      obtain ⟨p0, p1, t0, t1⟩ := hc i (by omega)
      obtain ⟨x, e0, _, w0⟩ := DataW.trod_int Try.underlying3 t0
      obtain ⟨y, e1, _, w1⟩ := DataW.trod_int Try.underlying3 t1
      simp at e0 e1
      have c0 := bounds_i64 w0
      have c1 := bounds_i64 w1
      exact ⟨(x, y), by rw [p0, e0], by rw [p1, e1], c0.1, c0.2, c1.1, c1.2⟩
    obtain ⟨f, hf⟩ : ∃ f : Nat → Int × Int, ∀ i, i < len → W.cell? (a.add (i * 2)) = some (.int .i64 (f i).1) ∧ W.cell? (a.add (i * 2 + 1)) = some (.int .i64 (f i).2) ∧ -9223372036854775808 ≤ (f i).1 ∧ (f i).1 ≤ 9223372036854775807 ∧ -9223372036854775808 ≤ (f i).2 ∧ (f i).2 ≤ 9223372036854775807 :=
      ⟨fun i => if h : i < len then Classical.choose (hs i h) else (0, 0), fun i hi => by simp only [dif_pos hi]; exact Classical.choose_spec (hs i hi)⟩
    have hlen : ((List.range len).map f).length = len := by simp
    refine ⟨some a, m, (List.range len).map f, by rw [hlen], ?_, by omega, ?_⟩
    · by_cases h0 : len = 0
      · subst h0; exact .inl rfl
      · obtain ⟨b, o, spot⟩ := a
        have hsp : spot = none := by
          have := World.cell?_spot (hf 0 (by omega)).1
          simpa [Addr.add] using this
        subst hsp
        refine .inr ⟨b, o, rfl, fun i x y hi => ?_⟩
        rw [List.getElem?_map] at hi
        by_cases hil : i < len
        · rw [List.getElem?_range hil] at hi
          simp at hi
          obtain ⟨q0, q1, _⟩ := hf i hil
          rw [off_addP] at q0 q1
          rw [hi] at q0 q1
          exact ⟨q0, by rw [Nat.add_assoc]; exact q1⟩
        · rw [List.getElem?_eq_none (by simp; omega)] at hi
          cases hi
    · intro x y h
      obtain ⟨i, hi, e⟩ := List.mem_map.1 h
      have := hf i (by simpa using hi)
      rw [e] at this
      exact this.2.2
end Go.Proofs.Ytihloamiibelgaa
