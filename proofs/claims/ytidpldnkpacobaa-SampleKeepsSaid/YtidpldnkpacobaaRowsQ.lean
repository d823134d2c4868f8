/-
  Whole numbers handed in, and rows of them.
-/
import Derived.Test.YtidpldnkpacobaaRowQ
import Derived.Deep.Matrix
namespace Go.Proofs.Ytidpldnkpacobaa
open Go.ChangeShapes Go.WideShapes Go.ChangeAt Go.RowKit Go.Deep
set_option linter.unusedVariables false

def NewQ (W : World) (g : Nat) : Prop := W.heap.size ≤ g
/-- Rows of numbers that were handed in. -/
def RdM (w : World) (E : Nat → Prop) (A : Option Addr) (ls : List (List Int)) : Prop :=
  ls = [] ∨ ∃ b o, A = some ⟨b, o, none⟩ ∧ ¬ E b ∧ ∀ (i : Nat) (l : List Int), ls[i]? = some l → ∃ B c, w.cell? ⟨b, o + i, none⟩ = some (.slice B l.length c) ∧ RdQ w E B c l
theorem RdM.at {w : World} {E : Nat → Prop} {A : Option Addr} {ls : List (List Int)} (h : RdM w E A ls) {i : Nat} {l : List Int} (hi : ls[i]? = some l) :
    ∃ b o B c, A = some ⟨b, o, none⟩ ∧ ¬ E b ∧ w.cell? ⟨b, o + i, none⟩ = some (.slice B l.length c) ∧ RdQ w E B c l := by
  rcases h with rfl | ⟨b, o, e, hb, hc⟩
  · simp at hi
  · obtain ⟨B, c, h1, h2⟩ := hc i l hi
    exact ⟨b, o, B, c, e, hb, h1, h2⟩
theorem cellsQ : Try.prog.cellsOf 3 = 1 := by kernel_rfl
theorem cellsR : Try.prog.cellsOf 26 = 1 := by kernel_rfl
section
variable {H : Type} {enc : TypeId × Value → H} {W : World}
set_option maxRecDepth 100000 in
theorem open_row_q {v : Value} {x : DataW H} {ps : List MemPlace} {r : Reach} {b0 : Nat}
    (hval : Value.okWide Try.prog W r b0 26 v) (hd : DataW.Trod enc Try.prog W 0 (fun _ => true) true 26 v x ps) :
    ∃ (A : Option Addr) (c : Nat) (l : List Int), v = .slice A l.length c ∧ RdQ W (NewQ W) A c l ∧ l.length ≤ maxLen := by
  obtain ⟨A0, len0, cap0, rfl⟩ := okWide_slice Try.underlying26 hval
  obtain ⟨fuel, h⟩ := hd
  rcases open_ints Try.underlying26 Try.underlying3 cellsQ h with ⟨hcs, hx⟩ | ⟨a, len, cap, zs, hcs, _, hl, hm, hz, hx, hcell, hwz⟩
  · simp [Value.cells] at hcs
    obtain ⟨rfl, rfl, rfl⟩ := hcs
    exact ⟨none, 0, [], rfl, RdQ.nil _ _, by simp⟩
  · simp [Value.cells] at hcs
    obtain ⟨rfl, rfl, rfl⟩ := hcs
    simp only [if_true] at hz
    have hlen : (zs.take len0).length = len0 := by rw [List.length_take]; omega
    refine ⟨some a, cap0, zs.take len0, by rw [hlen], ⟨by omega, (fun e => by cases e), fun ad ha hq => ?_⟩, by omega⟩
    cases ha
    have h0 : 0 < len0 := by
      rcases Nat.eq_zero_or_pos len0 with e | e
      · exact absurd (List.length_eq_zero_iff.1 (by omega)) hq
      · exact e
    obtain ⟨b, o, spot⟩ := a
    have hsp : spot = none := by
      have h8 := hcell 0 (by omega)
      have := World.cell?_spot h8
      simpa [Addr.add] using this
    subst hsp
    refine ⟨b, o, rfl, fun j y hy => ?_⟩
    have hj : j < len0 := by have := (List.getElem?_eq_some_iff.1 hy).1; omega
    have hc := hcell j (by omega)
    rw [Go.WideShapes.add_plain] at hc
    rw [List.getElem?_take_of_lt hj] at hy
    rw [List.getD_eq_getElem?_getD, hy] at hc
    exact ⟨hc, fun e => by have := World.block_lt_of_cell? W _ hc; unfold NewQ at e; simp only at this; omega⟩
set_option maxRecDepth 100000 in
theorem open_rows_q {v : Value} {x : DataW H} {ps : List MemPlace} {r : Reach} {b0 : Nat}
    (hval : Value.okWide Try.prog W r b0 22 v) (hd : DataW.Trod enc Try.prog W 0 (fun _ => true) true 22 v x ps) :
    ∃ (A : Option Addr) (c : Nat) (ls : List (List Int)), v = .slice A ls.length c ∧ RdM W (NewQ W) A ls ∧ ls.length ≤ maxLen ∧ ∀ l ∈ ls, l.length ≤ maxLen := by
  obtain ⟨A0, len0, cap0, rfl⟩ := okWide_slice Try.underlying22 hval
  obtain ⟨fuel, h⟩ := hd
  rcases open_int_rows Try.underlying22 Try.underlying26 Try.underlying3 cellsR cellsQ h with ⟨hcs, _⟩ | ⟨a, len, cap, AA, L, C, Z, hcs, _, hl, hm, _, hx⟩
  · simp [Value.cells] at hcs
    obtain ⟨rfl, rfl, rfl⟩ := hcs
    exact ⟨none, 0, [], rfl, .inl rfl, by simp, fun d h => by simp at h⟩
  · simp [Value.cells] at hcs
    obtain ⟨rfl, rfl, rfl⟩ := hcs
    have hlen : ((List.range len0).map fun r => (Z r).take (L r)).length = len0 := by simp
    have hL : ∀ r, r < len0 → ((Z r).take (L r)).length = L r := fun r hr => by
      obtain ⟨_, h2, h3, h4, _⟩ := hx r (by omega)
      rw [List.length_take]; omega
    refine ⟨some a, cap0, (List.range len0).map fun r => (Z r).take (L r), by rw [hlen], ?_, by omega, ?_⟩
    · by_cases h0 : len0 = 0
      · subst h0; exact .inl rfl
      · obtain ⟨b, o, spot⟩ := a
        have h8 := (hx 0 (by omega)).1
        have hsp : spot = none := by
          have := World.cell?_spot h8
          simpa [Addr.add] using this
        subst hsp
        refine .inr ⟨b, o, rfl, fun e => ?_, fun i l hi => ?_⟩
        · rw [Go.WideShapes.add_plain] at h8
          have := World.block_lt_of_cell? W _ h8
          unfold NewQ at e
          simp only at this
          omega
        · rw [List.getElem?_map] at hi
          by_cases hil : i < len0
          · rw [List.getElem?_range hil] at hi
            obtain rfl := Option.some.inj hi
            obtain ⟨h1, h2, h3, h4, h5, h6, h7⟩ := hx i (by omega)
            rw [Go.WideShapes.add_plain] at h1
            refine ⟨AA i, C i, by rw [hL i hil]; exact h1, ⟨by rw [hL i hil]; exact h2, h6, fun ad ha hq => ?_⟩⟩
            have hLp : 0 < L i := by
              rcases Nat.eq_zero_or_pos (L i) with e | e
              · exact absurd (List.length_eq_zero_iff.1 (by rw [hL i hil]; exact e)) hq
              · exact e
            have h9 := (h7 ad ha).2
            obtain ⟨b', o', spot'⟩ := ad
            have hsp : spot' = none := by
              have := World.cell?_spot (h9 0 (by omega))
              simpa [Addr.add] using this
            subst hsp
            refine ⟨b', o', rfl, fun j y hy => ?_⟩
            have hj : j < L i := by have := (List.getElem?_eq_some_iff.1 hy).1; rw [hL i hil] at this; exact this
            have hc := h9 j (by omega)
            rw [Go.WideShapes.add_plain] at hc
            rw [List.getElem?_take_of_lt hj] at hy
            rw [List.getD_eq_getElem?_getD, hy] at hc
            exact ⟨hc, fun e => by have := World.block_lt_of_cell? W _ hc; unfold NewQ at e; simp only at this; omega⟩
          · rw [List.getElem?_eq_none (by simp; omega)] at hi
            cases hi
    · intro d hd
      obtain ⟨i, hi, rfl⟩ := List.mem_map.1 hd
      have hi' : i < len0 := by simpa using hi
      have h2 := hL i hi'
      obtain ⟨_, h3, h4, _⟩ := hx i (by omega)
      omega
end
end Go.Proofs.Ytidpldnkpacobaa
