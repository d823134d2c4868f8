/-
  Layer 14 (rule): rules as a list: a Prefix and a Class; read in memory, handed in.
-/
import Derived.Test.YtfbccngbgkddlaaDoorLineMem
import Derived.Deep.SlicePairs
import Derived.Deep.Fields
namespace Go.Proofs.YtfbccngbgkddlaaDoor
open Go.ChangeShapes Go.WideShapes Go.ChangeAt Go.RowKit Go.Deep
set_option linter.unusedVariables false

/-- A rule: its Prefix, its Class. -/
abbrev Ru := ByteArray × Int
def InZ (x : Int) : Prop := -9223372036854775808 ≤ x ∧ x ≤ 9223372036854775807
def FitRu (l : List Ru) : Prop := ∀ p c, (p, c) ∈ l → p.size ≤ 9223372036854775807 ∧ InZ c
/-- Rules that can be read. -/
def RdRu (w : World) (A : Option Addr) (l : List Ru) : Prop := l = [] ∨ ∃ b o, A = some ⟨b, o, none⟩ ∧ ∀ i p c, l[i]? = some (p, c) → w.cell? ⟨b, o + i * 2, none⟩ = some (.string p) ∧ w.cell? ⟨b, o + i * 2 + 1, none⟩ = some (.int .i64 c)
theorem RdRu.at {w : World} {A : Option Addr} {l : List Ru} (h : RdRu w A l) {i : Nat} {p : ByteArray} {c : Int} (hi : l[i]? = some (p, c)) :
    ∃ b o, A = some ⟨b, o, none⟩ ∧ ∀ w', Below w.heap.size w w' → w'.cell? ⟨b, o + i * 2, none⟩ = some (.string p) ∧ w'.cell? ⟨b, o + i * 2 + 1, none⟩ = some (.int .i64 c) := by
  rcases h with rfl | ⟨b, o, e, hc⟩
  · simp at hi
  · refine ⟨b, o, e, fun w' hb => ?_⟩
    obtain ⟨h1, h2⟩ := hc i p c hi
    have hl := World.block_lt_of_cell? w _ h1
    exact ⟨by rw [hb.cell (p := ⟨b, o + i * 2, none⟩) hl]; exact h1, by rw [hb.cell (p := ⟨b, o + i * 2 + 1, none⟩) hl]; exact h2⟩
theorem RdRu.below {w w' : World} {A : Option Addr} {l : List Ru} (h : RdRu w A l) (hb : Below w.heap.size w w') : RdRu w' A l := by
  rcases h with rfl | ⟨b, o, e, hc⟩
  · exact .inl rfl
  · refine .inr ⟨b, o, e, fun i p c hi => ?_⟩
    obtain ⟨h1, h2⟩ := hc i p c hi
    have hl := World.block_lt_of_cell? w _ h1
    exact ⟨by rw [hb.cell (p := ⟨b, o + i * 2, none⟩) hl]; exact h1, by rw [hb.cell (p := ⟨b, o + i * 2 + 1, none⟩) hl]; exact h2⟩
theorem cellsR_str : Tryd.prog.cellsOf 9 = 1 := by kernel_rfl
theorem cellsR_int : Tryd.prog.cellsOf 3 = 1 := by kernel_rfl
theorem cellsR_rule : Tryd.prog.cellsOf 42 = 2 := by kernel_rfl
section
variable {H : Type} {enc : TypeId × Value → H} {W : World}
set_option maxRecDepth 100000 in
theorem open_rules {v : Value} {x : DataW H} {ps : List MemPlace} {r : Reach} {b0 : Nat}
    (hval : Value.okWide Tryd.prog W r b0 22 v) (hd : DataW.Trod enc Tryd.prog W 0 (fun _ => true) true 22 v x ps) :
    ∃ (A : Option Addr) (c : Nat) (l : List Ru), v = .slice A l.length c ∧ RdRu W A l ∧ l.length ≤ 9223372036854775807 ∧ FitRu l ∧ (A = none → c = 0) := by
  obtain ⟨A, len, cap, rfl⟩ := okWide_slice Tryd.underlying22 hval
  obtain ⟨fuel, h⟩ := hd
  rcases open_slice_pairs Tryd.underlying22 Tryd.underlying42 cellsR_rule rfl rfl cellsR_str cellsR_int h with ⟨hcs, _⟩ | ⟨a, len', cap', m, k, V0, V1, D0, D1, P0, P1, hcs, _, hl, hm, hmm, _, hc⟩
  · simp [Value.cells] at hcs
    obtain ⟨rfl, rfl, rfl⟩ := hcs
    exact ⟨none, 0, [], rfl, .inl rfl, by simp, fun p c h => by simp at h, fun _ => rfl⟩
  · simp [Value.cells] at hcs
    obtain ⟨rfl, rfl, rfl⟩ := hcs
    simp only [if_true] at hmm
    subst hmm
    have hs : ∀ i, i < len → ∃ q : Ru, W.cell? (a.add (i * 2)) = some (.string q.1) ∧ W.cell? (a.add (i * 2 + 1)) = some (.int .i64 q.2) ∧ q.1.size ≤ maxLen ∧ InZ q.2 := by
      intro i hi
      obtain ⟨p0, p1, t0, t1⟩ := hc i (by omega)
      obtain ⟨x, e0, _, sx⟩ := DataW.trod_string Tryd.underlying9 t0
      obtain ⟨y, e1, _, w1⟩ := DataW.trod_int Tryd.underlying3 t1
      simp at e0 e1
      exact ⟨(x, y), by rw [p0, e0], by rw [p1, e1], sx, bounds_i64 w1⟩
    obtain ⟨f, hf⟩ : ∃ f : Nat → Ru, ∀ i, i < len → W.cell? (a.add (i * 2)) = some (.string (f i).1) ∧ W.cell? (a.add (i * 2 + 1)) = some (.int .i64 (f i).2) ∧ (f i).1.size ≤ maxLen ∧ InZ (f i).2 :=
      ⟨fun i => if h : i < len then Classical.choose (hs i h) else (⟨#[]⟩, 0), fun i hi => by simp only [dif_pos hi]; exact Classical.choose_spec (hs i hi)⟩
    have hlen : ((List.range len).map f).length = len := by simp
    unfold maxLen at hm hf
    refine ⟨some a, m, (List.range len).map f, by rw [hlen], ?_, by omega, ?_, fun h => by cases h⟩
    · by_cases h0 : len = 0
      · subst h0; exact .inl rfl
      · obtain ⟨b, o, spot⟩ := a
        have hsp : spot = none := by
          have := World.cell?_spot (hf 0 (by omega)).1
          simpa [Addr.add] using this
        subst hsp
        refine .inr ⟨b, o, rfl, fun i x y hi => ?_⟩
        rw [List.getElem?_map] at hi
        by_cases hil : i < len
        · rw [List.getElem?_range hil] at hi
          simp at hi
          obtain ⟨q0, q1, _, _⟩ := hf i hil
          rw [add_plain] at q0 q1
          rw [hi] at q0 q1
          exact ⟨q0, by rw [Nat.add_assoc]; exact q1⟩
        · rw [List.getElem?_eq_none (by simp; omega)] at hi
          cases hi
    · intro x y h
      obtain ⟨i, hi, e⟩ := List.mem_map.1 h
      have := hf i (by simpa using hi)
      rw [e] at this
      exact ⟨by have := this.2.2.1; omega, this.2.2.2⟩
set_option maxRecDepth 100000 in
theorem open_rule {v : Value} {x : DataW H} {ps : List MemPlace} {r : Reach} {b0 : Nat}
    (hval : Value.okWide Tryd.prog W r b0 42 v) (hd : DataW.Trod enc Tryd.prog W 0 (fun _ => true) true 42 v x ps) :
    ∃ (p : ByteArray) (c : Int), v = .agg #[.string p, .int .i64 c] ∧ p.size ≤ 9223372036854775807 ∧ InZ c := by
  obtain ⟨cs, rfl, hsz⟩ := okWide_struct Tryd.underlying42 hval
  rw [cellsR_rule] at hsz
  obtain ⟨l⟩ := cs
  match l, hsz with
  | [a0, a1], _ =>
    obtain ⟨fuel, hf⟩ := hd
    obtain ⟨xs, n, _, _, _, hxs, hg⟩ := DataW.trod_struct Tryd.underlying42 hf
    match xs, hxs with
    | [y0, y1], _ =>
      have g0 : DataW.trod enc Tryd.prog W 0 (fun _ => true) true n 9 (List.take (Tryd.prog.cellsOf 9) (List.drop 0 [a0, a1])) = some y0 := hg 0 _ rfl
      rw [cellsR_str] at g0
      have g1 : DataW.trod enc Tryd.prog W 0 (fun _ => true) true n 3 (List.take (Tryd.prog.cellsOf 3) (List.drop 1 [a0, a1])) = some y1 := hg 1 _ rfl
      rw [cellsR_int] at g1
      simp only [List.drop_zero, List.drop_succ_cons, List.take_succ_cons, List.take_zero] at g0 g1
      obtain ⟨s, e0, _, ss⟩ := DataW.trod_string Tryd.underlying9 g0
      obtain ⟨k, e1, _, w1⟩ := DataW.trod_int Tryd.underlying3 g1
      simp at e0 e1
      subst e0 e1
      unfold maxLen at ss
      exact ⟨s, k, rfl, by omega, bounds_i64 w1⟩
end
end Go.Proofs.YtfbccngbgkddlaaDoor
