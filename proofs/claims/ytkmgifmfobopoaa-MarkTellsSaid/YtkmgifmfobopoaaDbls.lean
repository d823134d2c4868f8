/-
  A list of structs of a bool and two int64 that is handed in, of any type (Dbi, RdB: XDbis).
-/
import Derived.Test.YtkmgifmfobopoaaDbis
namespace Go.Proofs.Ytkmgifmfobopoaa
open Go.ChangeShapes Go.WideShapes Go.ChangeAt Go.RowKit Go.Deep
set_option linter.unusedVariables false

theorem cells_intL : Try.prog.cellsOf 2 = 1 := by kernel_rfl
theorem cells_boolL : Try.prog.cellsOf 4 = 1 := by kernel_rfl
section
variable {H : Type} {enc : TypeId × Value → H} {W : World}
set_option maxRecDepth 100000 in
theorem open_dbl {te : TypeId} {f0 f1 f2 : Field} (hte : Try.prog.underlying te = some (.struct #[f0, f1, f2])) (ce : Try.prog.cellsOf te = 3) (o0 : f0.offset = 0) (o1 : f1.offset = 1) (o2 : f2.offset = 2) (t0 : f0.type = 4) (t1 : f1.type = 2) (t2 : f2.type = 2)
    {fuel : Nat} {cs : List Value} {x : DataW H × List MemPlace} (h : DataW.trod enc Try.prog W 0 (fun _ => true) true fuel te cs = some x) :
    ∃ t : Dbi, cs = dbiOf t ∧ FitD t := by
  obtain ⟨xs, n, _, _, hlen, hxs, hg⟩ := DataW.trod_struct hte h
  rw [ce] at hlen
  match cs, hlen with
  | [a0, a1, a2], _ =>
    match xs, hxs with
    | [y0, y1, y2], _ =>
      have g0 := hg 0 f0 rfl
      have g1 := hg 1 f1 rfl
      have g2 := hg 2 f2 rfl
      rw [o0, t0, cells_boolL] at g0
      rw [o1, t1, cells_intL] at g1
      rw [o2, t2, cells_intL] at g2
      simp only [List.drop_zero, List.drop_succ_cons, List.take_succ_cons, List.take_zero] at g0 g1 g2
      obtain ⟨k0, e0, _⟩ := DataW.trod_bool Try.underlying4 g0
      obtain ⟨k1, e1, _, w1⟩ := DataW.trod_int Try.underlying2 g1
      obtain ⟨k2, e2, _, w2⟩ := DataW.trod_int Try.underlying2 g2
      simp at e0 e1 e2
      subst e0 e1 e2
      exact ⟨⟨k0, k1, k2⟩, rfl, bounds_i64 w1, bounds_i64 w2⟩
theorem open_dbls {ts te : TypeId} {f0 f1 f2 : Field} (hts : Try.prog.underlying ts = some (.slice te)) (hte : Try.prog.underlying te = some (.struct #[f0, f1, f2])) (ce : Try.prog.cellsOf te = 3) (o0 : f0.offset = 0) (o1 : f1.offset = 1) (o2 : f2.offset = 2) (t0 : f0.type = 4) (t1 : f1.type = 2) (t2 : f2.type = 2)
    {v : Value} {x : DataW H} {ps : List MemPlace} {r : Reach} {b0 : Nat}
    (hval : Value.okWide Try.prog W r b0 ts v) (hd : DataW.Trod enc Try.prog W 0 (fun _ => true) true ts v x ps) :
    ∃ (A : Option Addr) (c : Nat) (l : List Dbi), v = .slice A l.length c ∧ RdB W A l ∧ l.length ≤ maxLen ∧ ∀ t ∈ l, FitD t := by
  obtain ⟨A0, len0, cap0, rfl⟩ := okWide_slice hts hval
  obtain ⟨fuel, h⟩ := hd
  rcases open_slice hts h with ⟨hcs, _⟩ | ⟨a, len, cap, m, n, D, Pl, hcs, _, hl, hm, hmm, _, hx⟩
  · simp [Value.cells] at hcs
    obtain ⟨rfl, rfl, rfl⟩ := hcs
    exact ⟨none, 0, [], rfl, .inl rfl, by simp, fun d h => by simp at h⟩
  · simp [Value.cells] at hcs
    obtain ⟨rfl, rfl, rfl⟩ := hcs
    simp only [if_true] at hmm
    subst hmm
    have each : ∀ i, i < len0 → ∃ t : Dbi, (∀ j, j < 3 → W.cell? (a.add (i * 3 + j)) = (dbiOf t)[j]?) ∧ FitD t := by
      intro i hi
      obtain ⟨cs', h1, h2⟩ := hx i (by omega)
      rw [ce] at h1
      obtain ⟨_, hlen, hcell⟩ := World.cells?_some h1
      obtain ⟨t, rfl, hf⟩ := open_dbl hte ce o0 o1 o2 t0 t1 t2 h2
      exact ⟨t, fun j hj => by have := hcell j hj; rwa [Go.Deep.add_add] at this, hf⟩
    obtain ⟨f, hf⟩ : ∃ f : Nat → Dbi, ∀ i, i < len0 → (∀ j, j < 3 → W.cell? (a.add (i * 3 + j)) = (dbiOf (f i))[j]?) ∧ FitD (f i) :=
      ⟨fun i => if h : i < len0 then Classical.choose (each i h) else ⟨false, 0, 0⟩, fun i hi => by simp only [dif_pos hi]; exact Classical.choose_spec (each i hi)⟩
    have hlen : ((List.range len0).map f).length = len0 := by simp
    refine ⟨some a, _, (List.range len0).map f, by rw [hlen], ?_, by omega, ?_⟩
    · by_cases h0 : len0 = 0
      · subst h0; exact .inl rfl
      · obtain ⟨b, o, spot⟩ := a
        have hsp : spot = none := by
          have h8 : W.cell? ((⟨b, o, spot⟩ : Addr).add (0 * 3 + 0)) = some (.bool (f 0).b) := (hf 0 (by omega)).1 0 (by omega)
          have := World.cell?_spot h8
          simpa [Addr.add] using this
        subst hsp
        refine .inr ⟨b, o, rfl, fun i t hi j hj => ?_⟩
        rw [List.getElem?_map] at hi
        by_cases hil : i < len0
        · rw [List.getElem?_range hil] at hi
          obtain rfl := Option.some.inj hi
          have := (hf i hil).1 j hj
          rw [Go.WideShapes.add_plain] at this
          rw [Nat.add_assoc]
          exact this
        · rw [List.getElem?_eq_none (by simp; omega)] at hi
          cases hi
    · intro t ht
      obtain ⟨i, hi, rfl⟩ := List.mem_map.1 ht
      exact (hf i (by simpa using hi)).2
end
end Go.Proofs.Ytkmgifmfobopoaa
