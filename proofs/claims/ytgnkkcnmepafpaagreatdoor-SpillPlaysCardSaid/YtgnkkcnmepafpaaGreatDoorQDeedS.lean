/-
  Layer 21 (spill): the law's deeds, a list of structs that hold a batch each, that is handed in.
-/
import Derived.Test.YtgnkkcnmepafpaaGreatDoorGrpJ
namespace Go.Proofs.YtgnkkcnmepafpaaGreatDoor
open Go.ChangeShapes Go.WideShapes Go.ChangeAt Go.RowKit Go.Deep
set_option linter.unusedVariables false

/-- A deed. -/
structure DeedS where
  what : Int
  n : Int
  b : Bt
def InS (x : Int) : Prop := -9223372036854775808 ≤ x ∧ x ≤ 9223372036854775807
structure FitS (t : DeedS) : Prop where
  what : InS t.what
  n : InS t.n
  wide : WideR t.b.rows
  fit : ∀ r ∈ t.b.rows, FitR r
def deedS (t : DeedS) (B : Option Addr) (c : Nat) : List Value := [.int .i64 t.what, .int .i64 t.n, .int .i64 t.b.seq, .int .i64 t.b.start, .slice B t.b.rows.length c]
/-- Deeds that were handed in. -/
def RdDS (w : World) (A : Option Addr) (l : List DeedS) : Prop := l = [] ∨ ∃ b o, A = some ⟨b, o, none⟩ ∧ ∀ (i : Nat) (t : DeedS), l[i]? = some t → ∃ B c, (∀ j, j < 5 → w.cell? ⟨b, o + i * 5 + j, none⟩ = (deedS t B c)[j]?) ∧ RdR w B t.b.rows
theorem RdDS.at {w : World} {A : Option Addr} {l : List DeedS} (h : RdDS w A l) {i : Nat} {t : DeedS} (hi : l[i]? = some t) :
    ∃ b o B c, A = some ⟨b, o, none⟩ ∧ ∀ w', Below w.heap.size w w' → w'.cell? ⟨b, o + i * 5, none⟩ = some (.int .i64 t.what) ∧ w'.cell? ⟨b, o + i * 5 + 1, none⟩ = some (.int .i64 t.n) ∧ w'.cell? ⟨b, o + i * 5 + 2, none⟩ = some (.int .i64 t.b.seq) ∧ w'.cell? ⟨b, o + i * 5 + 3, none⟩ = some (.int .i64 t.b.start) ∧ w'.cell? ⟨b, o + i * 5 + 4, none⟩ = some (.slice B t.b.rows.length c) ∧ RdR w' B t.b.rows := by
  rcases h with rfl | ⟨b, o, e, hc⟩
  · simp at hi
  · obtain ⟨B, c, hj, hr⟩ := hc i t hi
    refine ⟨b, o, B, c, e, fun w' hb => ?_⟩
    have h0 : w.cell? ⟨b, o + i * 5, none⟩ = some (.int .i64 t.what) := hj 0 (by omega)
    have h1 : w.cell? ⟨b, o + i * 5 + 1, none⟩ = some (.int .i64 t.n) := hj 1 (by omega)
    have h2 : w.cell? ⟨b, o + i * 5 + 2, none⟩ = some (.int .i64 t.b.seq) := hj 2 (by omega)
    have h3 : w.cell? ⟨b, o + i * 5 + 3, none⟩ = some (.int .i64 t.b.start) := hj 3 (by omega)
    have h4 : w.cell? ⟨b, o + i * 5 + 4, none⟩ = some (.slice B t.b.rows.length c) := hj 4 (by omega)
    have hl := World.block_lt_of_cell? w _ h0
    exact ⟨by rw [hb.cell (p := ⟨b, o + i * 5, none⟩) hl]; exact h0, by rw [hb.cell (p := ⟨b, o + i * 5 + 1, none⟩) hl]; exact h1, by rw [hb.cell (p := ⟨b, o + i * 5 + 2, none⟩) hl]; exact h2, by rw [hb.cell (p := ⟨b, o + i * 5 + 3, none⟩) hl]; exact h3, by rw [hb.cell (p := ⟨b, o + i * 5 + 4, none⟩) hl]; exact h4, hr.below hb (Nat.le_refl _)⟩
theorem cells_deedS : Tryz.prog.cellsOf 50 = 5 := by kernel_rfl
section
variable {H : Type} {enc : TypeId × Value → H} {W : World}
set_option maxRecDepth 100000 in
theorem open_deedS {fuel : Nat} {cs : List Value} {x : DataW H × List MemPlace} (h : DataW.trod enc Tryz.prog W 0 (fun _ => true) true fuel 50 cs = some x) :
    ∃ (t : DeedS) (B : Option Addr) (c : Nat), cs = deedS t B c ∧ RdR W B t.b.rows ∧ FitS t := by
  obtain ⟨xs, n, _, _, hlen, hxs, hg⟩ := DataW.trod_struct Tryz.underlying50 h
  rw [cells_deedS] at hlen
  match cs, hlen with
  | [a0, a1, a2, a3, a4], _ =>
    match xs, hxs with
    | [y0, y1, y2], _ =>
      have g0 : DataW.trod enc Tryz.prog W 0 (fun _ => true) true n 3 (List.take (Tryz.prog.cellsOf 3) (List.drop 0 [a0, a1, a2, a3, a4])) = some y0 := hg 0 _ rfl
      rw [cells_int] at g0
      have g1 : DataW.trod enc Tryz.prog W 0 (fun _ => true) true n 3 (List.take (Tryz.prog.cellsOf 3) (List.drop 1 [a0, a1, a2, a3, a4])) = some y1 := hg 1 _ rfl
      rw [cells_int] at g1
      have g2 : DataW.trod enc Tryz.prog W 0 (fun _ => true) true n 48 (List.take (Tryz.prog.cellsOf 48) (List.drop 2 [a0, a1, a2, a3, a4])) = some y2 := hg 2 _ rfl
      rw [cells_bt] at g2
      simp only [List.drop_zero, List.drop_succ_cons, List.take_succ_cons, List.take_zero] at g0 g1 g2
      obtain ⟨k0, e0, _, w0⟩ := DataW.trod_int Tryz.underlying3 g0
      obtain ⟨k1, e1, _, w1⟩ := DataW.trod_int Tryz.underlying3 g1
      obtain ⟨zs, n2, _, _, _, hzs, hz⟩ := DataW.trod_struct Tryz.underlying48 g2
      match zs, hzs with
      | [z0, z1, z2], _ =>
        have q0 : DataW.trod enc Tryz.prog W 0 (fun _ => true) true n2 3 (List.take (Tryz.prog.cellsOf 3) (List.drop 0 [a2, a3, a4])) = some z0 := hz 0 _ rfl
        rw [cells_int] at q0
        have q1 : DataW.trod enc Tryz.prog W 0 (fun _ => true) true n2 2 (List.take (Tryz.prog.cellsOf 2) (List.drop 1 [a2, a3, a4])) = some z1 := hz 1 _ rfl
        rw [cells_i64] at q1
        have q2 : DataW.trod enc Tryz.prog W 0 (fun _ => true) true n2 46 (List.take (Tryz.prog.cellsOf 46) (List.drop 2 [a2, a3, a4])) = some z2 := hz 2 _ rfl
        rw [cells_rows] at q2
        simp only [List.drop_zero, List.drop_succ_cons, List.take_succ_cons, List.take_zero] at q0 q1 q2
        obtain ⟨s, f0, _, _⟩ := DataW.trod_int Tryz.underlying3 q0
        obtain ⟨t, f1, _, _⟩ := DataW.trod_int Tryz.underlying2 q1
        obtain ⟨A, c, rows, f2, hr, hl, hx⟩ := open_rows q2
        simp at e0 e1 f0 f1 f2
        subst e0 e1 f0 f1 f2
        unfold maxLen at hl hx
        exact ⟨⟨k0, k1, ⟨s, t, rows⟩⟩, A, c, rfl, hr, bounds_i64 w0, bounds_i64 w1, ⟨by simp only; omega, fun r h => by have := hx r h; omega⟩, fun r h => (hx r h).1⟩
set_option maxRecDepth 100000 in
theorem open_deedsS
    {v : Value} {x : DataW H} {ps : List MemPlace} {r : Reach} {b0 : Nat}
    (hval : Value.okWide Tryz.prog W r b0 23 v) (hd : DataW.Trod enc Tryz.prog W 0 (fun _ => true) true 23 v x ps) :
    ∃ (A : Option Addr) (c : Nat) (l : List DeedS), v = .slice A l.length c ∧ RdDS W A l ∧ l.length ≤ maxLen ∧ ∀ t ∈ l, FitS t := by
  obtain ⟨A0, len0, cap0, rfl⟩ := okWide_slice Tryz.underlying23 hval
  obtain ⟨fuel, h⟩ := hd
  rcases open_slice Tryz.underlying23 h with ⟨hcs, _⟩ | ⟨a, len, cap, m, n, D, Pl, hcs, _, hl, hm, hmm, _, hx⟩
  · simp [Value.cells] at hcs
    obtain ⟨rfl, rfl, rfl⟩ := hcs
    exact ⟨none, 0, [], rfl, .inl rfl, by simp, fun d h => by simp at h⟩
  · simp [Value.cells] at hcs
    obtain ⟨rfl, rfl, rfl⟩ := hcs
    simp only [if_true] at hmm
    subst hmm
    have each : ∀ i, i < len0 → ∃ q : DeedS × Option Addr × Nat, (∀ j, j < 5 → W.cell? (a.add (i * 5 + j)) = (deedS q.1 q.2.1 q.2.2)[j]?) ∧ RdR W q.2.1 q.1.b.rows ∧ FitS q.1 := by
      intro i hi
      obtain ⟨cs', h1, h2⟩ := hx i (by omega)
      rw [cells_deedS] at h1
      obtain ⟨_, hlen, hcell⟩ := World.cells?_some h1
      obtain ⟨t, B, c, rfl, rd, hf⟩ := open_deedS h2
      exact ⟨(t, B, c), fun j hj => by have := hcell j hj; rwa [Go.Deep.add_add] at this, rd, hf⟩
    obtain ⟨f, hf⟩ : ∃ f : Nat → DeedS × Option Addr × Nat, ∀ i, i < len0 → (∀ j, j < 5 → W.cell? (a.add (i * 5 + j)) = (deedS (f i).1 (f i).2.1 (f i).2.2)[j]?) ∧ RdR W (f i).2.1 (f i).1.b.rows ∧ FitS (f i).1 :=
      ⟨fun i => if h : i < len0 then Classical.choose (each i h) else (⟨0, 0, ⟨0, 0, []⟩⟩, none, 0), fun i hi => by simp only [dif_pos hi]; exact Classical.choose_spec (each i hi)⟩
    have hlen : ((List.range len0).map fun i => (f i).1).length = len0 := by simp
    refine ⟨some a, _, (List.range len0).map fun i => (f i).1, by rw [hlen], ?_, by omega, ?_⟩
    · by_cases h0 : len0 = 0
      · subst h0; exact .inl rfl
      · obtain ⟨b, o, spot⟩ := a
        have hsp : spot = none := by
          have h8 : W.cell? ((⟨b, o, spot⟩ : Addr).add (0 * 5 + 0)) = some (.int .i64 (f 0).1.what) := (hf 0 (by omega)).1 0 (by omega)
          have := World.cell?_spot h8
          simpa [Addr.add] using this
        subst hsp
        refine .inr ⟨b, o, rfl, fun i t hi => ?_⟩
        rw [List.getElem?_map] at hi
        by_cases hil : i < len0
        · rw [List.getElem?_range hil] at hi
          obtain rfl := Option.some.inj hi
          exact ⟨(f i).2.1, (f i).2.2, fun j hj => by
            have := (hf i hil).1 j hj
            rw [Go.WideShapes.add_plain] at this
            rw [Nat.add_assoc]
            exact this, (hf i hil).2.1⟩
        · rw [List.getElem?_eq_none (by simp; omega)] at hi
          cases hi
    · intro t ht
      obtain ⟨i, hi, rfl⟩ := List.mem_map.1 ht
      exact (hf i (by simpa using hi)).2.2
end
end Go.Proofs.YtgnkkcnmepafpaaGreatDoor
