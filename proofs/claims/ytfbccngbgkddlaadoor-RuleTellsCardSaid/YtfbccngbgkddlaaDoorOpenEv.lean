/-
  An argument that is an event, opened: its name, its tags, its whole numbers.
-/
import Derived.Test.YtfbccngbgkddlaaDoorLinePrints
import Derived.Deep.SlicePairs
import Derived.Deep.Fields
namespace Go.Proofs.YtfbccngbgkddlaaDoor
open Go.ChangeShapes Go.WideShapes Go.ChangeAt Go.RowKit Go.Deep
set_option linter.unusedVariables false

theorem cells_tag : Tryd.prog.cellsOf 44 = 2 := by kernel_rfl
theorem cells_ev : Tryd.prog.cellsOf 25 = 5 := by kernel_rfl
theorem cells_str : Tryd.prog.cellsOf 9 = 1 := by kernel_rfl
theorem cells_int : Tryd.prog.cellsOf 3 = 1 := by kernel_rfl
theorem cells_i64 : Tryd.prog.cellsOf 2 = 1 := by kernel_rfl
theorem cells_tags : Tryd.prog.cellsOf 23 = 1 := by kernel_rfl
theorem open_tags {H : Type} {enc : TypeId × Value → H} {W : World} {fuel : Nat} {cs : List Value} {x : DataW H × List MemPlace}
    (h : DataW.trod enc Tryd.prog W 0 (fun _ => true) true fuel 23 cs = some x) :
    ∃ (A : Option Addr) (c : Nat) (ts : Tags), cs = [.slice A ts.length c] ∧ RdT W A ts ∧ ts.length ≤ maxLen ∧ ∀ x y, (x, y) ∈ ts → x.size ≤ maxLen ∧ y.size ≤ maxLen := by
  rcases open_slice_pairs Tryd.underlying23 Tryd.underlying44 cells_tag rfl rfl cells_str cells_str h with ⟨rfl, _⟩ | ⟨a, len, cap, m, k, V0, V1, D0, D1, P0, P1, rfl, _, hl, hm, hmm, _, hc⟩
  · exact ⟨none, 0, [], rfl, .inl rfl, by simp, fun x y h => by simp at h⟩
  · simp only [if_true] at hmm
    subst hmm
    have hs : ∀ i, i < len → ∃ q : ByteArray × ByteArray, W.cell? (a.add (i * 2)) = some (.string q.1) ∧ W.cell? (a.add (i * 2 + 1)) = some (.string q.2) ∧ q.1.size ≤ maxLen ∧ q.2.size ≤ maxLen := by
      intro i hi
      obtain ⟨p0, p1, t0, t1⟩ := hc i (by omega)
      obtain ⟨x, e0, _, sx⟩ := DataW.trod_string Tryd.underlying9 t0
      obtain ⟨y, e1, _, sy⟩ := DataW.trod_string Tryd.underlying9 t1
      simp at e0 e1
      exact ⟨(x, y), by rw [p0, e0], by rw [p1, e1], sx, sy⟩
    obtain ⟨f, hf⟩ : ∃ f : Nat → ByteArray × ByteArray, ∀ i, i < len → W.cell? (a.add (i * 2)) = some (.string (f i).1) ∧ W.cell? (a.add (i * 2 + 1)) = some (.string (f i).2) ∧ (f i).1.size ≤ maxLen ∧ (f i).2.size ≤ maxLen :=
      ⟨fun i => if h : i < len then Classical.choose (hs i h) else (⟨#[]⟩, ⟨#[]⟩), fun i hi => by simp only [dif_pos hi]; exact Classical.choose_spec (hs i hi)⟩
    have hlen : ((List.range len).map f).length = len := by simp
    refine ⟨some a, m, (List.range len).map f, by rw [hlen], ?_, by omega, ?_⟩
    · by_cases h0 : len = 0
      · subst h0; exact .inl rfl
      · obtain ⟨b, o, spot⟩ := a
        have hsp : spot = none := by
          have := World.cell?_spot (hf 0 (by omega)).1
          simpa [Addr.add] using this
        subst hsp
        refine .inr ⟨b, o, rfl, fun i x y hi => ?_⟩
        rw [List.getElem?_map] at hi
        by_cases hil : i < len
        · rw [List.getElem?_range hil] at hi
          simp at hi
          obtain ⟨q0, q1, _, _⟩ := hf i hil
          rw [add_plain] at q0 q1
          rw [hi] at q0 q1
          exact ⟨q0, by rw [Nat.add_assoc]; exact q1⟩
        · rw [List.getElem?_eq_none (by simp; omega)] at hi
          cases hi
    · intro x y h
      obtain ⟨i, hi, e⟩ := List.mem_map.1 h
      have := hf i (by simpa using hi)
      rw [e] at this
      exact this.2.2
set_option maxRecDepth 100000 in
theorem open_event {H : Type} {enc : TypeId × Value → H} {W : World} {v : Value} {x : DataW H} {ps : List MemPlace} {r : Reach} {b0 : Nat}
    (hval : Value.okWide Tryd.prog W r b0 25 v) (hd : DataW.Trod enc Tryd.prog W 0 (fun _ => true) true 25 v x ps) :
    ∃ (n : ByteArray) (A : Option Addr) (c : Nat) (k val t : Int) (ts : Tags), v = evVal n A ts.length c k val t ∧ RdT W A ts ∧ Sized n ts ∧ -9223372036854775808 ≤ val ∧ val ≤ 9223372036854775807 := by
  obtain ⟨cs, rfl, hsz⟩ := okWide_struct Tryd.underlying25 hval
  rw [cells_ev] at hsz
  obtain ⟨l⟩ := cs
  match l, hsz with
  | [a0, a1, a2, a3, a4], _ =>
    obtain ⟨fuel, hf⟩ := hd
    obtain ⟨xs, n, _, _, _, hxs, hg⟩ := DataW.trod_struct Tryd.underlying25 hf
    match xs, hxs with
    | [y0, y1, y2, y3, y4], _ =>
      have g0 : DataW.trod enc Tryd.prog W 0 (fun _ => true) true n 9 (List.take (Tryd.prog.cellsOf 9) (List.drop 0 [a0, a1, a2, a3, a4])) = some y0 := hg 0 _ rfl
      rw [cells_str] at g0
      have g1 : DataW.trod enc Tryd.prog W 0 (fun _ => true) true n 23 (List.take (Tryd.prog.cellsOf 23) (List.drop 1 [a0, a1, a2, a3, a4])) = some y1 := hg 1 _ rfl
      rw [cells_tags] at g1
      have g2 : DataW.trod enc Tryd.prog W 0 (fun _ => true) true n 3 (List.take (Tryd.prog.cellsOf 3) (List.drop 2 [a0, a1, a2, a3, a4])) = some y2 := hg 2 _ rfl
      rw [cells_int] at g2
      have g3 : DataW.trod enc Tryd.prog W 0 (fun _ => true) true n 2 (List.take (Tryd.prog.cellsOf 2) (List.drop 3 [a0, a1, a2, a3, a4])) = some y3 := hg 3 _ rfl
      rw [cells_i64] at g3
      have g4 : DataW.trod enc Tryd.prog W 0 (fun _ => true) true n 2 (List.take (Tryd.prog.cellsOf 2) (List.drop 4 [a0, a1, a2, a3, a4])) = some y4 := hg 4 _ rfl
      rw [cells_i64] at g4
      simp only [List.drop_zero, List.drop_succ_cons, List.take_succ_cons, List.take_zero] at g0 g1 g2 g3 g4
      obtain ⟨s, e0, _, ss⟩ := DataW.trod_string Tryd.underlying9 g0
      obtain ⟨A, c, ts, e1, hr, hl, hx⟩ := open_tags g1
      obtain ⟨k, e2, _, _⟩ := DataW.trod_int Tryd.underlying3 g2
      obtain ⟨val, e3, _, w3⟩ := DataW.trod_int Tryd.underlying2 g3
      obtain ⟨t, e4, _, _⟩ := DataW.trod_int Tryd.underlying2 g4
      simp at e0 e1 e2 e3 e4
      subst e0 e1 e2 e3 e4
      unfold maxLen at ss hl hx
      have hb := bounds_i64 w3
      exact ⟨s, A, c, k, val, t, ts, rfl, hr, ⟨by omega, by omega, fun x y h => by have := hx x y h; omega⟩, by omega, by omega⟩
end Go.Proofs.YtfbccngbgkddlaaDoor
