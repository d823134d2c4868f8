/-
  What the law on sorting leans on: how often an element is there, a list appended to none, three lists that are read.
-/
import Derived.Test.YthjdcailnibeiaaEdgeUp
import Derived.Deep.AppendSrc
namespace Go.Proofs.Ythjdcailnibeiaa
open Go.ChangeShapes Go.WideShapes Go.ChangeAt Go.RowKit
set_option linter.unusedVariables false

/-- How many of the first k are alike to v. -/
def cnt (d : Array UInt64) (v : Nat) : Nat → Int
  | 0 => 0
  | k + 1 => cnt d v k + (if alike d[k]!.toNat v = true then 1 else 0)
theorem cnt_bd (d : Array UInt64) (v k : Nat) : 0 ≤ cnt d v k ∧ cnt d v k ≤ k := by
  induction k with
  | zero => exact ⟨Int.le_refl _, Int.le_refl _⟩
  | succ k ih =>
    show 0 ≤ cnt d v k + _ ∧ cnt d v k + _ ≤ _
    split <;> omega
theorem cnt_take (d : Array UInt64) (v k : Nat) (hk : k ≤ d.size) : cnt d v k = ((d.toList.take k).countP (fun x => alike x.toNat v) : Nat) := by
  induction k with
  | zero => rfl
  | succ k ih =>
    show cnt d v k + _ = _
    rw [ih (by omega), List.take_add_one, Array.getElem?_toList, Array.getElem?_eq_getElem (by omega), List.countP_append, getElem!_pos d k (by omega)]
    by_cases h : alike d[k].toNat v = true <;> simp [h]
theorem cnt_perm {d d' : Array UInt64} (h : Go.Sort.PermIn 0 d.size d d') (v : Nat) : cnt d v d.size = cnt d' v d.size := by
  obtain ⟨hz, _, hp⟩ := h
  have e1 : d'.extract 0 d.size = d' := by rw [← hz]; exact Array.extract_size
  have e2 : d.extract 0 d.size = d := Array.extract_size
  rw [e1, e2] at hp
  rw [cnt_take d v _ (Nat.le_refl _), cnt_take d' v _ (by omega)]
  rw [List.take_of_length_le (by simp), List.take_of_length_le (by simp [hz])]
  rw [hp.countP_eq]

theorem append_new (w : World) (b : Nat) (A : Option Addr) (d : Array UInt64) (cap : Nat) (hr : RdF w A d) (hsz : d.size ≤ 100) (hb : b < w.heap.size) :
    ∃ A' cap' W3, (Builtin.append_ #[25, 25] 25 #[.slice (some ⟨b, 0, none⟩) 0 0, .slice A d.size cap]).run Try.prog w = .ok (.slice (some A') d.size cap') W3 ∧
      RdF W3 (some A') d ∧ A'.block < W3.heap.size ∧ Below w.heap.size w W3 := by
  obtain ⟨i0, hi, hz0, hz1, hz2⟩ := info_parts infoF
  by_cases h0 : d.size = 0
  · have hsrc : Src Try.prog i0.size 25 (.slice A 0 cap) 0 [] w := by
      cases A with
      | none => exact Src.ofNil w Try.underlying25 cap
      | some ad => exact Src.ofSlice w Try.underlying25 ad 0 cap [] (by simp) (fun j u h => by simp at h) (fun u h => by simp at h)
    have hrun := run_append_room_src (P := Try.prog) w 25 25 25 22 i0 Try.underlying25 hi b 0 0 0 _ 0 [] hsrc (by omega) (fun j h => by simp at h) (fun j h => by simp at h)
    rw [h0]
    exact ⟨_, _, _, hrun, fun i hi => by omega, hb, Below.refl _ _⟩
  · obtain ⟨ad, rfl, _⟩ := hr 0 (by omega)
    have hl : (d.toList.map encF).length = d.size := by simp
    have hcell : ∀ j v, (d.toList.map encF)[j]? = some v → w.cell? (ad.add j) = some v := by
      intro j v hv
      rw [List.getElem?_map] at hv
      by_cases hj : j < d.size
      · obtain ⟨ad', e, hc⟩ := hr j hj
        cases e
        rw [hc]
        rw [Array.getElem?_toList, Array.getElem?_eq_getElem hj] at hv
        simp at hv
        rw [← hv, getElem!_pos d j hj]
      · rw [Array.getElem?_toList, Array.getElem?_eq_none (by omega)] at hv
        simp at hv
    have hone : ∀ u ∈ d.toList.map encF, u.oneCell' = true := by
      intro u hu
      obtain ⟨x, _, rfl⟩ := List.mem_map.1 hu
      rfl
    have hsrc : Src Try.prog i0.size 25 (.slice (some ad) d.size cap) d.size (d.toList.map encF) w := Src.ofSlice w Try.underlying25 ad d.size cap _ (by rw [hl, hz1]; omega) hcell hone
    have hrun := run_append_grow_src (P := Try.prog) w 25 25 25 22 i0 (.float .f64 0) Try.underlying25 hi hz0 (some ⟨b, 0, none⟩) 0 0 [] (by simpa using run_firstCells_some (P := Try.prog) w.drew i0.size 0 ⟨b, 0, none⟩ 0 0 [] (by simp) (by simp)) _ d.size _ hsrc (by omega) (by omega) (by
      rw [hz2]; unfold Builtin.nextslicecap; rw [if_pos (by omega)]; omega)
    simp only [Nat.zero_add, List.nil_append] at hrun
    refine ⟨_, _, _, hrun, ?_, by simp, ?_⟩
    · intro i hi'
      refine ⟨_, rfl, ?_⟩
      rw [add_zero_off]
      show (w.drew.alloc _).cell? ⟨w.drew.heap.size, i, none⟩ = _
      rw [World.cell?_alloc_new, Array.getElem?_append_left (by simpa using hi')]
      simp [hi']
    · exact ((Below.refl _ w).drew).alloc (Nat.le_refl _) _

theorem wpList_append_run {P : Program} {w w' : World} {ops : Array Oper} {rest : List Oper} {o : Oper} {a : Act} {Q : Exit → Act → World → Prop} (hgd : o.guard = none) (s x : Operand) (t : TypeId)
    (ho : o.op = .call { callee := .builtin .append, args := #[s, x], argTypes := #[t, t] }) (vs vx v' : Value) (hs : a.eval s = vs) (hx : a.eval x = vx)
    (hrun : (Builtin.append_ #[t, t] o.type #[vs, vx]).run P w = .ok v' w') (h : wpList P ops Q rest (a.put o.dst v') w') : wpList P ops Q (o :: rest) a w := by
  refine wpList_plain hgd fun K hK => ?_
  unfold Oper.wp
  simp [execOp, ho, resolve, invoke, builtin, hs, hx, hrun, Result.andThen]
  exact hK _ _ h

theorem RdF.grown {w : World} {A : Option Addr} {d : Array UInt64} (h : RdF w A d) (n : Nat) (os : Array Obj) : RdF (Go.Sort.grow (w.drewN n) os) A d := by
  intro i hi
  obtain ⟨ad, e, hc⟩ := h i hi
  exact ⟨ad, e, cell_grown (World.block_lt_of_cell? w _ hc) hc n os⟩
theorem below_grown {B : Nat} {w0 w : World} (h : Below B w0 w) (hB : B ≤ w.heap.size) (n : Nat) (os : Array Obj) : Below B w0 (Go.Sort.grow (w.drewN n) os) :=
  ⟨h.os, h.tape, h.output, by rw [Go.Sort.size_grow]; exact Nat.le_trans h.size (Nat.le_add_right _ _), fun k hk => by
    rw [Go.Sort.heap_grow_old (w.drewN n) os (by show k < w.heap.size; omega)]; exact h.block k hk⟩
theorem bools_grown {f : FuncId} {args : Array Value} {w : World} {x : Bool} (h : Calls Try.prog f args w (Bools x w)) :
    Calls Try.prog f args w fun e w' => e = .returned (.bool x) ∧ ∃ q os', w' = Go.Sort.grow (w.drewN q) os' :=
  h.mono fun _ _ ⟨he, hw⟩ => ⟨he, 0, #[], by rw [← hw, Go.Sort.grow_empty]; rfl⟩

/-- What the loops of the law lean on: the three lists, and that nothing old has turned. -/
structure Three (w0 : World) (A : Option Addr) (aO aS : Addr) (d d' : Array UInt64) (w : World) : Prop where
  l : RdF w A d
  o : RdF w (some aO) d
  s : RdF w (some aS) d'
  b : Below w0.heap.size w0 w
theorem Three.grown {w0 : World} {A : Option Addr} {aO aS : Addr} {d d' : Array UInt64} {w : World} (h : Three w0 A aO aS d d' w) (n : Nat) (os : Array Obj) : Three w0 A aO aS d d' (Go.Sort.grow (w.drewN n) os) :=
  ⟨h.l.grown n os, h.o.grown n os, h.s.grown n os, below_grown h.b h.b.size n os⟩
theorem Three.cl {w : World} {A : Addr} {d : Array UInt64} (h : RdF w (some A) d) (i : Nat) (hi : i < d.size) {x : Nat} (hx : d[i]!.toNat = x) : ∀ n os, (Go.Sort.grow (w.drewN n) os).cell? (A.add i) = some (.float .f64 x) := by
  intro n os
  obtain ⟨ad, e, hc⟩ := h.grown n os i hi
  cases e
  rw [hc, ← hx]; rfl
end Go.Proofs.Ythjdcailnibeiaa
