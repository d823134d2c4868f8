/-
  Layer 4: rows of bytes of one's own, appended to by strings and by bytes that are laid for it; blocks of another kind stay.
-/
import Derived.Test.YtafianedoimchaaDoorLinePrintR
import Derived.Lib.AppendStr
import Derived.Laws.OwnMore
namespace Go.Proofs.YtafianedoimchaaDoor
open Go.ChangeShapes Go.WideShapes Go.ChangeAt Go.RowKit
set_option linter.unusedVariables false

theorem infoB : (Tryd.prog.info? 5).map (fun i => (i.zero, i.size, i.bytes)) = some (some (.int .u8 0), 1, 1) := by kernel_rfl
theorem info_parts {e : TypeId} {z : Value} {b : Nat} (h : (Tryd.prog.info? e).map (fun i => (i.zero, i.size, i.bytes)) = some (some z, 1, b)) :
    ∃ i, Tryd.prog.info? e = some i ∧ i.zero = some z ∧ i.size = 1 ∧ i.bytes = b := by
  cases hi : Tryd.prog.info? e with
  | none => rw [hi] at h; cases h
  | some i =>
    rw [hi] at h
    simp at h
    exact ⟨i, rfl, h.1, h.2.1, h.2.2⟩
/-- v is a row of bytes of one's own (or nil), and holds l. -/
def OB (w : World) (B : Nat) (v : Value) (l : List UInt8) : Prop := w.ownsRow B 5 1 v l.length (Lib.byteCells l)
/-- What becomes of a world while such a row grows. -/
structure Gr (B : Nat) (w w' : World) : Prop where
  below : Below B w w'
  kept : Lib.OthersKept 5 none w w'
theorem Gr.refl (B : Nat) (w : World) : Gr B w w := ⟨Below.refl _ _, Lib.OthersKept.refl _ _ _⟩
theorem Gr.trans {B : Nat} {w w1 w2 : World} (h : Gr B w w1) (k : Gr B w1 w2) : Gr B w w2 := ⟨h.below.trans k.below, h.kept.trans k.kept⟩
theorem Gr.alloc {B : Nat} {w w1 : World} (h : Gr B w w1) (hB : B ≤ w1.heap.size) (o : Obj) : Gr B w (w1.alloc o) := ⟨h.below.alloc hB _, h.kept.alloc _⟩
theorem Gr.size {B : Nat} {w w1 : World} (h : Gr B w w1) : w.heap.size ≤ w1.heap.size := h.below.size
theorem OB.nil (w : World) (B : Nat) : OB w B (.slice none 0 0) [] := World.ownsRow_nil _ _ _ _
theorem OB.alloc {w : World} {B : Nat} {v : Value} {l : List UInt8} (h : OB w B v l) (o : Obj) : OB (w.alloc o) B v l := World.ownsRow.alloc h o
theorem OB.kind {w : World} {B : Nat} {v : Value} {l : List UInt8} (h : OB w B v l) : ∀ g, v.ownBlock = some g → ∃ c fz, w.heap[g]? = some (.cells c 5 fz) := by
  intro g hg
  rcases h.2 with ⟨rfl, _⟩ | ⟨g', cap, cur, rfl, _, hc, _⟩
  · cases hg
  · simp only [Value.ownBlock, Option.some.injEq] at hg
    subst hg
    exact ⟨_, _, hc⟩
theorem OB.grown {w w' : World} {B : Nat} {v : Value} {l : List UInt8} (h : OB w B v l) (hB : B ≤ w.heap.size) (g : w.grownBy w' v.ownBlock) : Gr B w w' :=
  ⟨⟨g.os, g.tape, g.output, g.size, fun k hk => g.block k (by omega) (fun e => by have := World.ownsRow.lt h k e.symm; omega)⟩,
   fun k o hk _ ho => by
      rw [g.block k (lt_of_block hk) (fun e => by obtain ⟨c, fz, hc⟩ := h.kind k e.symm; rw [hk] at hc; cases hc; exact ho _ _ rfl)]
      exact hk⟩
theorem byteCells_app (x y : List UInt8) : Lib.byteCells (x ++ y) = Lib.byteCells x ++ Lib.byteCells y := by unfold Lib.byteCells; rw [List.map_append]
theorem ob_str {w : World} {B : Nat} {v : Value} {l : List UInt8} (h : OB w B v l) (s : ByteArray) (hl : l.length + s.size ≤ 1000000) (hB : B ≤ w.heap.size) :
    ∃ v' w', (Builtin.append_ #[44, 9] 44 #[v, .string s]).run Tryd.prog w = .ok v' w' ∧ OB w' B v' (l ++ s.data.toList) ∧ Gr B w w' := by
  obtain ⟨i, hi, hz0, hz1, hz2⟩ := info_parts infoB
  obtain ⟨v', w', hrun, hown, hgr, _⟩ := Lib.run_append_own_string (P := Tryd.prog) w B 44 9 44 5 i Tryd.underlying44 Tryd.underlying9 hi hz0 hz1 hz2 v _ _ h s (by unfold maxLen; omega) (by omega) hB
  refine ⟨v', w', hrun, ?_, h.grown hB hgr⟩
  unfold OB
  rw [byteCells_app, List.length_append, show s.data.toList.length = s.size by simp]
  exact hown
theorem ob_lit {w : World} {B : Nat} {v : Value} {l : List UInt8} (h : OB w B v l) (ys : List UInt8) (hl : l.length + ys.length ≤ 1000000) (hB : B ≤ w.heap.size) :
    ∃ v' w', (Builtin.append_ #[44, 44] 44 #[v, .slice (some ⟨w.heap.size, 0, none⟩) ys.length ys.length]).run Tryd.prog (w.alloc (.cells (Lib.byteCells ys).toArray 5)) = .ok v' w' ∧ OB w' B v' (l ++ ys) ∧ Gr B w w' := by
  obtain ⟨i, hi, hz0, hz1, hz2⟩ := info_parts infoB
  have hB' : B ≤ (w.alloc (.cells (Lib.byteCells ys).toArray 5)).heap.size := by simp; omega
  obtain ⟨v', w', hrun, hown, hgr, _⟩ := run_append_own (P := Tryd.prog) (w.alloc (.cells (Lib.byteCells ys).toArray 5)) B 44 44 5 i (.int .u8 0) 1 1 Tryd.underlying44 hi hz0 hz1 hz2 rfl (by omega) _ _ _ (h.alloc _) ⟨w.heap.size, 0, none⟩ ys.length ys.length (Lib.byteCells ys) (by simp [Lib.byteCells_length])
    (fun j u hu => by
      rw [show (⟨w.heap.size, 0, none⟩ : Addr).add j = ⟨w.heap.size, j, none⟩ by simp [Addr.add_lit], cell_of_block (heap_alloc_new w _)]
      simpa using hu)
    (fun u hu => by unfold Lib.byteCells at hu; obtain ⟨x, _, rfl⟩ := List.mem_map.1 hu; rfl) (by unfold maxLen; omega) (by omega) hB'
  refine ⟨v', w', hrun, ?_, ((Gr.refl B w).alloc hB _).trans ((h.alloc _).grown hB' hgr)⟩
  unfold OB
  rw [byteCells_app, List.length_append]
  exact hown
theorem OB.conv {w : World} {B : Nat} {v : Value} {l : List UInt8} (h : OB w B v l) (hl : l ≠ []) : (convert 44 9 v).run Tryd.prog w = .ok (.string ⟨l.toArray⟩) w := by
  rcases h.2 with ⟨rfl, e⟩ | ⟨g, cap, cur, rfl, _, hc, _, _, _, ht⟩
  · exact absurd (List.length_eq_zero_iff.1 e) hl
  · refine run_convert_bytes_back (P := Tryd.prog) w 44 9 5 ⟨g, 0, none⟩ cap l Tryd.underlying44 Tryd.underlying5 Tryd.underlying9 (fun j hj => ?_)
    exact World.ownsRow.cells h (g := g) rfl j _ (by unfold Lib.byteCells; rw [List.getElem?_map, List.getElem?_eq_getElem hj]; rfl)
theorem wpList_append_two {P : Program} {w w' : World} {ops : Array Oper} {rest : List Oper} {o : Oper} {a : Act} {Q : Exit → Act → World → Prop} (hgd : Region.wanted o (yielded ops a.tmps) = true) (s x : Operand) (t u : TypeId)
    (ho : o.op = .call { callee := .builtin .append, args := #[s, x], argTypes := #[t, u] }) (vs vx v' : Value) (hs : a.eval s = vs) (hx : a.eval x = vx)
    (hrun : (Builtin.append_ #[t, u] o.type #[vs, vx]).run P w = .ok v' w') (h : wpList P ops Q rest (a.put o.dst v') w') : wpList P ops Q (o :: rest) a w := by
  refine wpList_step fun K hK => ?_
  rw [if_pos hgd]
  unfold Oper.wp
  simp [execOp, ho, resolve, invoke, builtin, hs, hx, hrun, Result.andThen]
  exact hK _ _ h
theorem Gr.block {B : Nat} {w w' : World} (g : Gr B w w') {k : Nat} {o : Obj} (h : w.heap[k]? = some o) (ho : ∀ c fz, o ≠ .cells c 5 fz) : w'.heap[k]? = some o := g.kept k o h (by simp) ho
theorem EvB.gr {B : Nat} {w w' : World} {g : Nat} {n : ByteArray} {A : Option Addr} {l c : Nat} {k v t : Int} (h : EvB w g n A l c k v t) (r : Gr B w w') : EvB w' g n A l c k v t :=
  r.block h (fun _ _ e => by cases e)
theorem Go4.gr {w : World} {g : Nat} {n : ByteArray} {A : Option Addr} {c : Nat} {k v t : Int} {ts : Tags} {wr wr' : World} (h : Go4 w g n A c k v t ts wr) (hr : RdT w A ts) (r : Gr w.heap.size wr wr') : Go4 w g n A c k v t ts wr' :=
  ⟨h.below.trans r.below, h.ev.gr r, hr.below (h.below.trans r.below)⟩

/-- A round of Print's loop: a comma, the key, an equals sign, the value. -/
theorem round_made (w : World) (B : Nat) (v : Value) (l : List UInt8) (x y : ByteArray) (h : OB w B v l) (hB : B ≤ w.heap.size) (hl : l.length ≤ 5000) (sx : x.size ≤ 100) (sy : y.size ≤ 100) :
    ∃ v1 w1 v2 w2 v3 w3 v4 w4,
      (Builtin.append_ #[44, 44] 44 #[v, .slice (some ⟨w.heap.size + 1, 0, none⟩) 1 1]).run Tryd.prog ((w.alloc (.cells #[.string x, .string y] 32)).alloc (.cells #[.int .u8 44] 5)) = .ok v1 w1 ∧
      (Builtin.append_ #[44, 9] 44 #[v1, .string x]).run Tryd.prog w1 = .ok v2 w2 ∧
      (Builtin.append_ #[44, 44] 44 #[v2, .slice (some ⟨w2.heap.size, 0, none⟩) 1 1]).run Tryd.prog (w2.alloc (.cells #[.int .u8 61] 5)) = .ok v3 w3 ∧
      (Builtin.append_ #[44, 9] 44 #[v3, .string y]).run Tryd.prog w3 = .ok v4 w4 ∧
      w1.cell? ⟨w.heap.size, 0, none⟩ = some (.string x) ∧ w3.cell? ⟨w.heap.size, 1, none⟩ = some (.string y) ∧
      OB w4 B v4 (l ++ tagL (x, y)) ∧ Gr B w w4 := by
  have hx : x.data.toList.length = x.size := by simp
  have hy : y.data.toList.length = y.size := by simp
  have g0 := (Gr.refl B w).alloc hB (.cells #[.string x, .string y] 32)
  have hT : (w.alloc (.cells #[.string x, .string y] 32)).heap[w.heap.size]? = some (.cells #[.string x, .string y] 32 (0, 0)) := heap_alloc_new w _
  obtain ⟨v1, w1, r1, o1, g1⟩ := ob_lit (h.alloc (.cells #[.string x, .string y] 32)) [44] (by simp; omega) (Nat.le_trans hB g0.size)
  have g01 := g0.trans g1
  obtain ⟨v2, w2, r2, o2, g2⟩ := ob_str o1 x (by simp; omega) (Nat.le_trans hB g01.size)
  have g02 := g01.trans g2
  obtain ⟨v3, w3, r3, o3, g3⟩ := ob_lit o2 [61] (by simp; omega) (Nat.le_trans hB g02.size)
  have g03 := g02.trans g3
  obtain ⟨v4, w4, r4, o4, g4⟩ := ob_str o3 y (by simp; omega) (Nat.le_trans hB g03.size)
  refine ⟨v1, w1, v2, w2, v3, w3, v4, w4, ?_, r2, r3, r4, ?_, ?_, ?_, g03.trans g4⟩
  · rw [World.size_alloc] at r1; exact r1
  · exact cell_of_block (g1.block hT (fun _ _ e => by cases e))
  · exact cell_of_block ((g1.trans (g2.trans g3)).block hT (fun _ _ e => by cases e))
  · unfold tagL
    simpa using o4
end Go.Proofs.YtafianedoimchaaDoor
