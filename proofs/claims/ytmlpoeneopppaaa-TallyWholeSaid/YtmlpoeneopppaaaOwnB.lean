/-
  Rows of bytes of one's own, appended to by strings, by bytes that are laid for it and by bytes that lie elsewhere; blocks of another kind stay.
-/
import Derived.Test.YtmlpoeneopppaaaLineMem
import Derived.Lib.AppendStr
import Derived.Lib.OthersKept
import Derived.Laws.AppendOwn
import Derived.Laws.OwnMore
import Derived.Laws.MakeOwn
import Derived.Laws.BytesArg
import Derived.Lib.ConvBytes
import Derived.DataElems
namespace Go.Proofs.Ytmlpoeneopppaaa
open Go.ChangeShapes Go.WideShapes Go.ChangeAt Go.RowKit
set_option linter.unusedVariables false

theorem infoB : (Try.prog.info? 5).map (fun i => (i.zero, i.size, i.bytes)) = some (some (.int .u8 0), 1, 1) := by kernel_rfl
theorem info_parts {e : TypeId} {z : Value} {b : Nat} (h : (Try.prog.info? e).map (fun i => (i.zero, i.size, i.bytes)) = some (some z, 1, b)) :
    ∃ i, Try.prog.info? e = some i ∧ i.zero = some z ∧ i.size = 1 ∧ i.bytes = b := by
  cases hi : Try.prog.info? e with
  | none => rw [hi] at h; cases h
  | some i =>
    rw [hi] at h
    simp at h
    exact ⟨i, rfl, h.1, h.2.1, h.2.2⟩
/-- v is a row of bytes of one's own (or nil), and holds l. -/
def OB (w : World) (B : Nat) (v : Value) (l : List UInt8) : Prop := w.ownsRow B 5 1 v l.length (Lib.byteCells l)
/-- What becomes of a world while such a row grows. -/
structure Gr (B : Nat) (w w' : World) : Prop where
  below : Below B w w'
  kept : Lib.OthersKept 5 none w w'
theorem Gr.refl (B : Nat) (w : World) : Gr B w w := ⟨Below.refl _ _, Lib.OthersKept.refl _ _ _⟩
theorem Gr.trans {B : Nat} {w w1 w2 : World} (h : Gr B w w1) (k : Gr B w1 w2) : Gr B w w2 := ⟨h.below.trans k.below, h.kept.trans k.kept⟩
theorem Gr.alloc {B : Nat} {w w1 : World} (h : Gr B w w1) (hB : B ≤ w1.heap.size) (o : Obj) : Gr B w (w1.alloc o) := ⟨h.below.alloc hB _, h.kept.alloc _⟩
theorem Gr.size {B : Nat} {w w1 : World} (h : Gr B w w1) : w.heap.size ≤ w1.heap.size := h.below.size
theorem OB.nil (w : World) (B : Nat) : OB w B (.slice none 0 0) [] := World.ownsRow_nil _ _ _ _
theorem OB.alloc {w : World} {B : Nat} {v : Value} {l : List UInt8} (h : OB w B v l) (o : Obj) : OB (w.alloc o) B v l := World.ownsRow.alloc h o
theorem OB.kind {w : World} {B : Nat} {v : Value} {l : List UInt8} (h : OB w B v l) : ∀ g, v.ownBlock = some g → ∃ c fz, w.heap[g]? = some (.cells c 5 fz) := by
  intro g hg
  rcases h.2 with ⟨rfl, _⟩ | ⟨g', cap, cur, rfl, _, hc, _⟩
  · cases hg
  · simp only [Value.ownBlock, Option.some.injEq] at hg
    subst hg
    exact ⟨_, _, hc⟩
theorem OB.grown {w w' : World} {B : Nat} {v : Value} {l : List UInt8} (h : OB w B v l) (hB : B ≤ w.heap.size) (g : w.grownBy w' v.ownBlock) : Gr B w w' :=
  ⟨⟨g.os, g.tape, g.output, g.size, fun k hk => g.block k (by omega) (fun e => by have := World.ownsRow.lt h k e.symm; omega)⟩,
   fun k o hk _ ho => by
      rw [g.block k (lt_of_block hk) (fun e => by obtain ⟨c, fz, hc⟩ := h.kind k e.symm; rw [hk] at hc; cases hc; exact ho _ _ rfl)]
      exact hk⟩
theorem byteCells_app (x y : List UInt8) : Lib.byteCells (x ++ y) = Lib.byteCells x ++ Lib.byteCells y := by unfold Lib.byteCells; rw [List.map_append]
theorem ob_str {w : World} {B : Nat} {v : Value} {l : List UInt8} (h : OB w B v l) (s : ByteArray) (hl : l.length + s.size ≤ 1000000) (hB : B ≤ w.heap.size) :
    ∃ v' w', (Builtin.append_ #[45, 9] 45 #[v, .string s]).run Try.prog w = .ok v' w' ∧ OB w' B v' (l ++ s.data.toList) ∧ Gr B w w' := by
  obtain ⟨i, hi, hz0, hz1, hz2⟩ := info_parts infoB
  obtain ⟨v', w', hrun, hown, hgr, _⟩ := Lib.run_append_own_string (P := Try.prog) w B 45 9 45 5 i Try.underlying45 Try.underlying9 hi hz0 hz1 hz2 v _ _ h s (by unfold maxLen; omega) (by omega) hB
  refine ⟨v', w', hrun, ?_, h.grown hB hgr⟩
  unfold OB
  rw [byteCells_app, List.length_append, show s.data.toList.length = s.size by simp]
  exact hown
theorem ob_lit {w : World} {B : Nat} {v : Value} {l : List UInt8} (h : OB w B v l) (ys : List UInt8) (hl : l.length + ys.length ≤ 1000000) (hB : B ≤ w.heap.size) :
    ∃ v' w', (Builtin.append_ #[45, 45] 45 #[v, .slice (some ⟨w.heap.size, 0, none⟩) ys.length ys.length]).run Try.prog (w.alloc (.cells (Lib.byteCells ys).toArray 5)) = .ok v' w' ∧ OB w' B v' (l ++ ys) ∧ Gr B w w' := by
  obtain ⟨i, hi, hz0, hz1, hz2⟩ := info_parts infoB
  have hB' : B ≤ (w.alloc (.cells (Lib.byteCells ys).toArray 5)).heap.size := by simp; omega
  obtain ⟨v', w', hrun, hown, hgr, _⟩ := run_append_own (P := Try.prog) (w.alloc (.cells (Lib.byteCells ys).toArray 5)) B 45 45 5 i (.int .u8 0) 1 1 Try.underlying45 hi hz0 hz1 hz2 rfl (by omega) _ _ _ (h.alloc _) ⟨w.heap.size, 0, none⟩ ys.length ys.length (Lib.byteCells ys) (by simp [Lib.byteCells_length])
    (fun j u hu => by
      rw [show (⟨w.heap.size, 0, none⟩ : Addr).add j = ⟨w.heap.size, j, none⟩ by simp [Addr.add_lit], cell_of_block (heap_alloc_new w _)]
      simpa using hu)
    (fun u hu => by unfold Lib.byteCells at hu; obtain ⟨x, _, rfl⟩ := List.mem_map.1 hu; rfl) (by unfold maxLen; omega) (by omega) hB'
  refine ⟨v', w', hrun, ?_, ((Gr.refl B w).alloc hB _).trans ((h.alloc _).grown hB' hgr)⟩
  unfold OB
  rw [byteCells_app, List.length_append]
  exact hown
theorem OB.conv {w : World} {B : Nat} {v : Value} {l : List UInt8} (h : OB w B v l) (hl : l ≠ []) : (convert 45 9 v).run Try.prog w = .ok (.string ⟨l.toArray⟩) w := by
  rcases h.2 with ⟨rfl, e⟩ | ⟨g, cap, cur, rfl, _, hc, _, _, _, ht⟩
  · exact absurd (List.length_eq_zero_iff.1 e) hl
  · refine run_convert_bytes_back (P := Try.prog) w 45 9 5 ⟨g, 0, none⟩ cap l Try.underlying45 Try.underlying5 Try.underlying9 (fun j hj => ?_)
    exact World.ownsRow.cells h (g := g) rfl j _ (by unfold Lib.byteCells; rw [List.getElem?_map, List.getElem?_eq_getElem hj]; rfl)
theorem wpList_append_two {P : Program} {w w' : World} {ops : Array Oper} {rest : List Oper} {o : Oper} {a : Act} {Q : Exit → Act → World → Prop} (hgd : Region.wanted o (yielded ops a.tmps) = true) (s x : Operand) (t u : TypeId)
    (ho : o.op = .call { callee := .builtin .append, args := #[s, x], argTypes := #[t, u] }) (vs vx v' : Value) (hs : a.eval s = vs) (hx : a.eval x = vx)
    (hrun : (Builtin.append_ #[t, u] o.type #[vs, vx]).run P w = .ok v' w') (h : wpList P ops Q rest (a.put o.dst v') w') : wpList P ops Q (o :: rest) a w := by
  refine wpList_step fun K hK => ?_
  rw [if_pos hgd]
  unfold Oper.wp
  simp [execOp, ho, resolve, invoke, builtin, hs, hx, hrun, Result.andThen]
  exact hK _ _ h
theorem Gr.block {B : Nat} {w w' : World} (g : Gr B w w') {k : Nat} {o : Obj} (h : w.heap[k]? = some o) (ho : ∀ c fz, o ≠ .cells c 5 fz) : w'.heap[k]? = some o := g.kept k o h (by simp) ho
/-- A slice of bytes, nil or not, that reads as this list. -/
structure RdS (w : World) (A : Option Addr) (cap : Nat) (l : List UInt8) : Prop where
  le : l.length ≤ cap
  nn : A = none → cap = 0
  rd : ∀ ad, A = some ad → ∀ i c, l[i]? = some c → w.cell? (ad.add i) = some (.int .u8 c.toNat)
theorem RdS.nil (w : World) : RdS w none 0 [] := ⟨Nat.le_refl _, fun _ => rfl, fun _ h => by cases h⟩
theorem RdS.below {w w' : World} {B : Nat} {A : Option Addr} {cap : Nat} {l : List UInt8} (h : RdS w A cap l) (hb : Below B w w') (hB : w.heap.size ≤ B) : RdS w' A cap l :=
  ⟨h.le, h.nn, fun ad ha i c hc => by
    have h1 := h.rd ad ha i c hc
    have h2 := World.block_lt_of_cell? w _ h1
    rw [hb.cell (by omega)]; exact h1⟩
theorem RdS.drew {w : World} {A : Option Addr} {cap : Nat} {l : List UInt8} (h : RdS w A cap l) (n : Nat) : RdS (w.drewN n) A cap l := ⟨h.le, h.nn, h.rd⟩
theorem RdS.alloc {w : World} {A : Option Addr} {cap : Nat} {l : List UInt8} (h : RdS w A cap l) (o : Obj) : RdS (w.alloc o) A cap l :=
  h.below ((Below.refl w.heap.size w).alloc (Nat.le_refl _) o) (Nat.le_refl _)
theorem RdS.some_of {w : World} {A : Option Addr} {cap : Nat} {l : List UInt8} (h : RdS w A cap l) (hl : 0 < l.length) : ∃ ad, A = some ad := by
  cases A with
  | none => have := h.nn rfl; have := h.le; omega
  | some ad => exact ⟨ad, rfl⟩
theorem OB.rd {w : World} {B : Nat} {v : Value} {l : List UInt8} (h : OB w B v l) : ∃ A cap, v = .slice A l.length cap ∧ RdS w A cap l := by
  rcases h.2 with ⟨rfl, e⟩ | ⟨g, cap, cur, rfl, _, hc, hn, _, _, ht⟩
  · obtain rfl := List.length_eq_zero_iff.1 e
    exact ⟨none, 0, rfl, RdS.nil w⟩
  · refine ⟨some ⟨g, 0, none⟩, cap, rfl, hn, (fun e => by cases e), fun ad ha i c hi => ?_⟩
    cases ha
    exact World.ownsRow.cells h (g := g) rfl i _ (by unfold Lib.byteCells; rw [List.getElem?_map, hi]; rfl)
theorem ob_row {w : World} {B : Nat} {v : Value} {l : List UInt8} (h : OB w B v l) {A : Option Addr} {cap : Nat} {y : List UInt8} (hr : RdS w A cap y) (hl : l.length + y.length ≤ 1000000) (hB : B ≤ w.heap.size) :
    ∃ v' w', (Builtin.append_ #[45, 45] 45 #[v, .slice A y.length cap]).run Try.prog w = .ok v' w' ∧ OB w' B v' (l ++ y) ∧ Gr B w w' := by
  obtain ⟨i, hi, hz0, hz1, hz2⟩ := info_parts infoB
  cases A with
  | none =>
    obtain rfl := hr.nn rfl
    have h0 : y = [] := List.length_eq_zero_iff.1 (by have := hr.le; omega)
    subst h0
    exact ⟨v, w, run_append_owned_none (P := Try.prog) (w := w) B 45 45 5 i 1 Try.underlying45 hi _ _ _ h, by simpa using h, Gr.refl _ _⟩
  | some ad =>
    obtain ⟨v', w', hrun, hown, hgr, _⟩ := run_append_own (P := Try.prog) w B 45 45 5 i (.int .u8 0) 1 1 Try.underlying45 hi hz0 hz1 hz2 rfl (by omega) _ _ _ h ad y.length cap (Lib.byteCells y) (by simp [Lib.byteCells_length])
      (fun j u hu => by
        unfold Lib.byteCells at hu
        rw [List.getElem?_map] at hu
        cases hj : y[j]? with
        | none => rw [hj] at hu; cases hu
        | some c => rw [hj] at hu; cases hu; exact hr.rd ad rfl j c hj)
      (fun u hu => by unfold Lib.byteCells at hu; obtain ⟨x, _, rfl⟩ := List.mem_map.1 hu; rfl) (by unfold maxLen; omega) (by omega) hB
    refine ⟨v', w', hrun, ?_, h.grown hB hgr⟩
    unfold OB
    rw [byteCells_app, List.length_append]
    exact hown
theorem ob_make {w : World} {B : Nat} (n : Nat) (hn : n ≤ 1000000) (hB : B ≤ w.heap.size) :
    ∃ v' w', (Instr.makeSlice 45 (.int .i64 0) (.int .i64 (n : Int))).run Try.prog w = .ok v' w' ∧ OB w' B v' [] ∧ Gr B w w' := by
  obtain ⟨i, hi, hz0, hz1, hz2⟩ := info_parts infoB
  obtain ⟨w', hrun, hown, hgr⟩ := run_make_own (P := Try.prog) w B 45 5 i (.int .u8 0) 1 Try.underlying45 hi hz0 hz1 .i64 .i64 n (by rw [hz2]; omega) (by unfold maxLen; omega) hB
  exact ⟨_, w', hrun, hown, ⟨hgr.os, hgr.tape, hgr.output, hgr.size, fun k hk => hgr.block k (by omega) (by simp)⟩, fun k o hk _ _ => by rw [hgr.block k (lt_of_block hk) (by simp)]; exact hk⟩
theorem rd_conv {w : World} {A : Option Addr} {cap : Nat} {l : List UInt8} (h : RdS w A cap l) : (convert 45 9 (.slice A l.length cap)).run Try.prog w = .ok (.string ⟨l.toArray⟩) w := by
  cases A with
  | none =>
    have h0 : l = [] := List.length_eq_zero_iff.1 (by have := h.nn rfl; have := h.le; omega)
    subst h0
    exact run_convert_bytes_nil (P := Try.prog) w 45 5 Try.underlying45 Try.underlying5 _ _ _ Try.underlying9
  | some ad =>
    exact run_convert_bytes_back (P := Try.prog) w 45 9 5 ad cap l Try.underlying45 Try.underlying5 Try.underlying9 (fun j hj => h.rd ad rfl j _ (List.getElem?_eq_getElem hj))
theorem elemB : Try.prog.elem 45 = 5 := by kernel_rfl
theorem underB : Try.prog.underlying 45 = some (.slice (Try.prog.elem 45)) := by rw [elemB]; exact Try.underlying45
/-- 's[k:]'. -/
theorem slice_from (A : Option Addr) (cap : Nat) (l : List UInt8) (k : Nat) (hk : k ≤ l.length) (hle : l.length ≤ cap) (hnone : A = none → cap = 0) :
    ∃ A', (∀ w, (Instr.slice 45 (.slice A l.length cap) (some (.int .i64 (k : Int))) none none).run Try.prog w = .ok (.slice A' (l.drop k).length (cap - k)) w) ∧
      ∀ w, RdS w A cap l → RdS w A' (cap - k) (l.drop k) := by
  refine ⟨if cap = k then A else A.map (·.add k), fun w => ?_, fun w h => ?_⟩
  · obtain ⟨i, hi, hz0, hz1, hz2⟩ := info_parts infoB
    rw [run_slice_l w 45 A l.length cap underB _ _ (by omega) (by omega)]
    have hs : (sizeOf (Try.prog.elem 45)).run Try.prog w = .ok 1 w := by
      rw [elemB]
      simp [sizeOf, typeInfo, hi, hz1, Result.andThen]
    rw [hs]
    simp [Result.andThen, sliced]
  · refine ⟨by rw [List.length_drop]; have := h.le; omega, fun e => ?_, fun ad ha i c hi => ?_⟩
    · split at e
      · omega
      · cases A with
        | none => have := h.nn rfl; omega
        | some a => cases e
    · rw [List.getElem?_drop] at hi
      have hlt := (List.getElem?_eq_some_iff.1 hi).1
      split at ha
      · have := h.le; omega
      · cases A with
        | none => cases ha
        | some a =>
          cases ha
          rw [Addr.add_add]
          exact h.rd a rfl (k + i) c hi
/-- '[]byte(s)'. -/
theorem str_row (w : World) (s : ByteArray) (hs : s.size ≤ 1000000) :
    ∃ cap w', (convert 9 45 (.string s)).run Try.prog w = .ok (.slice (some ⟨w.heap.size, 0, none⟩) s.size cap) w' ∧ RdS w' (some ⟨w.heap.size, 0, none⟩) cap s.data.toList ∧ Below w.heap.size w w' := by
  have hl : s.data.toList.length = s.size := by simp
  refine ⟨_, _, Lib.run_convert_string_bytes (P := Try.prog) w 9 45 5 s Try.underlying9 Try.underlying45 Try.underlying5, ⟨by rw [hl]; exact grownCap_ge _ _ _ _, (fun e => by cases e), fun ad ha i c hi => ?_⟩, ⟨by simp [Lib.bytesWorld, World.freeze, World.alloc, World.drew, -World.alloc_eq, -World.drew_eq], by simp [Lib.bytesWorld, World.freeze, World.alloc, World.drew, -World.alloc_eq, -World.drew_eq], by simp [Lib.bytesWorld, World.freeze, World.alloc, World.drew, -World.alloc_eq, -World.drew_eq], by rw [Lib.bytesWorld_size]; omega, fun k hk => Lib.bytesWorld_at_old w _ s k hk⟩⟩
  cases ha
  have hlt := (List.getElem?_eq_some_iff.1 hi).1
  rw [Addr.add_lit, Nat.zero_add, Lib.bytesWorld_cell w _ s i (by omega)]
  simp only [List.getD, hi, Option.getD_some]
theorem OB.below {w w' : World} {B : Nat} {v : Value} {l : List UInt8} (h : OB w B v l) (hb : Below w.heap.size w w') : OB w' B v l :=
  World.ownsRow.kept (row := none) h (grown_of hb) (by cases hv : v.ownBlock <;> simp)
theorem slice_to (A : Option Addr) (len cap k : Nat) (hk : k ≤ cap) (hnone : A = none → cap = 0) (w : World) :
    (Instr.slice 45 (.slice A len cap) none (some (.int .i64 (k : Int))) none).run Try.prog w = .ok (.slice A k cap) w := by
  obtain ⟨i, hi, hz0, hz1, hz2⟩ := info_parts infoB
  rw [run_slice_h w 45 A len cap underB _ _ (by omega) (by omega)]
  have hs : (sizeOf (Try.prog.elem 45)).run Try.prog w = .ok 1 w := by
    rw [elemB]
    simp [sizeOf, typeInfo, hi, hz1, Result.andThen]
  rw [hs]
  cases A with
  | none => simp [Result.andThen, sliced]
  | some a => simp [Result.andThen, sliced, Addr.add]
end Go.Proofs.Ytmlpoeneopppaaa
