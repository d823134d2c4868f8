/-
  Layer 7 (batch): the reader of numbers that have limits, and its method upTo. Layer 7 (batch): the reader's method row. Layer 7 (batch): the reader's method row, walked. Layer 7 (batch): the reader's method batch. Layer 7 (batch): Get: the batch whose bytes they are, or the error ErrForm. Layer 7 (batch): the head of its laws; the law BatchBack, walked.
-/
import Derived.Test.YtgeahpfdaehjaaaGreatDoorQBatchPut
import Derived.Test.YtgeahpfdaehjaaaGreatDoorGrpC
import Derived.Test.YtgeahpfdaehjaaaGreatDoorQWireEnd
import Derived.Deep.CutRange
import Derived.Deep.RegionLaw
import Derived.Deep.RegionHeld3
import Derived.Test.YtgeahpfdaehjaaaGreatDoorGrpJ
namespace Go.Proofs.YtgeahpfdaehjaaaGreatDoor
open Go.ChangeShapes Go.WideShapes Go.ChangeAt Go.RowKit
set_option linter.unusedVariables false

/-- What a world keeps while the two blocks of a reader are written, and new ones laid. -/
structure Kp (w : World) (P N : Nat) (w' : World) : Prop where
  os : w'.os = w.os
  tape : w'.tape = w.tape
  output : w'.output = w.output
  size : w.heap.size ≤ w'.heap.size
  block : ∀ k, k < w.heap.size → k ≠ P → k ≠ N → w'.heap[k]? = w.heap[k]?
section
variable {w w1 w2 : World} {P N : Nat}
theorem Kp.refl (w : World) (P N : Nat) : Kp w P N w := ⟨rfl, rfl, rfl, Nat.le_refl _, fun _ _ _ _ => rfl⟩
theorem Kp.trans (h : Kp w P N w1) (g : Kp w1 P N w2) : Kp w P N w2 :=
  ⟨g.os.trans h.os, g.tape.trans h.tape, g.output.trans h.output, Nat.le_trans h.size g.size, fun k hk h1 h2 => (g.block k (Nat.lt_of_lt_of_le hk h.size) h1 h2).trans (h.block k hk h1 h2)⟩
theorem Kp.of_grown (g : w.grownBy w1 (some N)) : Kp w P N w1 := ⟨g.os, g.tape, g.output, g.size, fun k hk _ h2 => g.block k hk (fun e => h2 (Option.some.inj e))⟩
theorem Kp.grown (h : Kp w P N w1) {q : Option Nat} (g : w1.grownBy w2 q) (hq : ∀ b, q = some b → b = P ∨ b = N ∨ w.heap.size ≤ b) : Kp w P N w2 :=
  ⟨g.os.trans h.os, g.tape.trans h.tape, g.output.trans h.output, Nat.le_trans h.size g.size, fun k hk h1 h2 => (g.block k (Nat.lt_of_lt_of_le hk h.size) (fun e => by
    rcases hq k e.symm with h3 | h3 | h3
    · exact h1 h3
    · exact h2 h3
    · omega)).trans (h.block k hk h1 h2)⟩
theorem Kp.below (h : Kp w P N w1) (hb : Below w1.heap.size w1 w2) : Kp w P N w2 := h.grown (grown_of (r := none) hb) (fun _ e => by cases e)
theorem Kp.alloc (h : Kp w P N w1) (o : Obj) : Kp w P N (w1.alloc o) := h.below ((Below.refl _ _).alloc (Nat.le_refl _) _)
theorem Kp.set (h : Kp w P N w1) (a : Addr) (v : Value) (ha : a.block = P ∨ a.block = N ∨ w.heap.size ≤ a.block) : Kp w P N (w1.setCell a v) :=
  h.grown (q := some a.block) (grown_set (grown_refl _ _) _ _ (Or.inl rfl)) (fun b e => by cases e; exact ha)
theorem Kp.to (h : Kp w P N w1) {B : Nat} (hB : B ≤ w.heap.size) (hP : B ≤ P) (hN : B ≤ N) : Below B w w1 :=
  ⟨h.os, h.tape, h.output, h.size, fun k hk => h.block k (by omega) (by omega) (by omega)⟩
theorem Kp.own (h : Kp w P N w1) {base : Nat} {e : TypeId} {sz : Nat} {v : Value} {n : Nat} {l : List Value} (ho : w.ownsRow base e sz v n l) (hP : P < base) (hN : N < base) : w1.ownsRow base e sz v n l := by
  refine ⟨ho.1, ?_⟩
  rcases ho.2 with hn | ⟨g, cap, cur, rfl, hb, hgg, rest⟩
  · exact .inl hn
  · exact .inr ⟨g, cap, cur, rfl, hb, by rw [h.block g (lt_of_block hgg) (by omega) (by omega)]; exact hgg, rest⟩
end

/-- The batch's reader in block P, which reads through the reader in block N. -/
structure Brd (w : World) (P N : Nat) (A : Option Addr) (cap : Nat) (l : List UInt8) (g : Gs) : Prop where
  blk : w.heap[P]? = some (.cells #[.pointer (some ⟨N, 0, none⟩), .bool g.bey] 169 (0, 0))
  rdr : Rdr w N A cap l g.r
  ne : N ≠ P
  far : ∀ ad, A = some ad → l ≠ [] → ad.block ≠ P
section
variable {w w' : World} {P N : Nat} {A : Option Addr} {cap : Nat} {l : List UInt8} {g : Gs}
theorem Brd.c0 (h : Brd w P N A cap l g) : w.cell? ⟨P, 0, none⟩ = some (.pointer (some ⟨N, 0, none⟩)) := cell_of_block h.blk
theorem Brd.c1 (h : Brd w P N A cap l g) : w.cell? ⟨P, 1, none⟩ = some (.bool g.bey) := cell_of_block h.blk
theorem Brd.f1 (h : Brd w P N A cap l g) : w.frozen? ⟨P, 1, none⟩ = false := frozen_of_block h.blk
theorem Brd.lt (h : Brd w P N A cap l g) : P < w.heap.size := lt_of_block h.blk
theorem Brd.at (h : Brd w P N A cap l g) : g.r.at_ ≤ l.length := h.rdr.le
theorem Brd.of_mr (h : Brd w P N A cap l g) {r : Rs} (m : Mr w N A cap l r w') : Brd w' P N A cap l ⟨r, g.bey⟩ :=
  ⟨by rw [m.grown.block _ h.lt (fun e => h.ne (Option.some.inj e).symm)]; exact h.blk, m.rdr, h.ne, h.far⟩
theorem Brd.grown (h : Brd w P N A cap l g) {q : Option Nat} (hg : w.grownBy w' q) (hq : ∀ b, q = some b → b ≠ P ∧ b ≠ N ∧ ∀ ad, A = some ad → l ≠ [] → ad.block ≠ b) : Brd w' P N A cap l g := by
  refine ⟨?_, ⟨?_, ⟨h.rdr.rd.le, h.rdr.rd.nn, fun ad ha i c hc => ?_⟩, h.rdr.ne, h.rdr.le⟩, h.ne, h.far⟩
  · rw [hg.block _ h.lt (fun e => (hq _ e.symm).1 rfl)]; exact h.blk
  · rw [hg.block _ h.rdr.lt (fun e => (hq _ e.symm).2.1 rfl)]; exact h.rdr.blk
  · have h1 := h.rdr.rd.rd ad ha i c hc
    have h2 := World.block_lt_of_cell? w _ h1
    have h3 : (ad.add i).block = ad.block := by unfold Addr.add; split <;> rfl
    have hne : l ≠ [] := fun e => by rw [e] at hc; cases hc
    rw [World.cell?_of_block (hg.block _ h2 (fun e => (hq _ e.symm).2.2 ad ha hne h3.symm))]
    exact h1
theorem Brd.below (h : Brd w P N A cap l g) (hb : Below w.heap.size w w') : Brd w' P N A cap l g := h.grown (grown_of (r := none) hb) (fun _ e => by cases e)
theorem Brd.alloc (h : Brd w P N A cap l g) (o : Obj) : Brd (w.alloc o) P N A cap l g := h.below ((Below.refl _ _).alloc (Nat.le_refl _) _)
theorem Brd.beyond (h : Brd w P N A cap l g) : Brd (w.setCell ⟨P, 1, none⟩ (.bool true)) P N A cap l ⟨g.r, true⟩ := by
  refine ⟨heap_set_same h.blk, ⟨?_, ⟨h.rdr.rd.le, h.rdr.rd.nn, fun ad ha i c hc => ?_⟩, h.rdr.ne, h.rdr.le⟩, h.ne, h.far⟩
  · rw [heap_set_other (by exact h.ne)]; exact h.rdr.blk
  · have h1 := h.rdr.rd.rd ad ha i c hc
    have h3 : (ad.add i).block = ad.block := by unfold Addr.add; split <;> rfl
    have hne : l ≠ [] := fun e => by rw [e] at hc; cases hc
    rw [World.cell?_of_block (heap_set_other (by rw [h3]; exact h.far ad ha hne))]
    exact h1
/-- The bytes lie in a block that is there. -/
theorem Brd.old (h : Brd w P N A cap l g) : ∀ ad, A = some ad → l ≠ [] → ad.block < w.heap.size := fun ad ha hne => by
  cases l with
  | nil => exact absurd rfl hne
  | cons c l =>
    have h1 := World.block_lt_of_cell? w _ (h.rdr.rd.rd ad ha 0 c rfl)
    rwa [show (ad.add 0).block = ad.block by simp [Addr.add]] at h1
end

def NumB (w : World) (P N : Nat) (A : Option Addr) (cap : Nat) (l : List UInt8) (n : Nat) (g : Gs) (e : Ending) (w' : World) : Prop := e = .returned (.int .u64 (n : Nat)) ∧ Kp w P N w' ∧ Brd w' P N A cap l g
def WholeB (w : World) (P N : Nat) (A : Option Addr) (cap : Nat) (l : List UInt8) (n : Int) (g : Gs) (e : Ending) (w' : World) : Prop := e = .returned (.int .i64 n) ∧ Kp w P N w' ∧ Brd w' P N A cap l g
def TextB (w : World) (P N : Nat) (A : Option Addr) (cap : Nat) (l : List UInt8) (t : List UInt8) (g : Gs) (e : Ending) (w' : World) : Prop := e = .returned (.string ⟨t.toArray⟩) ∧ Kp w P N w' ∧ Brd w' P N A cap l g
theorem brNumber (w : World) (P N : Nat) (A : Option Addr) (cap : Nat) (l : List UInt8) (g : Gs) (h : Brd w P N A cap l g) (hl : l.length ≤ 1000000) :
    Calls Tryz.prog 140 #[.pointer (some ⟨N, 0, none⟩)] w (NumB w P N A cap l (gNum l g).1 (gNum l g).2) :=
  (wireReadNumber w N A cap l g.r h.rdr hl).mono fun e w' ⟨he, hm⟩ => ⟨he, Kp.of_grown hm.grown, h.of_mr hm⟩
theorem brWhole (w : World) (P N : Nat) (A : Option Addr) (cap : Nat) (l : List UInt8) (g : Gs) (h : Brd w P N A cap l g) (hl : l.length ≤ 1000000) :
    Calls Tryz.prog 141 #[.pointer (some ⟨N, 0, none⟩)] w (WholeB w P N A cap l (unfoldN (gNum l g).1) (gNum l g).2) :=
  (wireReadWhole w N A cap l g.r h.rdr hl).mono fun e w' ⟨he, hm⟩ => ⟨he, Kp.of_grown hm.grown, h.of_mr hm⟩
theorem brText (w : World) (P N : Nat) (A : Option Addr) (cap : Nat) (l : List UInt8) (g : Gs) (h : Brd w P N A cap l g) (hl : l.length ≤ 1000000) :
    Calls Tryz.prog 114 #[.pointer (some ⟨N, 0, none⟩), .int .i64 300] w (TextB w P N A cap l (gText l g).1 (gText l g).2) :=
  (wireReadText w N A cap l g.r 300 h.rdr hl (by omega) (by omega)).mono fun e w' ⟨he, hm⟩ => ⟨he, Kp.of_grown hm.grown, h.of_mr hm⟩
set_option maxRecDepth 100000 in
theorem brUpTo (w : World) (P N : Nat) (A : Option Addr) (cap : Nat) (l : List UInt8) (g : Gs) (m : Nat) (h : Brd w P N A cap l g) (hl : l.length ≤ 1000000) (hm : m < 18446744073709551616) :
    Calls Tryz.prog 118 #[.pointer (some ⟨P, 0, none⟩), .int .u64 (m : Nat)] w (NumB w P N A cap l (gUp l m g).1 (gUp l m g).2) := by
  have c0 := h.c0
  have C := brNumber w P N A cap l g h hl
  have hg : gUp l m g = if m < (gNum l g).1 then (0, ⟨(gNum l g).2.r, true⟩) else gNum l g := rfl
  rw [hg]
  generalize gNum l g = x at C
  obtain ⟨n, g1⟩ := x
  have C := Lib.hid C
  clear h hg
  by_cases hmn : m < n
  · have e1 : decide ((m : Int) < (n : Int)) = true := decide_eq_true (by omega)
    simp only
    rw [if_pos hmn]
    have e2 : decide (m < n) = true := decide_eq_true hmn
    go_enter Tryz.func118, Tryz.ntmps118
    go_wp2_with fail
    refine C.out.mono ?_
    rintro e w1 ⟨rfl, k1, b1⟩
    have f1 := b1.f1
    have c1 := b1.c1
    have K1 := Lib.hid k1
    have B1 := Lib.hid b1
    clear k1 b1 C c0
    go_wp2_with fail
    go_ret
    exact ⟨rfl, K1.out.set _ _ (Or.inl rfl), B1.out.beyond⟩
  · have e1 : decide ((m : Int) < (n : Int)) = false := decide_eq_false (by omega)
    simp only
    rw [if_neg hmn]
    have e2 : decide (m < n) = false := decide_eq_false hmn
    go_enter Tryz.func118, Tryz.ntmps118
    go_wp2_with fail
    refine C.out.mono ?_
    rintro e w1 ⟨rfl, k1, b1⟩
    have K1 := Lib.hid k1
    have B1 := Lib.hid b1
    clear k1 b1 C c0
    go_wp2_with fail
    go_ret
    exact ⟨rfl, K1.out, B1.out⟩
end Go.Proofs.YtgeahpfdaehjaaaGreatDoor
namespace Go.Proofs.YtgeahpfdaehjaaaGreatDoor
open Go.ChangeShapes Go.WideShapes Go.ChangeAt Go.RowKit
set_option linter.unusedVariables false

theorem step_append_at {P : Program} {ops : Array Oper} {o : Oper} {a : Act} {w w' : World} {K : Act → World → Prop} {Q : Exit → Act → World → Prop} {E : Prop}
    (hg : o.guard = none) (s x : Operand) (t : TypeId) (hop : o.op = Op.call { callee := Callee.builtin Builtin.append, args := #[s, x], argTypes := #[t, t] })
    (vs vx v' : Value) (hs : a.eval s = vs) (hx : a.eval x = vx) (hrun : (Builtin.append_ #[t, t] o.type #[vs, vx]).run P w = .ok v' w') (hK : K (a.put o.dst v') w') :
    if Region.wanted o (yielded ops a.tmps) = true then Oper.wp P o a w K Q else E := by
  have hw : Region.wanted o (yielded ops a.tmps) = true := by simp [Region.wanted, hg]
  rw [if_pos hw]
  unfold Oper.wp
  simp [execOp, hop, resolve, invoke, builtin, hs, hx, hrun, Result.andThen]
  exact hK

theorem head_parts (l : List UInt8) (g : Gs) : ∃ (va : List UInt8) (ga : Gs) (vb : Nat) (gb : Gs) (vc : Nat) (gc : Gs) (nd : Nat) (gd : Gs) (ne : Nat) (ge : Gs) (nf : Nat) (gf : Gs) (vo : Nat) (go : Gs),
    gText l g = (va, ga) ∧ gUp l 3 ga = (vb, gb) ∧ gNum l gb = (vc, gc) ∧ gNum l gc = (nd, gd) ∧ gNum l gd = (ne, ge) ∧ gNum l ge = (nf, gf) ∧ gUp l 1 gf = (vo, go) ∧
    gHead l g = (⟨⟨va.toArray⟩, (vb : Nat), vc, unfoldN nd, unfoldN ne, unfoldN nf, vo == 1, []⟩, go) ∧ vb ≤ 3 :=
  ⟨_, _, _, _, _, _, _, _, _, _, _, _, _, _, rfl, rfl, rfl, rfl, rfl, rfl, rfl, rfl, gUp_le _ _ _⟩

/-- A block that holds the row of nothing. -/
structure ZB (w : World) (g : Nat) : Prop where
  blk : w.heap[g]? = some (.cells #[.string ⟨#[]⟩, .int .i64 0, .int .u64 0, .int .i64 0, .int .i64 0, .int .i64 0, .bool false, .slice none 0 0] 123 (0, 0))
theorem ZB.lt {w : World} {g : Nat} (h : ZB w g) : g < w.heap.size := lt_of_block h.blk
theorem ZB.c0 {w : World} {g : Nat} (h : ZB w g) : w.cell? ⟨g, 0, none⟩ = some (.string ⟨#[]⟩) := cell_of_block h.blk
theorem ZB.c1 {w : World} {g : Nat} (h : ZB w g) : w.cell? ⟨g, 1, none⟩ = some (.int .i64 0) := cell_of_block h.blk
theorem ZB.c2 {w : World} {g : Nat} (h : ZB w g) : w.cell? ⟨g, 2, none⟩ = some (.int .u64 0) := cell_of_block h.blk
theorem ZB.c3 {w : World} {g : Nat} (h : ZB w g) : w.cell? ⟨g, 3, none⟩ = some (.int .i64 0) := cell_of_block h.blk
theorem ZB.c4 {w : World} {g : Nat} (h : ZB w g) : w.cell? ⟨g, 4, none⟩ = some (.int .i64 0) := cell_of_block h.blk
theorem ZB.c5 {w : World} {g : Nat} (h : ZB w g) : w.cell? ⟨g, 5, none⟩ = some (.int .i64 0) := cell_of_block h.blk
theorem ZB.c6 {w : World} {g : Nat} (h : ZB w g) : w.cell? ⟨g, 6, none⟩ = some (.bool false) := cell_of_block h.blk
theorem ZB.c7 {w : World} {g : Nat} (h : ZB w g) : w.cell? ⟨g, 7, none⟩ = some (.slice none 0 0) := cell_of_block h.blk
theorem ZB.f {w : World} {g : Nat} (h : ZB w g) (o : Nat) : w.frozen? ⟨g, o, none⟩ = false := frozen_of_block h.blk
theorem ZB.kp {w w' : World} {P N g : Nat} (h : ZB w g) (k : Kp w P N w') (h1 : g ≠ P) (h2 : g ≠ N) : ZB w' g := ⟨by rw [k.block g h.lt h1 h2]; exact h.blk⟩
theorem RowB.kp {w w' : World} {P N g : Nat} {r : Rw} {B : Option Addr} {c : Nat} (h : RowB w g r B c) (k : Kp w P N w') (h1 : g ≠ P) (h2 : g ≠ N) : RowB w' g r B c := ⟨by rw [k.block g h.lt h1 h2]; exact h.blk⟩

theorem set8_block {w : World} {g : Nat} {a0 a1 a2 a3 a4 a5 a6 a7 : Value} {t : TypeId} (v0 v1 v2 v3 v4 v5 v6 v7 : Value) (h : w.heap[g]? = some (.cells #[a0, a1, a2, a3, a4, a5, a6, a7] t (0, 0))) :
    ((((((((w.setCell ⟨g, 0, none⟩ v0).setCell ⟨g, 1, none⟩ v1).setCell ⟨g, 2, none⟩ v2).setCell ⟨g, 3, none⟩ v3).setCell ⟨g, 4, none⟩ v4).setCell ⟨g, 5, none⟩ v5).setCell ⟨g, 6, none⟩ v6).setCell ⟨g, 7, none⟩ v7).heap[g]? = some (.cells #[v0, v1, v2, v3, v4, v5, v6, v7] t (0, 0)) := by
  have h0 : (w.setCell ⟨g, 0, none⟩ v0).heap[g]? = some (.cells #[v0, a1, a2, a3, a4, a5, a6, a7] t (0, 0)) := heap_set_same h
  have h1 : ((w.setCell ⟨g, 0, none⟩ v0).setCell ⟨g, 1, none⟩ v1).heap[g]? = some (.cells #[v0, v1, a2, a3, a4, a5, a6, a7] t (0, 0)) := heap_set_same h0
  have h2 : (((w.setCell ⟨g, 0, none⟩ v0).setCell ⟨g, 1, none⟩ v1).setCell ⟨g, 2, none⟩ v2).heap[g]? = some (.cells #[v0, v1, v2, a3, a4, a5, a6, a7] t (0, 0)) := heap_set_same h1
  have h3 : ((((w.setCell ⟨g, 0, none⟩ v0).setCell ⟨g, 1, none⟩ v1).setCell ⟨g, 2, none⟩ v2).setCell ⟨g, 3, none⟩ v3).heap[g]? = some (.cells #[v0, v1, v2, v3, a4, a5, a6, a7] t (0, 0)) := heap_set_same h2
  have h4 : (((((w.setCell ⟨g, 0, none⟩ v0).setCell ⟨g, 1, none⟩ v1).setCell ⟨g, 2, none⟩ v2).setCell ⟨g, 3, none⟩ v3).setCell ⟨g, 4, none⟩ v4).heap[g]? = some (.cells #[v0, v1, v2, v3, v4, a5, a6, a7] t (0, 0)) := heap_set_same h3
  have h5 : ((((((w.setCell ⟨g, 0, none⟩ v0).setCell ⟨g, 1, none⟩ v1).setCell ⟨g, 2, none⟩ v2).setCell ⟨g, 3, none⟩ v3).setCell ⟨g, 4, none⟩ v4).setCell ⟨g, 5, none⟩ v5).heap[g]? = some (.cells #[v0, v1, v2, v3, v4, v5, a6, a7] t (0, 0)) := heap_set_same h4
  have h6 : (((((((w.setCell ⟨g, 0, none⟩ v0).setCell ⟨g, 1, none⟩ v1).setCell ⟨g, 2, none⟩ v2).setCell ⟨g, 3, none⟩ v3).setCell ⟨g, 4, none⟩ v4).setCell ⟨g, 5, none⟩ v5).setCell ⟨g, 6, none⟩ v6).heap[g]? = some (.cells #[v0, v1, v2, v3, v4, v5, v6, a7] t (0, 0)) := heap_set_same h5
  have h7 : ((((((((w.setCell ⟨g, 0, none⟩ v0).setCell ⟨g, 1, none⟩ v1).setCell ⟨g, 2, none⟩ v2).setCell ⟨g, 3, none⟩ v3).setCell ⟨g, 4, none⟩ v4).setCell ⟨g, 5, none⟩ v5).setCell ⟨g, 6, none⟩ v6).setCell ⟨g, 7, none⟩ v7).heap[g]? = some (.cells #[v0, v1, v2, v3, v4, v5, v6, v7] t (0, 0)) := heap_set_same h6
  exact h7
section
variable (w : World) (P N : Nat) (A : Option Addr) (cap : Nat) (l : List UInt8)
/-- Where the reading of a row stands: its block isn't laid yet; it is; its head lies in it; its buckets come. -/
structure Ja (g : Gs) (wr : World) : Prop where
  kp : Kp w P N wr
  brd : Brd wr P N A cap l g
  res : ZB wr w.heap.size
  hP : P < w.heap.size
  hN : N < w.heap.size
structure Jb (g : Gs) (wr : World) (G : Nat) : Prop where
  on : Ja w P N A cap l g wr
  row : ZB wr G
  far : w.heap.size + 1 ≤ G
structure Jl (g : Gs) (wr : World) (G : Nat) (r : Rw) (B : Option Addr) (c : Nat) : Prop where
  on : Ja w P N A cap l g wr
  row : RowB wr G r B c
  far : w.heap.size + 1 ≤ G
  own : OwnN wr (w.heap.size + 1) B c r.bks
end
section
variable {w : World} {P N : Nat} {A : Option Addr} {cap : Nat} {l : List UInt8} {g g' : Gs} {wr w' : World} {G : Nat} {r : Rw} {B : Option Addr} {c : Nat}
theorem Ja.size (h : Ja w P N A cap l g wr) : w.heap.size + 1 ≤ wr.heap.size := h.res.lt
theorem Ja.next (h : Ja w P N A cap l g wr) (k : Kp wr P N w') (b : Brd w' P N A cap l g') : Ja w P N A cap l g' w' :=
  ⟨h.kp.trans k, b, h.res.kp k (by have := h.hP; omega) (by have := h.hN; omega), h.hP, h.hN⟩
theorem Ja.c0 (h : Ja w P N A cap l g wr) : wr.cell? ⟨P, 0, none⟩ = some (.pointer (some ⟨N, 0, none⟩)) := h.brd.c0
theorem Ja.grown (h : Ja w P N A cap l g wr) {q : Option Nat} (hg : wr.grownBy w' q) (hq : ∀ b, q = some b → w.heap.size + 1 ≤ b) (hold : ∀ ad, A = some ad → l ≠ [] → ad.block < w.heap.size) : Ja w P N A cap l g w' :=
  ⟨h.kp.grown hg (fun b e => .inr (.inr (by have := hq b e; omega))), h.brd.grown hg (fun b e => by have := hq b e; have := h.hP; have := h.hN; exact ⟨by omega, by omega, fun ad ha hne => by have := hold ad ha hne; omega⟩),
   ⟨by rw [hg.block _ h.res.lt (fun e => by have := hq _ e.symm; omega)]; exact h.res.blk⟩, h.hP, h.hN⟩
theorem Ja.alloc0 (h : Ja w P N A cap l g wr) (o : Obj) : Ja w P N A cap l g (wr.alloc o) :=
  h.next (Kp.refl _ _ _ |>.alloc o) (h.brd.alloc o)
theorem Ja.alloc (h : Ja w P N A cap l g wr) : Jb w P N A cap l g (wr.alloc (.cells #[.string ⟨#[]⟩, .int .i64 0, .int .u64 0, .int .i64 0, .int .i64 0, .int .i64 0, .bool false, .slice none 0 0] 123)) wr.heap.size :=
  ⟨h.alloc0 _, ⟨heap_alloc_new wr _⟩, h.size⟩
theorem Jb.next (h : Jb w P N A cap l g wr G) (k : Kp wr P N w') (b : Brd w' P N A cap l g') : Jb w P N A cap l g' w' G :=
  ⟨h.on.next k b, h.row.kp k (by have := h.on.hP; have := h.far; omega) (by have := h.on.hN; have := h.far; omega), h.far⟩
theorem Jb.c0 (h : Jb w P N A cap l g wr G) : wr.cell? ⟨P, 0, none⟩ = some (.pointer (some ⟨N, 0, none⟩)) := h.on.brd.c0
theorem Jb.far8 (h : Jb w P N A cap l g wr G) (v0 v1 v2 v3 v4 v5 v6 v7 : Value) :
    ((((((((wr.setCell ⟨G, 0, none⟩ v0).setCell ⟨G, 1, none⟩ v1).setCell ⟨G, 2, none⟩ v2).setCell ⟨G, 3, none⟩ v3).setCell ⟨G, 4, none⟩ v4).setCell ⟨G, 5, none⟩ v5).setCell ⟨G, 6, none⟩ v6).setCell ⟨G, 7, none⟩ v7).cell? ⟨P, 0, none⟩ = some (.pointer (some ⟨N, 0, none⟩)) := by
  have hne : G ≠ P := by have := h.on.hP; have := h.far; omega
  rw [World.cell?_setCell_far _ _ _ _ (by exact hne), World.cell?_setCell_far _ _ _ _ (by exact hne), World.cell?_setCell_far _ _ _ _ (by exact hne), World.cell?_setCell_far _ _ _ _ (by exact hne), World.cell?_setCell_far _ _ _ _ (by exact hne), World.cell?_setCell_far _ _ _ _ (by exact hne), World.cell?_setCell_far _ _ _ _ (by exact hne), World.cell?_setCell_far _ _ _ _ (by exact hne)]
  exact h.c0
theorem liftA {f : Nat} {as_ : Array Value} {V : Value} (H : ∀ w', Brd w' P N A cap l g → Calls Tryz.prog f as_ w' (fun e w'' => e = .returned V ∧ Kp w' P N w'' ∧ Brd w'' P N A cap l g')) :
    ∀ w', Ja w P N A cap l g w' → Calls Tryz.prog f as_ w' (fun e w'' => e = .returned V ∧ Ja w P N A cap l g' w'') :=
  fun w' h => (H w' h.brd).mono fun e w'' ⟨he, hk, hb⟩ => ⟨he, h.next hk hb⟩
theorem liftB {f : Nat} {as_ : Array Value} {V : Value} (H : ∀ w', Brd w' P N A cap l g → Calls Tryz.prog f as_ w' (fun e w'' => e = .returned V ∧ Kp w' P N w'' ∧ Brd w'' P N A cap l g')) :
    ∀ w' G, Jb w P N A cap l g w' G → Calls Tryz.prog f as_ w' (fun e w'' => e = .returned V ∧ Jb w P N A cap l g' w'' G) :=
  fun w' G h => (H w' h.on.brd).mono fun e w'' ⟨he, hk, hb⟩ => ⟨he, h.next hk hb⟩
theorem Jl.next (h : Jl w P N A cap l g wr G r B c) (k : Kp wr P N w') (b : Brd w' P N A cap l g') : Jl w P N A cap l g' w' G r B c :=
  ⟨h.on.next k b, h.row.kp k (by have := h.on.hP; have := h.far; omega) (by have := h.on.hN; have := h.far; omega), h.far, k.own h.own (by have := h.on.hP; omega) (by have := h.on.hN; omega)⟩
theorem liftL {f : Nat} {as_ : Array Value} {V : Value} (H : ∀ w', Brd w' P N A cap l g → Calls Tryz.prog f as_ w' (fun e w'' => e = .returned V ∧ Kp w' P N w'' ∧ Brd w'' P N A cap l g')) :
    ∀ w', Jl w P N A cap l g w' G r B c → Calls Tryz.prog f as_ w' (fun e w'' => e = .returned V ∧ Jl w P N A cap l g' w'' G r B c) :=
  fun w' h => (H w' h.on.brd).mono fun e w'' ⟨he, hk, hb⟩ => ⟨he, h.next hk hb⟩
theorem Ja.fin (h : Ja w P N A cap l g wr) (r : Rw) (hr : r.bks = []) : Jl w P N A cap l g (wr.alloc (.cells #[.string r.key, .int .i64 r.kind, .int .u64 (r.many : Nat), .int .i64 r.sum, .int .i64 r.least, .int .i64 r.most, .bool r.over, .slice none 0 0] 123)) wr.heap.size r none 0 :=
  ⟨h.alloc0 _, ⟨by rw [hr]; exact heap_alloc_new wr _⟩, h.size, by rw [hr]; exact OwnN.nil _ _⟩
theorem Jb.fin (h : Jb w P N A cap l g wr G) (r : Rw) (hr : r.bks = []) (hold : ∀ ad, A = some ad → l ≠ [] → ad.block < w.heap.size) :
    Jl w P N A cap l g ((((((((wr.setCell ⟨G, 0, none⟩ (.string r.key)).setCell ⟨G, 1, none⟩ (.int .i64 r.kind)).setCell ⟨G, 2, none⟩ (.int .u64 (r.many : Nat))).setCell ⟨G, 3, none⟩ (.int .i64 r.sum)).setCell ⟨G, 4, none⟩ (.int .i64 r.least)).setCell ⟨G, 5, none⟩ (.int .i64 r.most)).setCell ⟨G, 6, none⟩ (.bool r.over)).setCell ⟨G, 7, none⟩ (.slice none 0 0)) G r none 0 := by
  have gr : wr.grownBy ((((((((wr.setCell ⟨G, 0, none⟩ (.string r.key)).setCell ⟨G, 1, none⟩ (.int .i64 r.kind)).setCell ⟨G, 2, none⟩ (.int .u64 (r.many : Nat))).setCell ⟨G, 3, none⟩ (.int .i64 r.sum)).setCell ⟨G, 4, none⟩ (.int .i64 r.least)).setCell ⟨G, 5, none⟩ (.int .i64 r.most)).setCell ⟨G, 6, none⟩ (.bool r.over)).setCell ⟨G, 7, none⟩ (.slice none 0 0)) (some G) := by
    refine grown_set (grown_set (grown_set (grown_set (grown_set (grown_set (grown_set (grown_set (grown_refl _ _) _ _ ?_) _ _ ?_) _ _ ?_) _ _ ?_) _ _ ?_) _ _ ?_) _ _ ?_) _ _ ?_ <;> exact Or.inl rfl
  refine ⟨h.on.grown gr (fun b e => by cases e; exact h.far) hold, ⟨?_⟩, h.far, by rw [hr]; exact OwnN.nil _ _⟩
  rw [hr]
  exact set8_block _ _ _ _ _ _ _ _ h.row.blk
end
def RowPost (w : World) (P N : Nat) (A : Option Addr) (cap : Nat) (l : List UInt8) (r : Rw) (g : Gs) (e : Ending) (w' : World) : Prop :=
  ∃ B c, e = .returned (rowVal r B c) ∧ Kp w P N w' ∧ Brd w' P N A cap l g ∧ OwnN w' w.heap.size B c r.bks
end Go.Proofs.YtgeahpfdaehjaaaGreatDoor
namespace Go.Proofs.YtgeahpfdaehjaaaGreatDoor
open Go.ChangeShapes Go.WideShapes Go.ChangeAt Go.RowKit
set_option linter.unusedVariables false

theorem u_beq (n : Nat) : ((n : Int) == 1) = (n == 1) := by
  rw [Bool.eq_iff_iff, beq_iff_eq, beq_iff_eq]; omega
theorem Jl.ret {w : World} {P N : Nat} {A : Option Addr} {cap : Nat} {l : List UInt8} {g : Gs} {wr : World} {G : Nat} {r : Rw} {B : Option Addr} {c : Nat} (h : Jl w P N A cap l g wr G r B c) (hold : ∀ ad, A = some ad → l ≠ [] → ad.block < w.heap.size) (v0 v1 v2 v3 v4 v5 v6 v7 : Value) :
    Kp w P N ((((((((wr.setCell ⟨w.heap.size, 0, none⟩ v0).setCell ⟨w.heap.size, 1, none⟩ v1).setCell ⟨w.heap.size, 2, none⟩ v2).setCell ⟨w.heap.size, 3, none⟩ v3).setCell ⟨w.heap.size, 4, none⟩ v4).setCell ⟨w.heap.size, 5, none⟩ v5).setCell ⟨w.heap.size, 6, none⟩ v6).setCell ⟨w.heap.size, 7, none⟩ v7) ∧ Brd ((((((((wr.setCell ⟨w.heap.size, 0, none⟩ v0).setCell ⟨w.heap.size, 1, none⟩ v1).setCell ⟨w.heap.size, 2, none⟩ v2).setCell ⟨w.heap.size, 3, none⟩ v3).setCell ⟨w.heap.size, 4, none⟩ v4).setCell ⟨w.heap.size, 5, none⟩ v5).setCell ⟨w.heap.size, 6, none⟩ v6).setCell ⟨w.heap.size, 7, none⟩ v7) P N A cap l g ∧ OwnN ((((((((wr.setCell ⟨w.heap.size, 0, none⟩ v0).setCell ⟨w.heap.size, 1, none⟩ v1).setCell ⟨w.heap.size, 2, none⟩ v2).setCell ⟨w.heap.size, 3, none⟩ v3).setCell ⟨w.heap.size, 4, none⟩ v4).setCell ⟨w.heap.size, 5, none⟩ v5).setCell ⟨w.heap.size, 6, none⟩ v6).setCell ⟨w.heap.size, 7, none⟩ v7) w.heap.size B c r.bks := by
  have gr : wr.grownBy ((((((((wr.setCell ⟨w.heap.size, 0, none⟩ v0).setCell ⟨w.heap.size, 1, none⟩ v1).setCell ⟨w.heap.size, 2, none⟩ v2).setCell ⟨w.heap.size, 3, none⟩ v3).setCell ⟨w.heap.size, 4, none⟩ v4).setCell ⟨w.heap.size, 5, none⟩ v5).setCell ⟨w.heap.size, 6, none⟩ v6).setCell ⟨w.heap.size, 7, none⟩ v7) (some w.heap.size) := by
    refine grown_set (grown_set (grown_set (grown_set (grown_set (grown_set (grown_set (grown_set (grown_refl _ _) _ _ ?_) _ _ ?_) _ _ ?_) _ _ ?_) _ _ ?_) _ _ ?_) _ _ ?_) _ _ ?_ <;> exact Or.inl rfl
  have hP := h.on.hP
  have hN := h.on.hN
  refine ⟨h.on.kp.grown gr (fun b e => by cases e; exact .inr (.inr (Nat.le_refl _))), h.on.brd.grown gr (fun b e => by cases e; exact ⟨by omega, by omega, fun ad ha hne => by have := hold ad ha hne; omega⟩), ?_⟩
  exact ownsB_mono (owns_kept h.own gr (fun b e => by cases e; exact .inl (Nat.lt_succ_self _))) (Nat.le_succ _)
theorem Jl.app {w : World} {P N : Nat} {A : Option Addr} {cap : Nat} {l : List UInt8} {g : Gs} {wr w8 : World} {G : Nat} {r : Rw} {B : Option Addr} {c n : Nat} (h : Jl w P N A cap l g wr G r B c) (hold : ∀ ad, A = some ad → l ≠ [] → ad.block < w.heap.size)
    (g8 : (wr.alloc (.cells #[.int .u64 (n : Nat)] 120)).grownBy w8 (Value.slice B r.bks.length c).ownBlock) : Ja w P N A cap l g w8 ∧ RowB w8 G r B c := by
  have hk : ∀ b, (Value.slice B r.bks.length c).ownBlock = some b → w.heap.size + 1 ≤ b ∧ b ≠ G := fun b hb => by
    obtain ⟨c', f, h1⟩ := ownsB_block h.own b hb
    refine ⟨(World.ownsRow.lt h.own b hb).1, fun e => ?_⟩
    rw [e, h.row.blk] at h1
    cases h1
  exact ⟨(h.on.alloc0 _).grown g8 (fun b e => (hk b e).1) hold, (h.row.alloc _).grown g8 (fun e => (hk G e).2 rfl)⟩
theorem Jl.put {w : World} {P N : Nat} {A : Option Addr} {cap : Nat} {l : List UInt8} {g : Gs} {w8 : World} {G : Nat} {r : Rw} {B A8 : Option Addr} {c c8 n : Nat} (h : Ja w P N A cap l g w8 ∧ RowB w8 G r B c) (far : w.heap.size + 1 ≤ G) (hold : ∀ ad, A = some ad → l ≠ [] → ad.block < w.heap.size)
    (o8 : OwnN w8 (w.heap.size + 1) A8 c8 (r.bks ++ [n])) : Jl w P N A cap l g (w8.setCell ⟨G, 7, none⟩ (.slice A8 (r.bks.length + 1) c8)) G ⟨r.key, r.kind, r.many, r.sum, r.least, r.most, r.over, r.bks ++ [n]⟩ A8 c8 := by
  have gr := grown_set (grown_refl w8 (some G)) ⟨G, 7, none⟩ (.slice A8 (r.bks.length + 1) c8) (Or.inl rfl)
  refine ⟨h.1.grown gr (fun b e => by cases e; exact far) hold, ⟨?_⟩, far, ?_⟩
  · have := heap_set_same (o := 7) (v := .slice A8 (r.bks.length + 1) c8) h.2.blk
    rw [show (r.bks ++ [n]).length = r.bks.length + 1 by simp]
    exact this
  · exact owns_kept o8 gr (fun b e => by cases e; exact .inr ⟨_, _, _, h.2.blk, by decide⟩)
theorem Ja.end_ {w : World} {P N : Nat} {A : Option Addr} {cap : Nat} {l : List UInt8} {g : Gs} {wr : World} (h : Ja w P N A cap l g wr) (k : ByteArray) (kd : Int) (mn : Nat) (sm ls ms : Int) (ov : Bool) :
    Jl w P N A cap l g (wr.alloc (.cells #[.string k, .int .i64 kd, .int .u64 (mn : Nat), .int .i64 sm, .int .i64 ls, .int .i64 ms, .bool ov, .slice none 0 0] 123)) wr.heap.size ⟨k, kd, mn, sm, ls, ms, ov, []⟩ none 0 := Ja.fin h ⟨k, kd, mn, sm, ls, ms, ov, []⟩ rfl
theorem Jb.end_ {w : World} {P N : Nat} {A : Option Addr} {cap : Nat} {l : List UInt8} {g : Gs} {wr : World} {G : Nat} (h : Jb w P N A cap l g wr G) (hold : ∀ ad, A = some ad → l ≠ [] → ad.block < w.heap.size) (k : ByteArray) (kd : Int) (mn : Nat) (sm ls ms : Int) (ov : Bool) :
    Jl w P N A cap l g ((((((((wr.setCell ⟨G, 0, none⟩ (.string k)).setCell ⟨G, 1, none⟩ (.int .i64 kd)).setCell ⟨G, 2, none⟩ (.int .u64 (mn : Nat))).setCell ⟨G, 3, none⟩ (.int .i64 sm)).setCell ⟨G, 4, none⟩ (.int .i64 ls)).setCell ⟨G, 5, none⟩ (.int .i64 ms)).setCell ⟨G, 6, none⟩ (.bool ov)).setCell ⟨G, 7, none⟩ (.slice none 0 0)) G ⟨k, kd, mn, sm, ls, ms, ov, []⟩ none 0 := Jb.fin h ⟨k, kd, mn, sm, ls, ms, ov, []⟩ rfl hold
set_option maxHeartbeats 8000000 in
set_option maxRecDepth 100000 in
theorem brRow (w : World) (P N : Nat) (A : Option Addr) (cap : Nat) (l : List UInt8) (g : Gs) (h : Brd w P N A cap l g) (hl : l.length ≤ 1000000) :
    Calls Tryz.prog 119 #[.pointer (some ⟨P, 0, none⟩)] w (RowPost w P N A cap l (gRow l g).1 (gRow l g).2) := by
  obtain ⟨va, ga, vb, gb, vc, gc, nd, gd, ne, ge, nf, gf, vo, go, e1, e2, e3, e4, e5, e6, e7, hh, hb3⟩ := head_parts l g
  have hold := Lib.hid h.old
  have D1 := fun w' (h : Brd w' P N A cap l g) => brText w' P N A cap l g h hl
  rw [e1] at D1
  have CA1 := Lib.hid (liftA (w := w) D1)
  have CB1 := Lib.hid (liftB (w := w) D1)
  clear D1
  have D2 : ∀ w', Brd w' P N A cap l ga → Calls Tryz.prog 118 #[.pointer (some ⟨P, 0, none⟩), .int .u64 3] w' (NumB w' P N A cap l (gUp l 3 ga).1 (gUp l 3 ga).2) := fun w' h => brUpTo w' P N A cap l ga 3 h hl (by omega)
  rw [e2] at D2
  have CA2 := Lib.hid (liftA (w := w) D2)
  have CB2 := Lib.hid (liftB (w := w) D2)
  clear D2
  have D3 := fun w' (h : Brd w' P N A cap l gb) => brNumber w' P N A cap l gb h hl
  rw [e3] at D3
  have CA3 := Lib.hid (liftA (w := w) D3)
  have CB3 := Lib.hid (liftB (w := w) D3)
  clear D3
  have D4 := fun w' (h : Brd w' P N A cap l gc) => brWhole w' P N A cap l gc h hl
  rw [e4] at D4
  have CA4 := Lib.hid (liftA (w := w) D4)
  have CB4 := Lib.hid (liftB (w := w) D4)
  clear D4
  have D5 := fun w' (h : Brd w' P N A cap l gd) => brWhole w' P N A cap l gd h hl
  rw [e5] at D5
  have CA5 := Lib.hid (liftA (w := w) D5)
  have CB5 := Lib.hid (liftB (w := w) D5)
  clear D5
  have D6 := fun w' (h : Brd w' P N A cap l ge) => brWhole w' P N A cap l ge h hl
  rw [e6] at D6
  have CA6 := Lib.hid (liftA (w := w) D6)
  have CB6 := Lib.hid (liftB (w := w) D6)
  clear D6
  have D7 : ∀ w', Brd w' P N A cap l gf → Calls Tryz.prog 118 #[.pointer (some ⟨P, 0, none⟩), .int .u64 1] w' (NumB w' P N A cap l (gUp l 1 gf).1 (gUp l 1 gf).2) := fun w' h => brUpTo w' P N A cap l gf 1 h hl (by omega)
  rw [e7] at D7
  have CA7 := Lib.hid (liftA (w := w) D7)
  have CB7 := Lib.hid (liftB (w := w) D7)
  clear D7
  obtain ⟨M, gm, e8⟩ : ∃ M gm, gUp l 65 go = (M, gm) := ⟨_, _, rfl⟩
  have hM : M ≤ 65 := by have := gUp_le l 65 go; rw [e8] at this; exact this
  have D8 : ∀ w', Brd w' P N A cap l go → Calls Tryz.prog 118 #[.pointer (some ⟨P, 0, none⟩), .int .u64 65] w' (NumB w' P N A cap l (gUp l 65 go).1 (gUp l 65 go).2) := fun w' h => brUpTo w' P N A cap l go 65 h hl (by omega)
  rw [e8] at D8
  have D8 := Lib.hid D8
  have HE8 := Lib.hid e8
  clear e8
  have HH := Lib.hid hh
  obtain ⟨ov, hov⟩ : ∃ ov, ov = (vo == 1) := ⟨_, rfl⟩
  have xo : ((vo : Int) == 1) = ov := by rw [hov]; exact u_beq vo
  rw [← hov] at HH
  have xb : IntKind.i64.wrap (vb : Int) = (vb : Int) := by rw [IntKind.wrap_i64]; omega
  generalize unfoldN nd = zd at *
  generalize unfoldN ne = ze at *
  generalize unfoldN nf = zf at *
  have J0 : Hid (Ja w P N A cap l g (w.alloc (.cells #[.string ⟨#[]⟩, .int .i64 0, .int .u64 0, .int .i64 0, .int .i64 0, .int .i64 0, .bool false, .slice none 0 0] 123))) := Lib.hid ⟨(Kp.refl _ _ _).alloc _, h.alloc _, ⟨heap_alloc_new w _⟩, h.lt, h.rdr.lt⟩
  have HB0 := Lib.hid h
  have HR : Hid (gRow l g = (⟨⟨va.toArray⟩, (vb : Nat), vc, zd, ze, zf, ov, (gBks l M gm []).1⟩, (gBks l M gm []).2)) := Lib.hid (by unfold gRow; rw [HH.out]; simp only [HE8.out])
  rw [HR.out]
  clear e1 e2 e3 e4 e5 e6 e7 hh hov h
  go_enter Tryz.func119, Tryz.ntmps119
  go_wp2
  generalize w.alloc (.cells #[.string ⟨#[]⟩, .int .i64 0, .int .u64 0, .int .i64 0, .int .i64 0, .int .i64 0, .bool false, .slice none 0 0] 123) = W at J0 ⊢
  go_cut [3] from 4 to 35 (fun v3 wx => ∃ G, v3 = .pointer (some ⟨G, 0, none⟩) ∧ Hid (Jl w P N A cap l go wx G ⟨⟨va.toArray⟩, (vb : Nat), vc, zd, ze, zf, ov, []⟩ none 0))
  case first =>
    have j0 : Ja w P N A cap l g W.drew := J0.out.next ((Kp.refl _ _ _).below (below_drew1 _)) (J0.out.brd.below (below_drew1 _))
    have s0 := j0.c0
    have jb0 : Jb w P N A cap l g (W.alloc (.cells #[.string ⟨#[]⟩, .int .i64 0, .int .u64 0, .int .i64 0, .int .i64 0, .int .i64 0, .bool false, .slice none 0 0] 123)).drew W.heap.size := J0.out.alloc.next ((Kp.refl _ _ _).below (below_drew1 _)) (J0.out.alloc.on.brd.below (below_drew1 _))
    clear J0
    go_region_held3 (fun w' => w'.cell? ⟨P, 0, none⟩ = some (.pointer (some ⟨N, 0, none⟩)))
      (first | with_reducible assumption | with_reducible exact Jb.far8 (by assumption) _ _ _ _ _ _ _ _ | with_reducible exact Ja.c0 (by assumption) | with_reducible exact Jb.c0 (by assumption) | with_reducible exact Ja.c0 (Ja.alloc0 (by assumption) _) | fail)
      (first
            | ((go_at_call 114; with_reducible refine (CA1.out _ (by assumption)).mono ?_); rintro e w9 ⟨rfl, j9⟩)
            | ((go_at_call 114; with_reducible refine (CB1.out _ _ (by assumption)).mono ?_); rintro e w9 ⟨rfl, j9⟩)
            | ((go_at_call 114; with_reducible refine (CB1.out _ _ (Ja.alloc (by assumption))).mono ?_); rintro e w9 ⟨rfl, j9⟩)
            | ((go_at_call 118; with_reducible refine (CA2.out _ (by assumption)).mono ?_); rintro e w9 ⟨rfl, j9⟩)
            | ((go_at_call 118; with_reducible refine (CB2.out _ _ (by assumption)).mono ?_); rintro e w9 ⟨rfl, j9⟩)
            | ((go_at_call 118; with_reducible refine (CB2.out _ _ (Ja.alloc (by assumption))).mono ?_); rintro e w9 ⟨rfl, j9⟩)
            | ((go_at_call 140; with_reducible refine (CA3.out _ (by assumption)).mono ?_); rintro e w9 ⟨rfl, j9⟩)
            | ((go_at_call 140; with_reducible refine (CB3.out _ _ (by assumption)).mono ?_); rintro e w9 ⟨rfl, j9⟩)
            | ((go_at_call 140; with_reducible refine (CB3.out _ _ (Ja.alloc (by assumption))).mono ?_); rintro e w9 ⟨rfl, j9⟩)
            | ((go_at_call 141; with_reducible refine (CA4.out _ (by assumption)).mono ?_); rintro e w9 ⟨rfl, j9⟩)
            | ((go_at_call 141; with_reducible refine (CB4.out _ _ (by assumption)).mono ?_); rintro e w9 ⟨rfl, j9⟩)
            | ((go_at_call 141; with_reducible refine (CB4.out _ _ (Ja.alloc (by assumption))).mono ?_); rintro e w9 ⟨rfl, j9⟩)
            | ((go_at_call 141; with_reducible refine (CA5.out _ (by assumption)).mono ?_); rintro e w9 ⟨rfl, j9⟩)
            | ((go_at_call 141; with_reducible refine (CB5.out _ _ (by assumption)).mono ?_); rintro e w9 ⟨rfl, j9⟩)
            | ((go_at_call 141; with_reducible refine (CB5.out _ _ (Ja.alloc (by assumption))).mono ?_); rintro e w9 ⟨rfl, j9⟩)
            | ((go_at_call 141; with_reducible refine (CA6.out _ (by assumption)).mono ?_); rintro e w9 ⟨rfl, j9⟩)
            | ((go_at_call 141; with_reducible refine (CB6.out _ _ (by assumption)).mono ?_); rintro e w9 ⟨rfl, j9⟩)
            | ((go_at_call 141; with_reducible refine (CB6.out _ _ (Ja.alloc (by assumption))).mono ?_); rintro e w9 ⟨rfl, j9⟩)
            | ((go_at_call 118; with_reducible refine (CA7.out _ (by assumption)).mono ?_); rintro e w9 ⟨rfl, j9⟩)
            | ((go_at_call 118; with_reducible refine (CB7.out _ _ (by assumption)).mono ?_); rintro e w9 ⟨rfl, j9⟩; have f0 := j9.row.f 0; have f1 := j9.row.f 1; have f2 := j9.row.f 2; have f3 := j9.row.f 3; have f4 := j9.row.f 4; have f5 := j9.row.f 5; have f6 := j9.row.f 6; have f7 := j9.row.f 7; have d0 := j9.row.c0; have d1 := j9.row.c1; have d2 := j9.row.c2; have d3 := j9.row.c3; have d4 := j9.row.c4; have d5 := j9.row.c5; have d6 := j9.row.c6; have d7 := j9.row.c7)
            | ((go_at_call 118; with_reducible refine (CB7.out _ _ (Ja.alloc (by assumption))).mono ?_); rintro e w9 ⟨rfl, j9⟩; have f0 := j9.row.f 0; have f1 := j9.row.f 1; have f2 := j9.row.f 2; have f3 := j9.row.f 3; have f4 := j9.row.f 4; have f5 := j9.row.f 5; have f6 := j9.row.f 6; have f7 := j9.row.f 7; have d0 := j9.row.c0; have d1 := j9.row.c1; have d2 := j9.row.c2; have d3 := j9.row.c3; have d4 := j9.row.c4; have d5 := j9.row.c5; have d6 := j9.row.c6; have d7 := j9.row.c7)
            | fail)
    all_goals go_wp2
    all_goals
      go_meet
      case rel =>
        refine ⟨_, rfl, Lib.hid ?_⟩
        first
          | with_reducible exact Ja.end_ (by assumption) _ _ _ _ _ _ _
          | with_reducible exact Jb.end_ (by assumption) hold.out _ _ _ _ _ _ _
          | fail
  case rest =>
    obtain ⟨G, rfl, HJ⟩ := hcut
    clear xo xb J0
    go_wp2_with fail
    refine (liftL D8.out _ HJ.out).mono ?_
    rintro e w2 ⟨rfl, j2⟩
    have J2 := Lib.hid j2
    clear j2 HJ
    go_wp2_with fail
    go_loopg [38] M (fun gh s38 wx => ∃ (i : Nat) (g' : Gs) (acc : List Nat) (B : Option Addr) (c : Nat), i + gh = M ∧ acc.length = i ∧ s38 = .int .u64 i ∧ Hid (Jl w P N A cap l g' wx G ⟨⟨va.toArray⟩, (vb : Nat), vc, zd, ze, zf, ov, acc⟩ B c ∧ gBks l gh g' acc = gBks l M gm []))
    case atStart => exact ⟨0, gm, [], none, 0, by omega, rfl, rfl, Lib.hid ⟨J2.out, rfl⟩⟩
    case round =>
      clear J2
      obtain ⟨i, g', acc, B, c, hig, hac, rfl, HG⟩ := hrel
      subst hac
      have c7 : wr.cell? ⟨G, 7, none⟩ = some (.slice B acc.length c) := HG.out.1.row.c7
      cases gk with
      | zero =>
        have x1 : decide ((acc.length : Int) < (M : Int)) = false := decide_eq_false (by omega)
        have x2 : decide (acc.length < M) = false := decide_eq_false (by omega)
        have c0 : wr.cell? ⟨G, 0, none⟩ = some (.string ⟨va.toArray⟩) := HG.out.1.row.c0
        have c1 : wr.cell? ⟨G, 1, none⟩ = some (.int .i64 (vb : Nat)) := HG.out.1.row.c1
        have c2 : wr.cell? ⟨G, 2, none⟩ = some (.int .u64 (vc : Nat)) := HG.out.1.row.c2
        have c3 : wr.cell? ⟨G, 3, none⟩ = some (.int .i64 zd) := HG.out.1.row.c3
        have c4 : wr.cell? ⟨G, 4, none⟩ = some (.int .i64 ze) := HG.out.1.row.c4
        have c5 : wr.cell? ⟨G, 5, none⟩ = some (.int .i64 zf) := HG.out.1.row.c5
        have c6 : wr.cell? ⟨G, 6, none⟩ = some (.bool ov) := HG.out.1.row.c6
        have d0 := HG.out.1.on.res.c0
        have d1 := HG.out.1.on.res.c1
        have d2 := HG.out.1.on.res.c2
        have d3 := HG.out.1.on.res.c3
        have d4 := HG.out.1.on.res.c4
        have d5 := HG.out.1.on.res.c5
        have d6 := HG.out.1.on.res.c6
        have d7 := HG.out.1.on.res.c7
        have f0 := HG.out.1.on.res.f 0
        have f1 := HG.out.1.on.res.f 1
        have f2 := HG.out.1.on.res.f 2
        have f3 := HG.out.1.on.res.f 3
        have f4 := HG.out.1.on.res.f 4
        have f5 := HG.out.1.on.res.f 5
        have f6 := HG.out.1.on.res.f 6
        have f7 := HG.out.1.on.res.f 7
        have HK : Hid (gBks l M gm [] = (acc, g')) := Lib.hid HG.out.2.symm
        go_wp2_with fail
        refine bodyPost_ret (v := .agg #[.string ⟨va.toArray⟩, .int .i64 (vb : Nat), .int .u64 (vc : Nat), .int .i64 zd, .int .i64 ze, .int .i64 zf, .bool ov, .slice B acc.length c]) (by simp [results, Tryz.results119, go_sem, d0, d1, d2, d3, d4, d5, d6, d7]) rfl ?_
        rw [HK.out]
        exact ⟨B, c, rfl, HG.out.1.ret hold.out _ _ _ _ _ _ _ _⟩
      | succ gh =>
        have x1 : decide ((acc.length : Int) < (M : Int)) = true := decide_eq_true (by omega)
        have x2 : decide (acc.length < M) = true := decide_eq_true (by omega)
        obtain ⟨n, g2, en⟩ : ∃ n g2, gNum l g' = (n, g2) := ⟨_, _, rfl⟩
        have HX : Hid (gBks l gh g2 (acc ++ [n]) = gBks l M gm []) := Lib.hid (by rw [← HG.out.2, gBks, en])
        have D9 := fun w' (h : Brd w' P N A cap l g') => brNumber w' P N A cap l g' h hl
        rw [en] at D9
        have CN := Lib.hid (liftL (w := w) (G := G) (r := ⟨⟨va.toArray⟩, (vb : Nat), vc, zd, ze, zf, ov, acc⟩) (B := B) (c := c) D9)
        have j0 : Jl w P N A cap l g' wr.drew G ⟨⟨va.toArray⟩, (vb : Nat), vc, zd, ze, zf, ov, acc⟩ B c := HG.out.1.next ((Kp.refl _ _ _).below (below_drew1 _)) (HG.out.1.on.brd.below (below_drew1 _))
        have s0 := HG.out.1.on.c0
        have hal : acc.length ≤ 1000 := by omega
        have HFAR := Lib.hid HG.out.1.far
        clear D9 en
        go_wp2
        go_region_law (first
          | (go_simp; (go_at_call 140; with_reducible refine (CN.out _ (by assumption)).mono ?_); rintro e w9 ⟨rfl, j9⟩; (try dsimp only); have q7 : w9.cell? ⟨G, 7, none⟩ = some (.slice B acc.length c) := j9.row.c7; have lg9 := j9.row.lt; have q8 : (w9.alloc (.cells #[.int .u64 (n : Nat)] 120)).cell? ⟨G, 7, none⟩ = some (.slice B acc.length c) := (j9.row.alloc _).c7)
          | (obtain ⟨A8, c8, w8, r8, o8, g8⟩ := append_nat n j9.own j9.on.size hal; have j8 := j9.app hold.out g8; have z7 := j8.2.f 7; have y7 : w8.cell? ⟨G, 7, none⟩ = some (.slice B acc.length c) := j8.2.c7; refine step_append_at rfl (.tmp 41) (.tmp 47) 121 rfl _ _ _ rfl rfl r8 ?_))
        all_goals go_wp2
        all_goals
          go_roundg gh
          case rel => exact ⟨acc.length + 1, g2, acc ++ [n], A8, c8, by omega, by simp, by go_num, Lib.hid ⟨Jl.put j8 HFAR.out hold.out o8, HX.out⟩⟩
          case measure => omega
end Go.Proofs.YtgeahpfdaehjaaaGreatDoor
namespace Go.Proofs.YtgeahpfdaehjaaaGreatDoor
open Go.ChangeShapes Go.WideShapes Go.ChangeAt Go.RowKit
set_option linter.unusedVariables false

theorem OwnR.kp {w w1 : World} {P N base : Nat} {A : Option Addr} {cap : Nat} {rows : List Rw} (h : OwnR w base A cap rows) (k : Kp w P N w1) (hP : P < base) (hN : N < base) : OwnR w1 base A cap rows := by
  obtain ⟨l, e, h1, h2⟩ := h
  exact ⟨l, e, k.own h1 hP hN, fun x hx => k.own (h2 x hx) hP hN⟩
theorem BtB.kp {w w' : World} {P N g : Nat} {s t : Int} {A : Option Addr} {n c : Nat} (h : BtB w g s t A n c) (k : Kp w P N w') (h1 : g ≠ P) (h2 : g ≠ N) : BtB w' g s t A n c := ⟨by rw [k.block g h.lt h1 h2]; exact h.blk⟩
section
variable (w : World) (P N : Nat) (A : Option Addr) (cap : Nat) (l : List UInt8)
/-- Where the reading of a batch stands: the result's block; the batch's own, with its rows. -/
structure Ka (g : Gs) (wr : World) : Prop where
  kp : Kp w P N wr
  brd : Brd wr P N A cap l g
  res : BtB wr w.heap.size 0 0 none 0 0
  hP : P < w.heap.size
  hN : N < w.heap.size
structure Kl (g : Gs) (wr : World) (G : Nat) (s t : Int) (rows : List Rw) (B : Option Addr) (c : Nat) : Prop where
  on : Ka w P N A cap l g wr
  bt : BtB wr G s t B rows.length c
  far : w.heap.size + 1 ≤ G
  own : OwnR wr (w.heap.size + 1) B c rows
end
section
variable {w : World} {P N : Nat} {A : Option Addr} {cap : Nat} {l : List UInt8} {g g' : Gs} {wr w' : World} {G : Nat} {s t : Int} {rows : List Rw} {r : Rw} {B : Option Addr} {c : Nat}
theorem Ka.size (h : Ka w P N A cap l g wr) : w.heap.size + 1 ≤ wr.heap.size := h.res.lt
theorem Ka.next (h : Ka w P N A cap l g wr) (k : Kp wr P N w') (b : Brd w' P N A cap l g') : Ka w P N A cap l g' w' :=
  ⟨h.kp.trans k, b, h.res.kp k (by have := h.hP; omega) (by have := h.hN; omega), h.hP, h.hN⟩
theorem Ka.c0 (h : Ka w P N A cap l g wr) : wr.cell? ⟨P, 0, none⟩ = some (.pointer (some ⟨N, 0, none⟩)) := h.brd.c0
theorem Ka.grown (h : Ka w P N A cap l g wr) {q : Option Nat} (hg : wr.grownBy w' q) (hq : ∀ b, q = some b → w.heap.size + 1 ≤ b) (hold : ∀ ad, A = some ad → l ≠ [] → ad.block < w.heap.size) : Ka w P N A cap l g w' :=
  ⟨h.kp.grown hg (fun b e => .inr (.inr (by have := hq b e; omega))), h.brd.grown hg (fun b e => by have := hq b e; have := h.hP; have := h.hN; exact ⟨by omega, by omega, fun ad ha hne => by have := hold ad ha hne; omega⟩),
   h.res.grown hg (fun e => by have := hq _ e; omega), h.hP, h.hN⟩
theorem Ka.alloc0 (h : Ka w P N A cap l g wr) (o : Obj) : Ka w P N A cap l g (wr.alloc o) := h.next (Kp.refl _ _ _ |>.alloc o) (h.brd.alloc o)
theorem Ka.lay (h : Ka w P N A cap l g wr) (s t : Int) : Kl w P N A cap l g (wr.alloc (.cells #[.int .i64 s, .int .i64 t, .slice none 0 0] 60)) wr.heap.size s t [] none 0 :=
  ⟨h.alloc0 _, ⟨heap_alloc_new wr _⟩, h.size, OwnR.nil _ _⟩
theorem liftK {f : Nat} {as_ : Array Value} {V : Value} (H : ∀ w', Brd w' P N A cap l g → Calls Tryz.prog f as_ w' (fun e w'' => e = .returned V ∧ Kp w' P N w'' ∧ Brd w'' P N A cap l g')) :
    ∀ w', Ka w P N A cap l g w' → Calls Tryz.prog f as_ w' (fun e w'' => e = .returned V ∧ Ka w P N A cap l g' w'') :=
  fun w' h => (H w' h.brd).mono fun e w'' ⟨he, hk, hb⟩ => ⟨he, h.next hk hb⟩
theorem Kl.next (h : Kl w P N A cap l g wr G s t rows B c) (k : Kp wr P N w') (b : Brd w' P N A cap l g') : Kl w P N A cap l g' w' G s t rows B c :=
  ⟨h.on.next k b, h.bt.kp k (by have := h.on.hP; have := h.far; omega) (by have := h.on.hN; have := h.far; omega), h.far, h.own.kp k (by have := h.on.hP; omega) (by have := h.on.hN; omega)⟩
theorem liftKl {f : Nat} {as_ : Array Value} {V : Value} (H : ∀ w', Brd w' P N A cap l g → Calls Tryz.prog f as_ w' (fun e w'' => e = .returned V ∧ Kp w' P N w'' ∧ Brd w'' P N A cap l g')) :
    ∀ w', Kl w P N A cap l g w' G s t rows B c → Calls Tryz.prog f as_ w' (fun e w'' => e = .returned V ∧ Kl w P N A cap l g' w'' G s t rows B c) :=
  fun w' h => (H w' h.on.brd).mono fun e w'' ⟨he, hk, hb⟩ => ⟨he, h.next hk hb⟩
theorem Kl.row (hl : l.length ≤ 1000000) (er : gRow l g = (r, g')) : ∀ w', Kl w P N A cap l g w' G s t rows B c → Calls Tryz.prog 119 #[.pointer (some ⟨P, 0, none⟩)] w'
    (fun e w'' => ∃ B9 c9, e = .returned (.agg #[.string r.key, .int .i64 r.kind, .int .u64 (r.many : Nat), .int .i64 r.sum, .int .i64 r.least, .int .i64 r.most, .bool r.over, .slice B9 r.bks.length c9]) ∧ Kl w P N A cap l g' w'' G s t rows B c ∧ OwnN w'' (w.heap.size + 1) B9 c9 r.bks) :=
  fun w' h => by
    have hb := brRow w' P N A cap l g h.on.brd hl
    rw [er] at hb
    refine hb.mono ?_
    rintro e w'' ⟨B9, c9, rfl, hk, hbr, ho⟩
    exact ⟨B9, c9, rfl, h.next hk hbr, ownsB_mono ho h.on.size⟩
theorem Kl.app {w8 : World} {B9 : Option Addr} {c9 : Nat} (h : Kl w P N A cap l g wr G s t rows B c) (hold : ∀ ad, A = some ad → l ≠ [] → ad.block < w.heap.size)
    (g8 : (wr.alloc (rowObj r B9 c9)).grownBy w8 (Value.slice B rows.length c).ownBlock) : Ka w P N A cap l g w8 ∧ BtB w8 G s t B rows.length c := by
  have hk : ∀ b, (Value.slice B rows.length c).ownBlock = some b → w.heap.size + 1 ≤ b ∧ b ≠ G := fun b hb => by
    obtain ⟨h1, _, c', f, h2⟩ := h.own.far b hb
    refine ⟨h1, fun e => ?_⟩
    rw [e, h.bt.blk] at h2
    cases h2
  exact ⟨(h.on.alloc0 _).grown g8 (fun b e => (hk b e).1) hold, (h.bt.alloc _).grown g8 (fun e => (hk G e).2 rfl)⟩
theorem Kl.put {w8 : World} {A8 : Option Addr} {c8 : Nat} (h : Ka w P N A cap l g w8 ∧ BtB w8 G s t B rows.length c) (far : w.heap.size + 1 ≤ G) (hold : ∀ ad, A = some ad → l ≠ [] → ad.block < w.heap.size)
    (o8 : OwnR w8 (w.heap.size + 1) A8 c8 (rows ++ [r])) : Kl w P N A cap l g (w8.setCell ⟨G, 2, none⟩ (.slice A8 (rows.length + 1) c8)) G s t (rows ++ [r]) A8 c8 := by
  have gr := grown_set (grown_refl w8 (some G)) ⟨G, 2, none⟩ (.slice A8 (rows.length + 1) c8) (Or.inl rfl)
  refine ⟨h.1.grown gr (fun b e => by cases e; exact far) hold, ⟨?_⟩, far, ?_⟩
  · have := heap_set_same (o := 2) (v := .slice A8 (rows.length + 1) c8) h.2.blk
    rw [show (rows ++ [r]).length = rows.length + 1 by simp]
    exact this
  · exact o8.kept gr (fun b e => by cases e; exact .inr ⟨_, _, _, h.2.blk, by decide, by decide⟩)
theorem Kl.ret (h : Kl w P N A cap l g wr G s t rows B c) (hold : ∀ ad, A = some ad → l ≠ [] → ad.block < w.heap.size) (v0 v1 v2 : Value) :
    Kp w P N (((wr.setCell ⟨w.heap.size, 0, none⟩ v0).setCell ⟨w.heap.size, 1, none⟩ v1).setCell ⟨w.heap.size, 2, none⟩ v2) ∧ Brd (((wr.setCell ⟨w.heap.size, 0, none⟩ v0).setCell ⟨w.heap.size, 1, none⟩ v1).setCell ⟨w.heap.size, 2, none⟩ v2) P N A cap l g ∧ OwnR (((wr.setCell ⟨w.heap.size, 0, none⟩ v0).setCell ⟨w.heap.size, 1, none⟩ v1).setCell ⟨w.heap.size, 2, none⟩ v2) w.heap.size B c rows := by
  have gr : wr.grownBy (((wr.setCell ⟨w.heap.size, 0, none⟩ v0).setCell ⟨w.heap.size, 1, none⟩ v1).setCell ⟨w.heap.size, 2, none⟩ v2) (some w.heap.size) := by
    refine grown_set (grown_set (grown_set (grown_refl _ _) _ _ ?_) _ _ ?_) _ _ ?_ <;> exact Or.inl rfl
  have hP := h.on.hP
  have hN := h.on.hN
  refine ⟨h.on.kp.grown gr (fun b e => by cases e; exact .inr (.inr (Nat.le_refl _))), h.on.brd.grown gr (fun b e => by cases e; exact ⟨by omega, by omega, fun ad ha hne => by have := hold ad ha hne; omega⟩), ?_⟩
  exact (h.own.kept gr (fun b e => by cases e; exact .inl (Nat.lt_succ_self _))).mono (Nat.le_succ _)
end
def BatchPost (w : World) (P N : Nat) (A : Option Addr) (cap : Nat) (l : List UInt8) (b : Bt) (g : Gs) (e : Ending) (w' : World) : Prop :=
  ∃ B c, e = .returned (btVal b.seq b.start B b.rows.length c) ∧ Kp w P N w' ∧ Brd w' P N A cap l g ∧ OwnR w' w.heap.size B c b.rows
set_option maxHeartbeats 4000000 in
set_option maxRecDepth 100000 in
theorem brBatch (w : World) (P N : Nat) (A : Option Addr) (cap : Nat) (l : List UInt8) (h : Brd w P N A cap l g0) (hl : l.length ≤ 1000000) :
    Calls Tryz.prog 102 #[.pointer (some ⟨P, 0, none⟩)] w (BatchPost w P N A cap l (gBatch l).1 (gBatch l).2) := by
  have hold := Lib.hid h.old
  obtain ⟨vs, gs, e1⟩ : ∃ vs gs, gUp l 2147483647 g0 = (vs, gs) := ⟨_, _, rfl⟩
  obtain ⟨vt, gt, e2⟩ : ∃ vt gt, gUp l 1099511627776 gs = (vt, gt) := ⟨_, _, rfl⟩
  obtain ⟨M, gm, e3⟩ : ∃ M gm, gUp l 200 gt = (M, gm) := ⟨_, _, rfl⟩
  have hs : vs ≤ 2147483647 := by have := gUp_le l 2147483647 g0; rw [e1] at this; exact this
  have ht : vt ≤ 1099511627776 := by have := gUp_le l 1099511627776 gs; rw [e2] at this; exact this
  have hM : M ≤ 200 := by have := gUp_le l 200 gt; rw [e3] at this; exact this
  have hE : gBatch l = (⟨(vs : Nat), (vt : Nat), (gRows l M gm []).1⟩, (gRows l M gm []).2) := by unfold gBatch; simp only [e1, e2, e3]
  rw [hE]
  have D1 : ∀ w', Brd w' P N A cap l g0 → Calls Tryz.prog 118 #[.pointer (some ⟨P, 0, none⟩), .int .u64 2147483647] w' (NumB w' P N A cap l (gUp l 2147483647 g0).1 (gUp l 2147483647 g0).2) := fun w' h => brUpTo w' P N A cap l g0 2147483647 h hl (by omega)
  rw [e1] at D1
  have C1 := Lib.hid (liftK (w := w) D1)
  have D2 : ∀ w', Brd w' P N A cap l gs → Calls Tryz.prog 118 #[.pointer (some ⟨P, 0, none⟩), .int .u64 1099511627776] w' (NumB w' P N A cap l (gUp l 1099511627776 gs).1 (gUp l 1099511627776 gs).2) := fun w' h => brUpTo w' P N A cap l gs 1099511627776 h hl (by omega)
  rw [e2] at D2
  have C2 := Lib.hid (liftK (w := w) D2)
  have D3 : ∀ w', Brd w' P N A cap l gt → Calls Tryz.prog 118 #[.pointer (some ⟨P, 0, none⟩), .int .u64 200] w' (NumB w' P N A cap l (gUp l 200 gt).1 (gUp l 200 gt).2) := fun w' h => brUpTo w' P N A cap l gt 200 h hl (by omega)
  rw [e3] at D3
  have C3 := Lib.hid D3
  have J0 : Hid (Ka w P N A cap l g0 (w.alloc (.cells #[.int .i64 0, .int .i64 0, .slice none 0 0] 60))) := Lib.hid ⟨(Kp.refl _ _ _).alloc _, h.alloc _, ⟨heap_alloc_new w _⟩, h.lt, h.rdr.lt⟩
  clear D1 D2 D3 e1 e2 e3 hE h
  go_enter Tryz.func102, Tryz.ntmps102
  go_wp2_with fail
  refine (C1.out _ J0.out).mono ?_
  rintro e w1 ⟨rfl, j1⟩
  have J1 := Lib.hid j1
  clear j1 C1 J0
  go_wp2_with fail
  refine (C2.out _ J1.out).mono ?_
  rintro e w2 ⟨rfl, j2⟩
  have J2 := Lib.hid (j2.lay (vs : Nat) (vt : Nat))
  clear j2 C2 J1
  go_wp2_with fail
  refine (liftKl C3.out _ J2.out).mono ?_
  rintro e w3 ⟨rfl, j3⟩
  have J3 := Lib.hid j3
  clear j3 C3 J2
  go_wp2_with fail
  generalize w2.heap.size = G at J3 ⊢
  go_loopg [13] M (fun gh s13 wx => ∃ (g' : Gs) (rows : List Rw) (B : Option Addr) (c : Nat), rows.length + gh = M ∧ s13 = .int .u64 rows.length ∧ Hid (Kl w P N A cap l g' wx G (vs : Nat) (vt : Nat) rows B c ∧ gRows l gh g' rows = gRows l M gm []))
  case atStart => exact ⟨gm, [], none, 0, by simp, rfl, Lib.hid ⟨J3.out, rfl⟩⟩
  case round =>
    clear J3
    obtain ⟨g', rows, B, c, hig, rfl, HG⟩ := hrel
    have c2 := HG.out.1.bt.c2
    cases gk with
    | zero =>
      have x1 : decide ((rows.length : Int) < (M : Int)) = false := decide_eq_false (by omega)
      have x2 : decide (rows.length < M) = false := decide_eq_false (by omega)
      have c0 := HG.out.1.bt.c0
      have c1 := HG.out.1.bt.c1
      have d0 := HG.out.1.on.res.c0
      have d1 := HG.out.1.on.res.c1
      have d2 := HG.out.1.on.res.c2
      have f0 := HG.out.1.on.res.f 0
      have f1 := HG.out.1.on.res.f 1
      have f2 := HG.out.1.on.res.f 2
      have HK : Hid (gRows l M gm [] = (rows, g')) := Lib.hid HG.out.2.symm
      go_wp2_with fail
      refine bodyPost_ret (v := .agg #[.int .i64 (vs : Nat), .int .i64 (vt : Nat), .slice B rows.length c]) (by simp [results, Tryz.results102, go_sem, d0, d1, d2]) rfl ?_
      rw [HK.out]
      exact ⟨B, c, rfl, HG.out.1.ret hold.out _ _ _⟩
    | succ gh =>
      have x1 : decide ((rows.length : Int) < (M : Int)) = true := decide_eq_true (by omega)
      have x2 : decide (rows.length < M) = true := decide_eq_true (by omega)
      obtain ⟨r, g2, er⟩ : ∃ r g2, gRow l g' = (r, g2) := ⟨_, _, rfl⟩
      have HX : Hid (gRows l gh g2 (rows ++ [r]) = gRows l M gm []) := Lib.hid (by rw [← HG.out.2, gRows, er])
      have CN := Lib.hid (Kl.row (w := w) (P := P) (N := N) (A := A) (cap := cap) (G := G) (s := (vs : Nat)) (t := (vt : Nat)) (rows := rows) (B := B) (c := c) hl er)
      have j0 : Kl w P N A cap l g' wr.drew G (vs : Nat) (vt : Nat) rows B c := HG.out.1.next ((Kp.refl _ _ _).below (below_drew1 _)) (HG.out.1.on.brd.below (below_drew1 _))
      have hal : rows.length ≤ 1000 := by omega
      have HFAR := Lib.hid HG.out.1.far
      clear er
      go_wp2
      go_region_law (first
        | (go_simp; (go_at_call 119; with_reducible refine (CN.out _ (by assumption)).mono ?_); rintro e w9 ⟨B9, c9, rfl, j9, o9⟩; (try dsimp only); have q7 := j9.bt.c2; have lg9 := j9.bt.lt; have q8 := (j9.bt.alloc (.cells #[.string r.key, .int .i64 r.kind, .int .u64 (r.many : Nat), .int .i64 r.sum, .int .i64 r.least, .int .i64 r.most, .bool r.over, .slice B9 r.bks.length c9] 123)).c2)
        | (obtain ⟨A8, c8, w8, r8, o8, g8⟩ := append_row r B9 c9 j9.own o9 j9.on.size hal; have j8 := j9.app hold.out g8; have z7 := j8.2.f 2; have y7 := j8.2.c2; unfold rowObj at r8; refine step_append_at rfl (.tmp 16) (.tmp 19) 58 rfl _ _ _ rfl rfl r8 ?_)
        | fail)
      all_goals go_wp2
      all_goals
        go_roundg gh
        case rel => exact ⟨g2, rows ++ [r], A8, c8, by simp; omega, by simp, Lib.hid ⟨Kl.put j8 HFAR.out hold.out o8, HX.out⟩⟩
        case measure => omega
end Go.Proofs.YtgeahpfdaehjaaaGreatDoor
namespace Go.Proofs.YtgeahpfdaehjaaaGreatDoor
open Go.ChangeShapes Go.WideShapes Go.ChangeAt Go.RowKit
set_option linter.unusedVariables false

theorem text_len (l : List UInt8) (g : Gs) : (gText l g).1.length ≤ 300 := by
  unfold gText rsText
  split
  · simp
  · split
    · simp
    · split
      · simp
      · simp only [List.length_take]; omega
theorem row_sized (l : List UInt8) (g : Gs) : (gRow l g).1.key.size ≤ 300 ∧ (gRow l g).1.bks.length ≤ 65 := by
  have h1 := text_len l g
  constructor
  · unfold gRow gHead
    show ((gText l g).1.toArray).size ≤ 300
    simp only [List.size_toArray]; exact h1
  · unfold gRow
    simp only
    rw [bks_len]
    have := gUp_le l 65 (gHead l g).2
    simp
    exact this
theorem rows_sized {l : List UInt8} : ∀ (k : Nat) (g : Gs) (acc : List Rw), (∀ r ∈ acc, r.key.size ≤ 300 ∧ r.bks.length ≤ 65) → ∀ r ∈ (gRows l k g acc).1, r.key.size ≤ 300 ∧ r.bks.length ≤ 65
  | 0, g, acc, h => h
  | k + 1, g, acc, h => rows_sized k _ _ (fun r hr => by
      rcases List.mem_append.1 hr with hr | hr
      · exact h r hr
      · obtain rfl : r = (gRow l g).1 := by simpa using hr
        exact row_sized l g)
theorem batch_sized (l : List UInt8) : SizedR (gBatch l).1.rows ∧ ∀ r ∈ (gBatch l).1.rows, r.key.size ≤ 300 ∧ r.bks.length ≤ 65 := by
  have h : ∀ r ∈ (gBatch l).1.rows, r.key.size ≤ 300 ∧ r.bks.length ≤ 65 := by
    unfold gBatch
    exact rows_sized _ _ _ (fun r hr => by simp at hr)
  have hl := (batch_fit l).2.2.2.2.2
  exact ⟨⟨by omega, fun r hr => by have := h r hr; omega⟩, h⟩

def GetBad (w : World) (e : Ending) (w' : World) : Prop := e = .returned (.tuple #[btVal 0 0 none 0 0, .iface 41 (.int .i64 2)]) ∧ Below w.heap.size w w'
def GetGood (w : World) (b : Bt) (e : Ending) (w' : World) : Prop := ∃ B c, e = .returned (.tuple #[btVal b.seq b.start B b.rows.length c, .nilIface]) ∧ RdR w' B b.rows ∧ Below w.heap.size w w'
def GetPost (w : World) (o : Option Bt) (e : Ending) (w' : World) : Prop := match o with | none => GetBad w e w' | some b => GetGood w b e w'
theorem getF_bey {l : List UInt8} (h : (gBatch l).2.bey = true) : getF l = none := by unfold getF; rw [if_neg (by rw [h]; simp)]
theorem getF_end {l : List UInt8} {p : Nat} (h : rsEnd l (gBatch l).2.r = some p) : getF l = none := by unfold getF; rw [if_neg (by rw [h]; simp)]
theorem getF_may {l : List UInt8} (h : mayOk (gBatch l).1 = false) : getF l = none := by unfold getF; rw [if_neg (by rw [h]; simp)]
theorem getF_good {l : List UInt8} (h1 : (gBatch l).2.bey = false) (h2 : rsEnd l (gBatch l).2.r = none) (h3 : mayOk (gBatch l).1 = true) : getF l = some (gBatch l).1 := by unfold getF; rw [if_pos ⟨h1, h2, h3⟩]

set_option maxHeartbeats 2000000 in
set_option maxRecDepth 100000 in
theorem batchGet (A : Option Addr) (cap : Nat) (l : List UInt8) (w : World) (hL : Laid w) (hr : RdS w A cap l) (hl : l.length ≤ 1000000) :
    Calls Tryz.prog 78 #[.slice A l.length cap] w (GetPost w (getF l)) := by
  have HL := Lib.hid hL
  have Z0 := Lib.hid (BtB.new w 0 0 none 0 0)
  have B0 := Lib.hid (below_new w (.cells #[.int .i64 0, .int .i64 0, .slice none 0 0] 60))
  have C1 := wireRead (w.alloc (.cells #[.int .i64 0, .int .i64 0, .slice none 0 0] 60)) A cap l (hr.alloc _)
  rw [World.size_alloc] at C1
  have C1 := Lib.hid C1
  obtain ⟨sz, sr⟩ := batch_sized l
  have SZ := Lib.hid sz
  obtain ⟨bt, gg, hbt⟩ : ∃ bt gg, gBatch l = (bt, gg) := ⟨_, _, rfl⟩
  have HB := Lib.hid hbt
  clear hL hr sz sr
  go_enter Tryz.func78, Tryz.ntmps78
  go_wp2_with fail
  refine C1.out.mono ?_
  rintro e w1 ⟨rfl, b1, r1⟩
  have lN := r1.lt
  have BR : Brd (w1.alloc (.cells #[.pointer (some ⟨w.heap.size + 1, 0, none⟩), .bool false] 169)) w1.heap.size (w.heap.size + 1) A cap l g0 := by
    refine ⟨heap_alloc_new w1 _, ⟨by rw [(World.grownBy_alloc w1 _ none).block _ lN (by simp)]; exact r1.blk, r1.rd.alloc _, r1.ne, r1.le⟩, by omega, fun ad ha hne e => ?_⟩
    cases l with
    | nil => exact hne rfl
    | cons x l =>
      have h1 := World.block_lt_of_cell? w1 _ (r1.rd.rd ad ha 0 x rfl)
      rw [show (ad.add 0).block = ad.block by simp [Addr.add]] at h1
      omega
  have C2 := brBatch _ _ _ A cap l BR hl
  rw [hbt] at C2
  have C2 := Lib.hid C2
  have B1 := Lib.hid (B0.out.trans (b1.mono (by simp)))
  have Z1 := Lib.hid ((Z0.out.keep b1 (Nat.lt_succ_self _)).alloc (.cells #[.pointer (some ⟨w.heap.size + 1, 0, none⟩), .bool false] 169))
  have hzw := B1.out.size
  clear b1 r1 BR C1 Z0 B0 hbt
  go_wp2_with fail
  refine C2.out.mono ?_
  rintro e w2 ⟨B, c, rfl, k2, br2, own2⟩
  unfold btVal
  have B2 : Below w.heap.size w w2 := (B1.out.alloc hzw _).trans (k2.to (by simp; omega) hzw (by omega))
  have Z2 := Z1.out.kp k2 (by omega) (by omega)
  have rd2 := own2.rd
  have HR2 := Lib.hid (rd2.alloc (.cells #[.int .i64 bt.seq, .int .i64 bt.start, .slice B bt.rows.length c] 60))
  have BB2 := Lib.hid (B2.alloc (Nat.le_trans hzw (by have := k2.size; simp at this; omega)) (.cells #[.int .i64 bt.seq, .int .i64 bt.start, .slice B bt.rows.length c] 60))
  have BR2 := Lib.hid (br2.alloc (.cells #[.int .i64 bt.seq, .int .i64 bt.start, .slice B bt.rows.length c] 60))
  have ZZ2 := Lib.hid (Z2.alloc (.cells #[.int .i64 bt.seq, .int .i64 bt.start, .slice B bt.rows.length c] 60))
  have TT2 := Lib.hid (BtB.new w2 bt.seq bt.start B bt.rows.length c)
  have HZ2 := Lib.hid Z2
  have HO2 := Lib.hid (own2.below (below_new w2 (.cells #[.int .i64 bt.seq, .int .i64 bt.start, .slice B bt.rows.length c] 60)))
  have hbase : w.heap.size < (w1.alloc (.cells #[.pointer (some ⟨w.heap.size + 1, 0, none⟩), .bool false] 169)).heap.size := by simp; omega
  have HBASE := Lib.hid hbase
  clear hbase
  have hz9 : w.heap.size < w2.heap.size := Z2.lt
  cases hbey : gg.bey with
  | true =>
    have HX : Hid (getF l = none) := Lib.hid (getF_bey (by rw [HB.out]; exact hbey))
    have c1 : w2.cell? ⟨w1.heap.size, 1, none⟩ = some (.bool true) := by rw [← hbey]; exact br2.c1
    have HBB := Lib.hid B2
    have hlp := br2.lt
    have d0 := Z2.c0
    have d1 := Z2.c1
    have d2 := Z2.c2
    have f0 := Z2.f 0
    have f1 := Z2.f 1
    have f2 := Z2.f 2
    clear C2 B1 Z1 k2 br2 own2 B2 Z2 rd2 HR2 BB2 BR2 ZZ2 TT2 hbey
    go_wp2_with fail
    refine bodyPost_ret (v := .tuple #[.agg #[.int .i64 0, .int .i64 0, .slice none 0 0], .iface 41 (.int .i64 2)]) (by simp [results, Tryz.results78, go_sem, d0, d1, d2, hz9]) rfl ?_
    rw [HX.out]
    exact ⟨rfl, below_of_grown (grown_alloc (grown_set (grown_set (grown_set (grown_of HBB.out) _ _ (Or.inr (Nat.le_refl _))) _ _ (Or.inr (Nat.le_refl _))) _ _ (Or.inr (Nat.le_refl _))) _)⟩
  | false =>
    have CE := wireEnd _ _ A cap l gg.r BR2.out.rdr hl
    have c1 := br2.c1
    rw [hbey] at c1
    have c1' := BR2.out.c1
    rw [hbey] at c1'
    have c0 := br2.c0
    have c0' := BR2.out.c0
    have hlp := br2.lt
    have HBEY := Lib.hid hbey
    have hsz2 : w.heap.size ≤ w2.heap.size := Nat.le_of_lt hz9
    cases hend : rsEnd l gg.r with
    | some p =>
      have HX : Hid (getF l = none) := Lib.hid (getF_end (p := p) (by rw [HB.out]; exact hend))
      rw [hend] at CE
      have CE := Lib.hid CE
      clear C2 B1 Z1 k2 br2 own2 B2 Z2 rd2 hbey hend
      go_wp2_with fail
      refine CE.out.mono ?_
      rintro e w3 ⟨Q, rfl, _, b3⟩
      have Z3 := ZZ2.out.below b3 (Nat.le_refl _)
      have B3 := Lib.hid (BB2.out.trans (b3.mono BB2.out.size))
      have d0 := Z3.c0
      have d1 := Z3.c1
      have d2 := Z3.c2
      have f0 := Z3.f 0
      have f1 := Z3.f 1
      have f2 := Z3.f 2
      clear Z3 b3 c0 c1 c0' c1' CE
      go_wp2_with fail
      refine bodyPost_ret (v := .tuple #[.agg #[.int .i64 0, .int .i64 0, .slice none 0 0], .iface 41 (.int .i64 2)]) (by simp [results, Tryz.results78, go_sem, d0, d1, d2]) rfl ?_
      rw [HX.out]
      exact ⟨rfl, below_of_grown (grown_set (grown_set (grown_set (grown_of B3.out) _ _ (Or.inr (Nat.le_refl _))) _ _ (Or.inr (Nat.le_refl _))) _ _ (Or.inr (Nat.le_refl _)))⟩
    | none =>
      rw [hend] at CE
      have CE := Lib.hid CE
      have HEND := Lib.hid hend
      clear C2 B1 Z1 k2 br2 own2 B2 Z2 rd2 hbey hend
      go_wp2_with fail
      refine CE.out.mono ?_
      rintro e w3 ⟨rfl, b3⟩
      have Z3 := ZZ2.out.below b3 (Nat.le_refl _)
      have T3 := TT2.out.below b3 (Nat.le_refl _)
      have HZ3 := Lib.hid Z3
      have HT3 := Lib.hid T3
      have R3 := HR2.out.below b3 (Nat.le_refl _)
      have HR3 := Lib.hid R3
      have HO3 := Lib.hid (HO2.out.below b3)
      have B3 := Lib.hid (BB2.out.trans (b3.mono BB2.out.size))
      have t0 := T3.c0
      have t1 := T3.c1
      have t2 := T3.c2
      have hszb : SizedR bt.rows := by have := SZ.out; rw [HB.out] at this; exact this
      have CM := batchMay bt B c w3 (HL.out.below B3.out) R3 hszb
      unfold btVal at CM
      clear Z3 T3 R3 b3 c0 c1 c0' c1' CE hszb
      cases hmay : mayOk bt with
      | false =>
        have HX : Hid (getF l = none) := Lib.hid (getF_may (by rw [HB.out]; exact hmay))
        rw [hmay] at CM
        have CM := Lib.hid CM
        clear hmay
        go_wp2_with fail
        refine CM.out.mono ?_
        rintro e w4 ⟨rfl, b4⟩
        have Z4 := HZ3.out.below b4 (Nat.le_refl _)
        have B4 := Lib.hid (B3.out.trans (b4.mono B3.out.size))
        have d0 := Z4.c0
        have d1 := Z4.c1
        have d2 := Z4.c2
        have f0 := Z4.f 0
        have f1 := Z4.f 1
        have f2 := Z4.f 2
        clear Z4 b4 t0 t1 t2 CM
        go_wp2_with fail
        refine bodyPost_ret (v := .tuple #[.agg #[.int .i64 0, .int .i64 0, .slice none 0 0], .iface 41 (.int .i64 2)]) (by simp [results, Tryz.results78, go_sem, d0, d1, d2]) rfl ?_
        rw [HX.out]
        exact ⟨rfl, below_of_grown (grown_set (grown_set (grown_set (grown_of B4.out) _ _ (Or.inr (Nat.le_refl _))) _ _ (Or.inr (Nat.le_refl _))) _ _ (Or.inr (Nat.le_refl _)))⟩
      | true =>
        have HX : Hid (getF l = some bt) := Lib.hid (by rw [getF_good (by rw [HB.out]; exact HBEY.out) (by rw [HB.out]; exact HEND.out) (by rw [HB.out]; exact hmay), HB.out])
        rw [hmay] at CM
        have CM := Lib.hid CM
        clear hmay
        go_wp2_with fail
        refine CM.out.mono ?_
        rintro e w4 ⟨rfl, b4⟩
        have Z4 := HZ3.out.below b4 (Nat.le_refl _)
        have T4 := HT3.out.below b4 (Nat.le_refl _)
        have O4 := Lib.hid (HO3.out.below b4)
        have B4 := Lib.hid (B3.out.trans (b4.mono B3.out.size))
        have d0 := Z4.c0
        have d1 := Z4.c1
        have d2 := Z4.c2
        have f0 := Z4.f 0
        have f1 := Z4.f 1
        have f2 := Z4.f 2
        have t0 := T4.c0
        have t1 := T4.c1
        have t2 := T4.c2
        clear Z4 T4 b4 CM
        go_wp2_with fail
        refine bodyPost_ret (v := .tuple #[.agg #[.int .i64 bt.seq, .int .i64 bt.start, .slice B bt.rows.length c], .nilIface]) (by simp [results, Tryz.results78, go_sem, d0, d1, d2]) rfl ?_
        rw [HX.out]
        exact ⟨B, c, rfl, (O4.out.kept (grown_set (grown_set (grown_set (grown_refl _ (some w.heap.size)) _ _ (Or.inl rfl)) _ _ (Or.inl rfl)) _ _ (Or.inl rfl)) (fun b e => by cases e; exact .inl HBASE.out)).rd, below_of_grown (grown_set (grown_set (grown_set (grown_of B4.out) _ _ (Or.inr (Nat.le_refl _))) _ _ (Or.inr (Nat.le_refl _))) _ _ (Or.inr (Nat.le_refl _)))⟩
end Go.Proofs.YtgeahpfdaehjaaaGreatDoor
namespace Go.Proofs.YtgeahpfdaehjaaaGreatDoor
open Go.ChangeShapes Go.WideShapes Go.ChangeAt Go.RowKit
set_option linter.unusedVariables false

theorem may_up7 : mayOk ⟨1, 2, []⟩ = true := by decide
theorem may_not7 : mayOk ⟨-1, 0, []⟩ = false := by decide
theorem put_up7 : putL ⟨1, 2, []⟩ = [1, 2, 0] := by
  unfold putL putHead rowsL
  simp only [List.flatMap_nil, List.append_nil, List.length_nil]
  rw [show (1 : Int).toNat = 1 from rfl, show (2 : Int).toNat = 2 from rfl, enc_small (by omega), enc_small (by omega), enc_small (by omega)]
  rfl
theorem get_nil7 : getF [] = none := getF_end (p := 0) (by decide +kernel)
theorem sized_nil : SizedR [] := ⟨by simp, fun r h => by simp at h⟩
end Go.Proofs.YtgeahpfdaehjaaaGreatDoor
