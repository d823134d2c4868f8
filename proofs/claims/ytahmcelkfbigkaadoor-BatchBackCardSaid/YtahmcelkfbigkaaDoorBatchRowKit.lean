/-
  Layer 7 (batch): the reader's method row.
-/
import Derived.Test.YtahmcelkfbigkaaDoorBatchRead
import Derived.Deep.CutRange
import Derived.Deep.RegionLaw
namespace Go.Proofs.YtahmcelkfbigkaaDoor
open Go.ChangeShapes Go.WideShapes Go.ChangeAt Go.RowKit
set_option linter.unusedVariables false

theorem step_append_at {P : Program} {ops : Array Oper} {o : Oper} {a : Act} {w w' : World} {K : Act → World → Prop} {Q : Exit → Act → World → Prop} {E : Prop}
    (hg : o.guard = none) (s x : Operand) (t : TypeId) (hop : o.op = Op.call { callee := Callee.builtin Builtin.append, args := #[s, x], argTypes := #[t, t] })
    (vs vx v' : Value) (hs : a.eval s = vs) (hx : a.eval x = vx) (hrun : (Builtin.append_ #[t, t] o.type #[vs, vx]).run P w = .ok v' w') (hK : K (a.put o.dst v') w') :
    if Region.wanted o (yielded ops a.tmps) = true then Oper.wp P o a w K Q else E := by
  have hw : Region.wanted o (yielded ops a.tmps) = true := by simp [Region.wanted, hg]
  rw [if_pos hw]
  unfold Oper.wp
  simp [execOp, hop, resolve, invoke, builtin, hs, hx, hrun, Result.andThen]
  exact hK

theorem head_parts (l : List UInt8) (g : Gs) : ∃ (va : List UInt8) (ga : Gs) (vb : Nat) (gb : Gs) (vc : Nat) (gc : Gs) (nd : Nat) (gd : Gs) (ne : Nat) (ge : Gs) (nf : Nat) (gf : Gs) (vo : Nat) (go : Gs),
    gText l g = (va, ga) ∧ gUp l 3 ga = (vb, gb) ∧ gNum l gb = (vc, gc) ∧ gNum l gc = (nd, gd) ∧ gNum l gd = (ne, ge) ∧ gNum l ge = (nf, gf) ∧ gUp l 1 gf = (vo, go) ∧
    gHead l g = (⟨⟨va.toArray⟩, (vb : Nat), vc, unfoldN nd, unfoldN ne, unfoldN nf, vo == 1, []⟩, go) ∧ vb ≤ 3 :=
  ⟨_, _, _, _, _, _, _, _, _, _, _, _, _, _, rfl, rfl, rfl, rfl, rfl, rfl, rfl, rfl, gUp_le _ _ _⟩

/-- A block that holds the row of nothing. -/
structure ZB (w : World) (g : Nat) : Prop where
  blk : w.heap[g]? = some (.cells #[.string ⟨#[]⟩, .int .i64 0, .int .u64 0, .int .i64 0, .int .i64 0, .int .i64 0, .bool false, .slice none 0 0] 44 (0, 0))
theorem ZB.lt {w : World} {g : Nat} (h : ZB w g) : g < w.heap.size := lt_of_block h.blk
theorem ZB.c0 {w : World} {g : Nat} (h : ZB w g) : w.cell? ⟨g, 0, none⟩ = some (.string ⟨#[]⟩) := cell_of_block h.blk
theorem ZB.c1 {w : World} {g : Nat} (h : ZB w g) : w.cell? ⟨g, 1, none⟩ = some (.int .i64 0) := cell_of_block h.blk
theorem ZB.c2 {w : World} {g : Nat} (h : ZB w g) : w.cell? ⟨g, 2, none⟩ = some (.int .u64 0) := cell_of_block h.blk
theorem ZB.c3 {w : World} {g : Nat} (h : ZB w g) : w.cell? ⟨g, 3, none⟩ = some (.int .i64 0) := cell_of_block h.blk
theorem ZB.c4 {w : World} {g : Nat} (h : ZB w g) : w.cell? ⟨g, 4, none⟩ = some (.int .i64 0) := cell_of_block h.blk
theorem ZB.c5 {w : World} {g : Nat} (h : ZB w g) : w.cell? ⟨g, 5, none⟩ = some (.int .i64 0) := cell_of_block h.blk
theorem ZB.c6 {w : World} {g : Nat} (h : ZB w g) : w.cell? ⟨g, 6, none⟩ = some (.bool false) := cell_of_block h.blk
theorem ZB.c7 {w : World} {g : Nat} (h : ZB w g) : w.cell? ⟨g, 7, none⟩ = some (.slice none 0 0) := cell_of_block h.blk
theorem ZB.f {w : World} {g : Nat} (h : ZB w g) (o : Nat) : w.frozen? ⟨g, o, none⟩ = false := frozen_of_block h.blk
theorem ZB.kp {w w' : World} {P N g : Nat} (h : ZB w g) (k : Kp w P N w') (h1 : g ≠ P) (h2 : g ≠ N) : ZB w' g := ⟨by rw [k.block g h.lt h1 h2]; exact h.blk⟩
theorem RowB.kp {w w' : World} {P N g : Nat} {r : Rw} {B : Option Addr} {c : Nat} (h : RowB w g r B c) (k : Kp w P N w') (h1 : g ≠ P) (h2 : g ≠ N) : RowB w' g r B c := ⟨by rw [k.block g h.lt h1 h2]; exact h.blk⟩

theorem set8_block {w : World} {g : Nat} {a0 a1 a2 a3 a4 a5 a6 a7 : Value} {t : TypeId} (v0 v1 v2 v3 v4 v5 v6 v7 : Value) (h : w.heap[g]? = some (.cells #[a0, a1, a2, a3, a4, a5, a6, a7] t (0, 0))) :
    ((((((((w.setCell ⟨g, 0, none⟩ v0).setCell ⟨g, 1, none⟩ v1).setCell ⟨g, 2, none⟩ v2).setCell ⟨g, 3, none⟩ v3).setCell ⟨g, 4, none⟩ v4).setCell ⟨g, 5, none⟩ v5).setCell ⟨g, 6, none⟩ v6).setCell ⟨g, 7, none⟩ v7).heap[g]? = some (.cells #[v0, v1, v2, v3, v4, v5, v6, v7] t (0, 0)) := by
  have h0 : (w.setCell ⟨g, 0, none⟩ v0).heap[g]? = some (.cells #[v0, a1, a2, a3, a4, a5, a6, a7] t (0, 0)) := heap_set_same h
  have h1 : ((w.setCell ⟨g, 0, none⟩ v0).setCell ⟨g, 1, none⟩ v1).heap[g]? = some (.cells #[v0, v1, a2, a3, a4, a5, a6, a7] t (0, 0)) := heap_set_same h0
  have h2 : (((w.setCell ⟨g, 0, none⟩ v0).setCell ⟨g, 1, none⟩ v1).setCell ⟨g, 2, none⟩ v2).heap[g]? = some (.cells #[v0, v1, v2, a3, a4, a5, a6, a7] t (0, 0)) := heap_set_same h1
  have h3 : ((((w.setCell ⟨g, 0, none⟩ v0).setCell ⟨g, 1, none⟩ v1).setCell ⟨g, 2, none⟩ v2).setCell ⟨g, 3, none⟩ v3).heap[g]? = some (.cells #[v0, v1, v2, v3, a4, a5, a6, a7] t (0, 0)) := heap_set_same h2
  have h4 : (((((w.setCell ⟨g, 0, none⟩ v0).setCell ⟨g, 1, none⟩ v1).setCell ⟨g, 2, none⟩ v2).setCell ⟨g, 3, none⟩ v3).setCell ⟨g, 4, none⟩ v4).heap[g]? = some (.cells #[v0, v1, v2, v3, v4, a5, a6, a7] t (0, 0)) := heap_set_same h3
  have h5 : ((((((w.setCell ⟨g, 0, none⟩ v0).setCell ⟨g, 1, none⟩ v1).setCell ⟨g, 2, none⟩ v2).setCell ⟨g, 3, none⟩ v3).setCell ⟨g, 4, none⟩ v4).setCell ⟨g, 5, none⟩ v5).heap[g]? = some (.cells #[v0, v1, v2, v3, v4, v5, a6, a7] t (0, 0)) := heap_set_same h4
  have h6 : (((((((w.setCell ⟨g, 0, none⟩ v0).setCell ⟨g, 1, none⟩ v1).setCell ⟨g, 2, none⟩ v2).setCell ⟨g, 3, none⟩ v3).setCell ⟨g, 4, none⟩ v4).setCell ⟨g, 5, none⟩ v5).setCell ⟨g, 6, none⟩ v6).heap[g]? = some (.cells #[v0, v1, v2, v3, v4, v5, v6, a7] t (0, 0)) := heap_set_same h5
  have h7 : ((((((((w.setCell ⟨g, 0, none⟩ v0).setCell ⟨g, 1, none⟩ v1).setCell ⟨g, 2, none⟩ v2).setCell ⟨g, 3, none⟩ v3).setCell ⟨g, 4, none⟩ v4).setCell ⟨g, 5, none⟩ v5).setCell ⟨g, 6, none⟩ v6).setCell ⟨g, 7, none⟩ v7).heap[g]? = some (.cells #[v0, v1, v2, v3, v4, v5, v6, v7] t (0, 0)) := heap_set_same h6
  exact h7
section
variable (w : World) (P N : Nat) (A : Option Addr) (cap : Nat) (l : List UInt8)
/-- Where the reading of a row stands: its block isn't laid yet; it is; its head lies in it; its buckets come. -/
structure Ja (g : Gs) (wr : World) : Prop where
  kp : Kp w P N wr
  brd : Brd wr P N A cap l g
  res : ZB wr w.heap.size
  hP : P < w.heap.size
  hN : N < w.heap.size
structure Jb (g : Gs) (wr : World) (G : Nat) : Prop where
  on : Ja w P N A cap l g wr
  row : ZB wr G
  far : w.heap.size + 1 ≤ G
structure Jl (g : Gs) (wr : World) (G : Nat) (r : Rw) (B : Option Addr) (c : Nat) : Prop where
  on : Ja w P N A cap l g wr
  row : RowB wr G r B c
  far : w.heap.size + 1 ≤ G
  own : OwnN wr (w.heap.size + 1) B c r.bks
end
section
variable {w : World} {P N : Nat} {A : Option Addr} {cap : Nat} {l : List UInt8} {g g' : Gs} {wr w' : World} {G : Nat} {r : Rw} {B : Option Addr} {c : Nat}
theorem Ja.size (h : Ja w P N A cap l g wr) : w.heap.size + 1 ≤ wr.heap.size := h.res.lt
theorem Ja.next (h : Ja w P N A cap l g wr) (k : Kp wr P N w') (b : Brd w' P N A cap l g') : Ja w P N A cap l g' w' :=
  ⟨h.kp.trans k, b, h.res.kp k (by have := h.hP; omega) (by have := h.hN; omega), h.hP, h.hN⟩
theorem Ja.c0 (h : Ja w P N A cap l g wr) : wr.cell? ⟨P, 0, none⟩ = some (.pointer (some ⟨N, 0, none⟩)) := h.brd.c0
theorem Ja.grown (h : Ja w P N A cap l g wr) {q : Option Nat} (hg : wr.grownBy w' q) (hq : ∀ b, q = some b → w.heap.size + 1 ≤ b) (hold : ∀ ad, A = some ad → l ≠ [] → ad.block < w.heap.size) : Ja w P N A cap l g w' :=
  ⟨h.kp.grown hg (fun b e => .inr (.inr (by have := hq b e; omega))), h.brd.grown hg (fun b e => by have := hq b e; have := h.hP; have := h.hN; exact ⟨by omega, by omega, fun ad ha hne => by have := hold ad ha hne; omega⟩),
   ⟨by rw [hg.block _ h.res.lt (fun e => by have := hq _ e.symm; omega)]; exact h.res.blk⟩, h.hP, h.hN⟩
theorem Ja.alloc0 (h : Ja w P N A cap l g wr) (o : Obj) : Ja w P N A cap l g (wr.alloc o) :=
  h.next (Kp.refl _ _ _ |>.alloc o) (h.brd.alloc o)
theorem Ja.alloc (h : Ja w P N A cap l g wr) : Jb w P N A cap l g (wr.alloc (.cells #[.string ⟨#[]⟩, .int .i64 0, .int .u64 0, .int .i64 0, .int .i64 0, .int .i64 0, .bool false, .slice none 0 0] 44)) wr.heap.size :=
  ⟨h.alloc0 _, ⟨heap_alloc_new wr _⟩, h.size⟩
theorem Jb.next (h : Jb w P N A cap l g wr G) (k : Kp wr P N w') (b : Brd w' P N A cap l g') : Jb w P N A cap l g' w' G :=
  ⟨h.on.next k b, h.row.kp k (by have := h.on.hP; have := h.far; omega) (by have := h.on.hN; have := h.far; omega), h.far⟩
theorem Jb.c0 (h : Jb w P N A cap l g wr G) : wr.cell? ⟨P, 0, none⟩ = some (.pointer (some ⟨N, 0, none⟩)) := h.on.brd.c0
theorem Jb.far8 (h : Jb w P N A cap l g wr G) (v0 v1 v2 v3 v4 v5 v6 v7 : Value) :
    ((((((((wr.setCell ⟨G, 0, none⟩ v0).setCell ⟨G, 1, none⟩ v1).setCell ⟨G, 2, none⟩ v2).setCell ⟨G, 3, none⟩ v3).setCell ⟨G, 4, none⟩ v4).setCell ⟨G, 5, none⟩ v5).setCell ⟨G, 6, none⟩ v6).setCell ⟨G, 7, none⟩ v7).cell? ⟨P, 0, none⟩ = some (.pointer (some ⟨N, 0, none⟩)) := by
  have hne : G ≠ P := by have := h.on.hP; have := h.far; omega
  rw [World.cell?_setCell_far _ _ _ _ (by exact hne), World.cell?_setCell_far _ _ _ _ (by exact hne), World.cell?_setCell_far _ _ _ _ (by exact hne), World.cell?_setCell_far _ _ _ _ (by exact hne), World.cell?_setCell_far _ _ _ _ (by exact hne), World.cell?_setCell_far _ _ _ _ (by exact hne), World.cell?_setCell_far _ _ _ _ (by exact hne), World.cell?_setCell_far _ _ _ _ (by exact hne)]
  exact h.c0
theorem liftA {f : Nat} {as_ : Array Value} {V : Value} (H : ∀ w', Brd w' P N A cap l g → Calls Tryd.prog f as_ w' (fun e w'' => e = .returned V ∧ Kp w' P N w'' ∧ Brd w'' P N A cap l g')) :
    ∀ w', Ja w P N A cap l g w' → Calls Tryd.prog f as_ w' (fun e w'' => e = .returned V ∧ Ja w P N A cap l g' w'') :=
  fun w' h => (H w' h.brd).mono fun e w'' ⟨he, hk, hb⟩ => ⟨he, h.next hk hb⟩
theorem liftB {f : Nat} {as_ : Array Value} {V : Value} (H : ∀ w', Brd w' P N A cap l g → Calls Tryd.prog f as_ w' (fun e w'' => e = .returned V ∧ Kp w' P N w'' ∧ Brd w'' P N A cap l g')) :
    ∀ w' G, Jb w P N A cap l g w' G → Calls Tryd.prog f as_ w' (fun e w'' => e = .returned V ∧ Jb w P N A cap l g' w'' G) :=
  fun w' G h => (H w' h.on.brd).mono fun e w'' ⟨he, hk, hb⟩ => ⟨he, h.next hk hb⟩
theorem Jl.next (h : Jl w P N A cap l g wr G r B c) (k : Kp wr P N w') (b : Brd w' P N A cap l g') : Jl w P N A cap l g' w' G r B c :=
  ⟨h.on.next k b, h.row.kp k (by have := h.on.hP; have := h.far; omega) (by have := h.on.hN; have := h.far; omega), h.far, k.own h.own (by have := h.on.hP; omega) (by have := h.on.hN; omega)⟩
theorem liftL {f : Nat} {as_ : Array Value} {V : Value} (H : ∀ w', Brd w' P N A cap l g → Calls Tryd.prog f as_ w' (fun e w'' => e = .returned V ∧ Kp w' P N w'' ∧ Brd w'' P N A cap l g')) :
    ∀ w', Jl w P N A cap l g w' G r B c → Calls Tryd.prog f as_ w' (fun e w'' => e = .returned V ∧ Jl w P N A cap l g' w'' G r B c) :=
  fun w' h => (H w' h.on.brd).mono fun e w'' ⟨he, hk, hb⟩ => ⟨he, h.next hk hb⟩
theorem Ja.fin (h : Ja w P N A cap l g wr) (r : Rw) (hr : r.bks = []) : Jl w P N A cap l g (wr.alloc (.cells #[.string r.key, .int .i64 r.kind, .int .u64 (r.many : Nat), .int .i64 r.sum, .int .i64 r.least, .int .i64 r.most, .bool r.over, .slice none 0 0] 44)) wr.heap.size r none 0 :=
  ⟨h.alloc0 _, ⟨by rw [hr]; exact heap_alloc_new wr _⟩, h.size, by rw [hr]; exact OwnN.nil _ _⟩
theorem Jb.fin (h : Jb w P N A cap l g wr G) (r : Rw) (hr : r.bks = []) (hold : ∀ ad, A = some ad → l ≠ [] → ad.block < w.heap.size) :
    Jl w P N A cap l g ((((((((wr.setCell ⟨G, 0, none⟩ (.string r.key)).setCell ⟨G, 1, none⟩ (.int .i64 r.kind)).setCell ⟨G, 2, none⟩ (.int .u64 (r.many : Nat))).setCell ⟨G, 3, none⟩ (.int .i64 r.sum)).setCell ⟨G, 4, none⟩ (.int .i64 r.least)).setCell ⟨G, 5, none⟩ (.int .i64 r.most)).setCell ⟨G, 6, none⟩ (.bool r.over)).setCell ⟨G, 7, none⟩ (.slice none 0 0)) G r none 0 := by
  have gr : wr.grownBy ((((((((wr.setCell ⟨G, 0, none⟩ (.string r.key)).setCell ⟨G, 1, none⟩ (.int .i64 r.kind)).setCell ⟨G, 2, none⟩ (.int .u64 (r.many : Nat))).setCell ⟨G, 3, none⟩ (.int .i64 r.sum)).setCell ⟨G, 4, none⟩ (.int .i64 r.least)).setCell ⟨G, 5, none⟩ (.int .i64 r.most)).setCell ⟨G, 6, none⟩ (.bool r.over)).setCell ⟨G, 7, none⟩ (.slice none 0 0)) (some G) := by
    refine grown_set (grown_set (grown_set (grown_set (grown_set (grown_set (grown_set (grown_set (grown_refl _ _) _ _ ?_) _ _ ?_) _ _ ?_) _ _ ?_) _ _ ?_) _ _ ?_) _ _ ?_) _ _ ?_ <;> exact Or.inl rfl
  refine ⟨h.on.grown gr (fun b e => by cases e; exact h.far) hold, ⟨?_⟩, h.far, by rw [hr]; exact OwnN.nil _ _⟩
  rw [hr]
  exact set8_block _ _ _ _ _ _ _ _ h.row.blk
end
def RowPost (w : World) (P N : Nat) (A : Option Addr) (cap : Nat) (l : List UInt8) (r : Rw) (g : Gs) (e : Ending) (w' : World) : Prop :=
  ∃ B c, e = .returned (rowVal r B c) ∧ Kp w P N w' ∧ Brd w' P N A cap l g ∧ OwnN w' w.heap.size B c r.bks
end Go.Proofs.YtahmcelkfbigkaaDoor
