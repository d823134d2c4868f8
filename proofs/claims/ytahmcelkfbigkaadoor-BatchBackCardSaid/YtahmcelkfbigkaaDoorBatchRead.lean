/-
  Layer 7 (batch): the reader of numbers that have limits, and its method upTo.
-/
import Derived.Test.YtahmcelkfbigkaaDoorBatchPut
import Derived.Test.YtahmcelkfbigkaaDoorWireText
import Derived.Test.YtahmcelkfbigkaaDoorWireEnd
namespace Go.Proofs.YtahmcelkfbigkaaDoor
open Go.ChangeShapes Go.WideShapes Go.ChangeAt Go.RowKit
set_option linter.unusedVariables false

/-- What a world keeps while the two blocks of a reader are written, and new ones laid. -/
structure Kp (w : World) (P N : Nat) (w' : World) : Prop where
  os : w'.os = w.os
  tape : w'.tape = w.tape
  output : w'.output = w.output
  size : w.heap.size ≤ w'.heap.size
  block : ∀ k, k < w.heap.size → k ≠ P → k ≠ N → w'.heap[k]? = w.heap[k]?
section
variable {w w1 w2 : World} {P N : Nat}
theorem Kp.refl (w : World) (P N : Nat) : Kp w P N w := ⟨rfl, rfl, rfl, Nat.le_refl _, fun _ _ _ _ => rfl⟩
theorem Kp.trans (h : Kp w P N w1) (g : Kp w1 P N w2) : Kp w P N w2 :=
  ⟨g.os.trans h.os, g.tape.trans h.tape, g.output.trans h.output, Nat.le_trans h.size g.size, fun k hk h1 h2 => (g.block k (Nat.lt_of_lt_of_le hk h.size) h1 h2).trans (h.block k hk h1 h2)⟩
theorem Kp.of_grown (g : w.grownBy w1 (some N)) : Kp w P N w1 := ⟨g.os, g.tape, g.output, g.size, fun k hk _ h2 => g.block k hk (fun e => h2 (Option.some.inj e))⟩
theorem Kp.grown (h : Kp w P N w1) {q : Option Nat} (g : w1.grownBy w2 q) (hq : ∀ b, q = some b → b = P ∨ b = N ∨ w.heap.size ≤ b) : Kp w P N w2 :=
  ⟨g.os.trans h.os, g.tape.trans h.tape, g.output.trans h.output, Nat.le_trans h.size g.size, fun k hk h1 h2 => (g.block k (Nat.lt_of_lt_of_le hk h.size) (fun e => by
    rcases hq k e.symm with h3 | h3 | h3
    · exact h1 h3
    · exact h2 h3
    · omega)).trans (h.block k hk h1 h2)⟩
theorem Kp.below (h : Kp w P N w1) (hb : Below w1.heap.size w1 w2) : Kp w P N w2 := h.grown (grown_of (r := none) hb) (fun _ e => by cases e)
theorem Kp.alloc (h : Kp w P N w1) (o : Obj) : Kp w P N (w1.alloc o) := h.below ((Below.refl _ _).alloc (Nat.le_refl _) _)
theorem Kp.set (h : Kp w P N w1) (a : Addr) (v : Value) (ha : a.block = P ∨ a.block = N ∨ w.heap.size ≤ a.block) : Kp w P N (w1.setCell a v) :=
  h.grown (q := some a.block) (grown_set (grown_refl _ _) _ _ (Or.inl rfl)) (fun b e => by cases e; exact ha)
theorem Kp.to (h : Kp w P N w1) {B : Nat} (hB : B ≤ w.heap.size) (hP : B ≤ P) (hN : B ≤ N) : Below B w w1 :=
  ⟨h.os, h.tape, h.output, h.size, fun k hk => h.block k (by omega) (by omega) (by omega)⟩
theorem Kp.own (h : Kp w P N w1) {base : Nat} {e : TypeId} {sz : Nat} {v : Value} {n : Nat} {l : List Value} (ho : w.ownsRow base e sz v n l) (hP : P < base) (hN : N < base) : w1.ownsRow base e sz v n l := by
  refine ⟨ho.1, ?_⟩
  rcases ho.2 with hn | ⟨g, cap, cur, rfl, hb, hgg, rest⟩
  · exact .inl hn
  · exact .inr ⟨g, cap, cur, rfl, hb, by rw [h.block g (lt_of_block hgg) (by omega) (by omega)]; exact hgg, rest⟩
end

/-- The batch's reader in block P, which reads through the reader in block N. -/
structure Brd (w : World) (P N : Nat) (A : Option Addr) (cap : Nat) (l : List UInt8) (g : Gs) : Prop where
  blk : w.heap[P]? = some (.cells #[.pointer (some ⟨N, 0, none⟩), .bool g.bey] 55 (0, 0))
  rdr : Rdr w N A cap l g.r
  ne : N ≠ P
  far : ∀ ad, A = some ad → l ≠ [] → ad.block ≠ P
section
variable {w w' : World} {P N : Nat} {A : Option Addr} {cap : Nat} {l : List UInt8} {g : Gs}
theorem Brd.c0 (h : Brd w P N A cap l g) : w.cell? ⟨P, 0, none⟩ = some (.pointer (some ⟨N, 0, none⟩)) := cell_of_block h.blk
theorem Brd.c1 (h : Brd w P N A cap l g) : w.cell? ⟨P, 1, none⟩ = some (.bool g.bey) := cell_of_block h.blk
theorem Brd.f1 (h : Brd w P N A cap l g) : w.frozen? ⟨P, 1, none⟩ = false := frozen_of_block h.blk
theorem Brd.lt (h : Brd w P N A cap l g) : P < w.heap.size := lt_of_block h.blk
theorem Brd.at (h : Brd w P N A cap l g) : g.r.at_ ≤ l.length := h.rdr.le
theorem Brd.of_mr (h : Brd w P N A cap l g) {r : Rs} (m : Mr w N A cap l r w') : Brd w' P N A cap l ⟨r, g.bey⟩ :=
  ⟨by rw [m.grown.block _ h.lt (fun e => h.ne (Option.some.inj e).symm)]; exact h.blk, m.rdr, h.ne, h.far⟩
theorem Brd.grown (h : Brd w P N A cap l g) {q : Option Nat} (hg : w.grownBy w' q) (hq : ∀ b, q = some b → b ≠ P ∧ b ≠ N ∧ ∀ ad, A = some ad → l ≠ [] → ad.block ≠ b) : Brd w' P N A cap l g := by
  refine ⟨?_, ⟨?_, ⟨h.rdr.rd.le, h.rdr.rd.nn, fun ad ha i c hc => ?_⟩, h.rdr.ne, h.rdr.le⟩, h.ne, h.far⟩
  · rw [hg.block _ h.lt (fun e => (hq _ e.symm).1 rfl)]; exact h.blk
  · rw [hg.block _ h.rdr.lt (fun e => (hq _ e.symm).2.1 rfl)]; exact h.rdr.blk
  · have h1 := h.rdr.rd.rd ad ha i c hc
    have h2 := World.block_lt_of_cell? w _ h1
    have h3 : (ad.add i).block = ad.block := by unfold Addr.add; split <;> rfl
    have hne : l ≠ [] := fun e => by rw [e] at hc; cases hc
    rw [World.cell?_of_block (hg.block _ h2 (fun e => (hq _ e.symm).2.2 ad ha hne h3.symm))]
    exact h1
theorem Brd.below (h : Brd w P N A cap l g) (hb : Below w.heap.size w w') : Brd w' P N A cap l g := h.grown (grown_of (r := none) hb) (fun _ e => by cases e)
theorem Brd.alloc (h : Brd w P N A cap l g) (o : Obj) : Brd (w.alloc o) P N A cap l g := h.below ((Below.refl _ _).alloc (Nat.le_refl _) _)
theorem Brd.beyond (h : Brd w P N A cap l g) : Brd (w.setCell ⟨P, 1, none⟩ (.bool true)) P N A cap l ⟨g.r, true⟩ := by
  refine ⟨heap_set_same h.blk, ⟨?_, ⟨h.rdr.rd.le, h.rdr.rd.nn, fun ad ha i c hc => ?_⟩, h.rdr.ne, h.rdr.le⟩, h.ne, h.far⟩
  · rw [heap_set_other (by exact h.ne)]; exact h.rdr.blk
  · have h1 := h.rdr.rd.rd ad ha i c hc
    have h3 : (ad.add i).block = ad.block := by unfold Addr.add; split <;> rfl
    have hne : l ≠ [] := fun e => by rw [e] at hc; cases hc
    rw [World.cell?_of_block (heap_set_other (by rw [h3]; exact h.far ad ha hne))]
    exact h1
/-- The bytes lie in a block that is there. -/
theorem Brd.old (h : Brd w P N A cap l g) : ∀ ad, A = some ad → l ≠ [] → ad.block < w.heap.size := fun ad ha hne => by
  cases l with
  | nil => exact absurd rfl hne
  | cons c l =>
    have h1 := World.block_lt_of_cell? w _ (h.rdr.rd.rd ad ha 0 c rfl)
    rwa [show (ad.add 0).block = ad.block by simp [Addr.add]] at h1
end

def NumB (w : World) (P N : Nat) (A : Option Addr) (cap : Nat) (l : List UInt8) (n : Nat) (g : Gs) (e : Ending) (w' : World) : Prop := e = .returned (.int .u64 (n : Nat)) ∧ Kp w P N w' ∧ Brd w' P N A cap l g
def WholeB (w : World) (P N : Nat) (A : Option Addr) (cap : Nat) (l : List UInt8) (n : Int) (g : Gs) (e : Ending) (w' : World) : Prop := e = .returned (.int .i64 n) ∧ Kp w P N w' ∧ Brd w' P N A cap l g
def TextB (w : World) (P N : Nat) (A : Option Addr) (cap : Nat) (l : List UInt8) (t : List UInt8) (g : Gs) (e : Ending) (w' : World) : Prop := e = .returned (.string ⟨t.toArray⟩) ∧ Kp w P N w' ∧ Brd w' P N A cap l g
theorem brNumber (w : World) (P N : Nat) (A : Option Addr) (cap : Nat) (l : List UInt8) (g : Gs) (h : Brd w P N A cap l g) (hl : l.length ≤ 1000000) :
    Calls Tryd.prog 46 #[.pointer (some ⟨N, 0, none⟩)] w (NumB w P N A cap l (gNum l g).1 (gNum l g).2) :=
  (wireReadNumber w N A cap l g.r h.rdr hl).mono fun e w' ⟨he, hm⟩ => ⟨he, Kp.of_grown hm.grown, h.of_mr hm⟩
theorem brWhole (w : World) (P N : Nat) (A : Option Addr) (cap : Nat) (l : List UInt8) (g : Gs) (h : Brd w P N A cap l g) (hl : l.length ≤ 1000000) :
    Calls Tryd.prog 48 #[.pointer (some ⟨N, 0, none⟩)] w (WholeB w P N A cap l (unfoldN (gNum l g).1) (gNum l g).2) :=
  (wireReadWhole w N A cap l g.r h.rdr hl).mono fun e w' ⟨he, hm⟩ => ⟨he, Kp.of_grown hm.grown, h.of_mr hm⟩
theorem brText (w : World) (P N : Nat) (A : Option Addr) (cap : Nat) (l : List UInt8) (g : Gs) (h : Brd w P N A cap l g) (hl : l.length ≤ 1000000) :
    Calls Tryd.prog 47 #[.pointer (some ⟨N, 0, none⟩), .int .i64 300] w (TextB w P N A cap l (gText l g).1 (gText l g).2) :=
  (wireReadText w N A cap l g.r 300 h.rdr hl (by omega) (by omega)).mono fun e w' ⟨he, hm⟩ => ⟨he, Kp.of_grown hm.grown, h.of_mr hm⟩
set_option maxRecDepth 100000 in
theorem brUpTo (w : World) (P N : Nat) (A : Option Addr) (cap : Nat) (l : List UInt8) (g : Gs) (m : Nat) (h : Brd w P N A cap l g) (hl : l.length ≤ 1000000) (hm : m < 18446744073709551616) :
    Calls Tryd.prog 37 #[.pointer (some ⟨P, 0, none⟩), .int .u64 (m : Nat)] w (NumB w P N A cap l (gUp l m g).1 (gUp l m g).2) := by
  have c0 := h.c0
  have C := brNumber w P N A cap l g h hl
  have hg : gUp l m g = if m < (gNum l g).1 then (0, ⟨(gNum l g).2.r, true⟩) else gNum l g := rfl
  rw [hg]
  generalize gNum l g = x at C
  obtain ⟨n, g1⟩ := x
  have C := Lib.hid C
  clear h hg
  by_cases hmn : m < n
  · have e1 : decide ((m : Int) < (n : Int)) = true := decide_eq_true (by omega)
    simp only
    rw [if_pos hmn]
    have e2 : decide (m < n) = true := decide_eq_true hmn
    go_enter Tryd.func37, Tryd.ntmps37
    go_wp2_with fail
    refine C.out.mono ?_
    rintro e w1 ⟨rfl, k1, b1⟩
    have f1 := b1.f1
    have c1 := b1.c1
    have K1 := Lib.hid k1
    have B1 := Lib.hid b1
    clear k1 b1 C c0
    go_wp2_with fail
    go_ret
    exact ⟨rfl, K1.out.set _ _ (Or.inl rfl), B1.out.beyond⟩
  · have e1 : decide ((m : Int) < (n : Int)) = false := decide_eq_false (by omega)
    simp only
    rw [if_neg hmn]
    have e2 : decide (m < n) = false := decide_eq_false hmn
    go_enter Tryd.func37, Tryd.ntmps37
    go_wp2_with fail
    refine C.out.mono ?_
    rintro e w1 ⟨rfl, k1, b1⟩
    have K1 := Lib.hid k1
    have B1 := Lib.hid b1
    clear k1 b1 C c0
    go_wp2_with fail
    go_ret
    exact ⟨rfl, K1.out, B1.out⟩
end Go.Proofs.YtahmcelkfbigkaaDoor
