/-
  What is left alone: all blocks but those of a set (Keeps); what becomes of a thing with blocks of its own (Mv8).
-/
import Derived.Test.YtihloamiibelgaaLineMem
import Derived.Laws.OwnMore
namespace Go.Proofs.Ytihloamiibelgaa
open Go.ChangeShapes Go.WideShapes Go.ChangeAt Go.RowKit
set_option linter.unusedVariables false

/-- All blocks that were there stay, but those of F. -/
structure Keeps (F : Nat → Prop) (w w' : World) : Prop where
  os : w'.os = w.os
  tape : w'.tape = w.tape
  output : w'.output = w.output
  size : w.heap.size ≤ w'.heap.size
  block : ∀ k, k < w.heap.size → ¬ F k → w'.heap[k]? = w.heap[k]?
section
variable {F G : Nat → Prop} {w w1 w2 w' : World}
theorem Keeps.refl (F : Nat → Prop) (w : World) : Keeps F w w := ⟨rfl, rfl, rfl, Nat.le_refl _, fun _ _ _ => rfl⟩
theorem Keeps.trans (h : Keeps F w w1) (k : Keeps G w1 w2) (hG : ∀ g, G g → F g ∨ w.heap.size ≤ g) : Keeps F w w2 :=
  ⟨k.os.trans h.os, k.tape.trans h.tape, k.output.trans h.output, Nat.le_trans h.size k.size, fun i hi hF => by
    rw [k.block i (Nat.lt_of_lt_of_le hi h.size) (fun e => by rcases hG i e with e | e; exact hF e; omega), h.block i hi hF]⟩
theorem Keeps.of_below {B : Nat} (h : Below B w w') (hB : w.heap.size ≤ B) (F : Nat → Prop) : Keeps F w w' := ⟨h.os, h.tape, h.output, h.size, fun k hk _ => h.block k (by omega)⟩
theorem Keeps.of_grown {r : Option Nat} (h : w.grownBy w' r) (hr : ∀ g, r = some g → F g) : Keeps F w w' :=
  ⟨h.os, h.tape, h.output, h.size, fun k hk hF => h.block k hk (fun e => hF (hr k e.symm))⟩
theorem Keeps.wide (h : Keeps F w w') (hG : ∀ g, F g → g < w.heap.size → G g) : Keeps G w w' :=
  ⟨h.os, h.tape, h.output, h.size, fun k hk hF => h.block k hk (fun e => hF (hG k e hk))⟩
theorem Keeps.set (h : Keeps F w w1) (a : Addr) (v : Value) (ha : F a.block ∨ w.heap.size ≤ a.block) : Keeps F w (w1.setCell a v) :=
  ⟨h.os, h.tape, h.output, by rw [World.size_setCell]; exact h.size, fun k hk hF => by
    rw [heap_set_other (fun e => by subst e; rcases ha with e | e; exact hF e; omega)]; exact h.block k hk hF⟩
theorem Keeps.alloc (h : Keeps F w w1) (o : Obj) : Keeps F w (w1.alloc o) :=
  h.trans (Keeps.of_grown (World.grownBy_alloc w1 o none) (F := fun _ => False) (fun _ e => by cases e)) (fun _ e => e.elim)
theorem Keeps.drewN (h : Keeps F w w1) (n : Nat) : Keeps F w (w1.drewN n) := ⟨h.os, h.tape, h.output, h.size, h.block⟩
theorem Keeps.drew (h : Keeps F w w1) : Keeps F w w1.drew := ⟨h.os, h.tape, h.output, h.size, h.block⟩
theorem Keeps.below {B : Nat} (h : Keeps F w w') (hF : ∀ g, F g → B ≤ g) (hB : B ≤ w.heap.size) : Below B w w' :=
  ⟨h.os, h.tape, h.output, h.size, fun k hk => h.block k (by omega) (fun e => by have := hF k e; omega)⟩
theorem Keeps.cell (h : Keeps F w w') {p : Addr} {v : Value} (hc : w.cell? p = some v) (hp : ¬ F p.block) : w'.cell? p = some v := by
  rw [World.cell?_of_block (w := w) (h.block _ (World.block_lt_of_cell? w _ hc) hp)]; exact hc
theorem owns_keeps {base : Nat} {e : TypeId} {sz : Nat} {v : Value} {n : Nat} {l : List Value} (h : w.ownsRow base e sz v n l) (k : Keeps F w w') (hF : ∀ g, v.ownBlock = some g → ¬ F g) : w'.ownsRow base e sz v n l := by
  refine ⟨h.1, ?_⟩
  rcases h.2 with h | ⟨g, cap, cur, rfl, hb, hg, r⟩
  · exact .inl h
  · exact .inr ⟨g, cap, cur, rfl, hb, by rw [k.block g (lt_of_block hg) (hF g rfl)]; exact hg, r⟩
end
/-- What becomes of the world, and of a thing's own blocks. -/
structure Mv8 (w : World) (F : Nat → Prop) (w' : World) (F' : Nat → Prop) : Prop where
  keeps : Keeps F w w'
  own : ∀ g, F' g → F g ∨ w.heap.size ≤ g
theorem Mv8.trans {w w1 w2 : World} {F F1 F2 : Nat → Prop} (h : Mv8 w F w1 F1) (k : Mv8 w1 F1 w2 F2) : Mv8 w F w2 F2 :=
  ⟨h.keeps.trans k.keeps h.own, fun g hg => by
    rcases k.own g hg with e | e
    · exact h.own g e
    · have := h.keeps.size; exact .inr (by omega)⟩
theorem Mv8.still {w w1 : World} {F : Nat → Prop} (h : Below w.heap.size w w1) : Mv8 w F w1 F := ⟨Keeps.of_below h (Nat.le_refl _) F, fun _ h => .inl h⟩
theorem keeps_out {F : Nat → Prop} {w w' : World} (k : Keeps F w w') {g : Nat} {o : Obj} (h : w.heap[g]? = some o) (hF : ¬ F g) : w'.heap[g]? = some o := by rw [k.block g (lt_of_block h) hF]; exact h
theorem drew_drew (w : World) (q r : Nat) : (w.drewN q).drewN r = w.drewN (q + r) := by simp [World.drewN, Nat.add_assoc]
theorem below_drewN (w : World) (n : Nat) : Below w.heap.size w (w.drewN n) := ⟨rfl, rfl, rfl, Nat.le_refl _, fun _ _ => rfl⟩
theorem below_drew (w : World) : Below w.heap.size w w.drew := ⟨rfl, rfl, rfl, Nat.le_refl _, fun _ _ => rfl⟩
end Go.Proofs.Ytihloamiibelgaa
