/-
  Memory: what a world keeps while one block of it (a reader's) is written and new blocks are laid.
-/
import Derived.Test.YtihloamiibelgaaKit
import Derived.Laws.AppendOwn
import Derived.Deep.QuietTactic
namespace Go.Proofs.Ytihloamiibelgaa
open Go.RowKit
set_option linter.unusedVariables false

theorem heap_set_other {w : World} {a : Addr} {v : Value} {k : Nat} (h : k ≠ a.block) : (w.setCell a v).heap[k]? = w.heap[k]? := by
  simp only [World.setCell]
  rw [Array.getElem?_modify, if_neg (fun e => h e.symm)]
theorem heap_set_same {w : World} {b o : Nat} {v : Value} {c : Array Value} {t : TypeId} {f : Nat × Nat} (h : w.heap[b]? = some (.cells c t f)) :
    (w.setCell ⟨b, o, none⟩ v).heap[b]? = some (.cells (c.setIfInBounds o v) t f) := by
  simp only [World.setCell]
  rw [Array.getElem?_modify, if_pos rfl, h]
  rfl
theorem cell_of_block {w : World} {b o : Nat} {c : Array Value} {t : TypeId} {f : Nat × Nat} (h : w.heap[b]? = some (.cells c t f)) : w.cell? ⟨b, o, none⟩ = c[o]? := by
  simp [World.cell?, h]
theorem frozen_of_block {w : World} {b o : Nat} {c : Array Value} {t : TypeId} (h : w.heap[b]? = some (.cells c t (0, 0))) : w.frozen? ⟨b, o, none⟩ = false := by
  simp [World.frozen?, h]
theorem lt_of_block {w : World} {b : Nat} {o : Obj} (h : w.heap[b]? = some o) : b < w.heap.size := (Array.getElem?_eq_some_iff.1 h).1

theorem grown_refl (w : World) (r : Option Nat) : w.grownBy w r := ⟨rfl, rfl, rfl, Nat.le_refl _, fun _ _ _ => rfl⟩
theorem grown_trans {w w1 w2 : World} {r : Option Nat} (g : w.grownBy w1 r) (h : w1.grownBy w2 r) : w.grownBy w2 r :=
  ⟨h.os.trans g.os, h.tape.trans g.tape, h.output.trans g.output, Nat.le_trans g.size h.size, fun k hk hr => (h.block k (Nat.lt_of_lt_of_le hk g.size) hr).trans (g.block k hk hr)⟩
theorem grown_of_below {w w1 w2 : World} {r : Option Nat} {B : Nat} (g : w.grownBy w1 r) (h : Below B w1 w2) (hB : w.heap.size ≤ B) : w.grownBy w2 r :=
  ⟨h.os.trans g.os, h.tape.trans g.tape, h.output.trans g.output, Nat.le_trans g.size h.size, fun k hk hr => (h.block k (Nat.lt_of_lt_of_le hk hB)).trans (g.block k hk hr)⟩
theorem grown_set {w w1 : World} {r : Option Nat} (g : w.grownBy w1 r) (a : Addr) (v : Value) (h : some a.block = r ∨ w.heap.size ≤ a.block) : w.grownBy (w1.setCell a v) r :=
  ⟨g.os, g.tape, g.output, by rw [World.size_setCell]; exact g.size, fun k hk hr => by
    rw [heap_set_other]
    · exact g.block k hk hr
    · intro e
      subst e
      rcases h with h | h
      · exact hr h
      · omega⟩
theorem grown_drew {w w1 : World} {r : Option Nat} (g : w.grownBy w1 r) (n : Nat) : w.grownBy (w1.drewN n) r :=
  ⟨g.os, g.tape, g.output, g.size, fun k hk hr => g.block k hk hr⟩
theorem grown_alloc {w w1 : World} {r : Option Nat} (g : w.grownBy w1 r) (o : Obj) : w.grownBy (w1.alloc o) r :=
  grown_trans g (World.grownBy_alloc _ _ _)
theorem grown_less {w w0 w1 : World} {r : Option Nat} (h0 : w0.grownBy w none) (g : w.grownBy w1 r) (h : ∀ k, r = some k → w0.heap.size ≤ k) : w0.grownBy w1 none :=
  ⟨g.os.trans h0.os, g.tape.trans h0.tape, g.output.trans h0.output, Nat.le_trans h0.size g.size, fun k hk _ => (g.block k (Nat.lt_of_lt_of_le hk h0.size) (fun e => by have := h k e.symm; omega)).trans (h0.block k hk (by simp))⟩
theorem below_of_grown {w w1 : World} (g : w.grownBy w1 none) : Below w.heap.size w w1 := ⟨g.os, g.tape, g.output, g.size, fun k hk => g.block k hk (by simp)⟩
theorem grown_of {w w1 : World} {r : Option Nat} (h : Below w.heap.size w w1) : w.grownBy w1 r := grown_of_below (grown_refl _ _) h (Nat.le_refl _)

section
variable {w w' : World} {b : Nat} {s : ByteArray} {k : Nat}
end

section
variable {w w1 w2 : World} {b : Nat} {s : ByteArray} {k j : Nat}
end
end Go.Proofs.Ytihloamiibelgaa
