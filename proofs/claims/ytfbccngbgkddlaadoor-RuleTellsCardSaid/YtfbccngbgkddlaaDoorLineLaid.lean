/-
  What the package-level variables of the library hold, as this seat's walks use it, and that it stays.
-/
import Derived.Test.YtfbccngbgkddlaaDoorLineMem
import Derived.Test.YtfbccngbgkddlaaDoorShelf
namespace Go.Proofs.YtfbccngbgkddlaaDoor
open Go.RowKit
set_option linter.unusedVariables false

structure Laid (w : World) : Prop where
  tab : Lib.TabIs Tryd.prog w "internal/strconv.uint64pow10" .u64 Lib.pow10Tab
  n : 4 ≤ w.heap.size

theorem gTab : Tryd.prog.globalNamed "internal/strconv.uint64pow10" = some 1 := by kernel_rfl
theorem var_block {w w' : World} {nm : String} {g : Nat} (hg : Tryd.prog.globalNamed nm = some g) (h : w'.heap[g]? = w.heap[g]?) : w'.var? Tryd.prog nm = w.var? Tryd.prog nm := by
  unfold World.var?
  rw [hg]
  simp only [Option.bind_some]
  rw [h]
theorem Laid.keep {w w' : World} (h : Laid w) (hk : ∀ k, k < 4 → w'.heap[k]? = w.heap[k]?) (hn : w.heap.size ≤ w'.heap.size) : Laid w' where
  tab := by unfold Lib.TabIs; rw [var_block gTab (hk _ (by decide))]; exact h.tab
  n := Nat.le_trans h.n hn
theorem Laid.grown {w w' : World} {r : Option Nat} (h : Laid w) (g : w.grownBy w' r) (hr : ∀ b, r = some b → 4 ≤ b) : Laid w' :=
  h.keep (fun k hk => g.block k (by have := h.n; omega) (fun e => by have := hr k e.symm; omega)) g.size
theorem Laid.below {w w' : World} (h : Laid w) (g : Below w.heap.size w w') : Laid w' :=
  h.keep (fun k hk => g.block k (by have := h.n; omega)) g.size
theorem Laid.alloc {w : World} (h : Laid w) (o : Obj) : Laid (w.alloc o) := h.grown (World.grownBy_alloc _ _ none) (by simp)
theorem Laid.drew {w : World} (h : Laid w) (n : Nat) : Laid (w.drewN n) := h.keep (fun _ _ => rfl) (Nat.le_refl _)
theorem Laid.set {w : World} (h : Laid w) (a : Addr) (v : Value) (ha : 4 ≤ a.block) : Laid (w.setCell a v) :=
  h.keep (fun k hk => heap_set_other (by omega)) (by rw [World.size_setCell]; exact Nat.le_refl _)
end Go.Proofs.YtfbccngbgkddlaaDoor
