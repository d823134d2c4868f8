/-
  Layer 4 (line): the reader's method event: all of a line.
-/
import Derived.Test.YtfbccngbgkddlaaDoorLineTags
import Derived.Test.YtfbccngbgkddlaaDoorLineNum
import Derived.Deep.RegionWith
namespace Go.Proofs.YtfbccngbgkddlaaDoor
open Go.ChangeShapes Go.WideShapes Go.ChangeAt Go.RowKit
set_option linter.unusedVariables false

/-- An event in a block of its own. -/
def EvB (w : World) (g : Nat) (n : ByteArray) (A : Option Addr) (l c : Nat) (k v t : Int) : Prop :=
  w.heap[g]? = some (.cells #[.string n, .slice A l c, .int .i64 k, .int .i64 v, .int .i64 t] 25 (0, 0))
section
variable {w w' : World} {g b : Nat} {n : ByteArray} {A : Option Addr} {l c : Nat} {k v t : Int}
theorem EvB.c0 (h : EvB w g n A l c k v t) : w.cell? ⟨g, 0, none⟩ = some (.string n) := cell_of_block h
theorem EvB.c1 (h : EvB w g n A l c k v t) : w.cell? ⟨g, 1, none⟩ = some (.slice A l c) := cell_of_block h
theorem EvB.c2 (h : EvB w g n A l c k v t) : w.cell? ⟨g, 2, none⟩ = some (.int .i64 k) := cell_of_block h
theorem EvB.c3 (h : EvB w g n A l c k v t) : w.cell? ⟨g, 3, none⟩ = some (.int .i64 v) := cell_of_block h
theorem EvB.c4 (h : EvB w g n A l c k v t) : w.cell? ⟨g, 4, none⟩ = some (.int .i64 t) := cell_of_block h
theorem EvB.f (h : EvB w g n A l c k v t) (o : Nat) : w.frozen? ⟨g, o, none⟩ = false := frozen_of_block h
theorem EvB.grown (h : EvB w g n A l c k v t) (hg : w.grownBy w' (some b)) (hb : b ≠ g) : EvB w' g n A l c k v t := by
  unfold EvB; rw [hg.block g (lt_of_block h) (fun e => hb (Option.some.inj e).symm)]; exact h
theorem EvB.set0 (h : EvB w g n A l c k v t) (x : ByteArray) : EvB (w.setCell ⟨g, 0, none⟩ (.string x)) g x A l c k v t := heap_set_same h
theorem EvB.set1 (h : EvB w g n A l c k v t) (A' : Option Addr) (l' c' : Nat) : EvB (w.setCell ⟨g, 1, none⟩ (.slice A' l' c')) g n A' l' c' k v t := heap_set_same h
theorem EvB.set2 (h : EvB w g n A l c k v t) (x : Int) : EvB (w.setCell ⟨g, 2, none⟩ (.int .i64 x)) g n A l c x v t := heap_set_same h
theorem EvB.set3 (h : EvB w g n A l c k v t) (x : Int) : EvB (w.setCell ⟨g, 3, none⟩ (.int .i64 x)) g n A l c k x t := heap_set_same h
theorem EvB.set4 (h : EvB w g n A l c k v t) (x : Int) : EvB (w.setCell ⟨g, 4, none⟩ (.int .i64 x)) g n A l c k v x := heap_set_same h
end

def evVal (n : ByteArray) (A : Option Addr) (l c : Nat) (k v t : Int) : Value := .agg #[.string n, .slice A l c, .int .i64 k, .int .i64 v, .int .i64 t]
section
variable {w w1 w2 : World} {b g k j : Nat} {s : ByteArray} {n : ByteArray} {A : Option Addr} {l c : Nat} {kd v t : Int} {ts : Tags}
theorem OwnT.set {w : World} {base : Nat} {A : Option Addr} {cap : Nat} {ts : Tags} (h : OwnT w base A cap ts) (a : Addr) (v : Value) (ha : a.block < base) : OwnT (w.setCell a v) base A cap ts :=
  h.kept (grown_set (grown_refl _ _) a v (Or.inl rfl)) ha
end

theorem OwnT.drew {w : World} {base : Nat} {A : Option Addr} {cap : Nat} {ts : Tags} (h : OwnT w base A cap ts) (n : Nat) : OwnT (w.drewN n) base A cap ts := h
theorem OwnT.set5 {w : World} {base g : Nat} {A : Option Addr} {cap : Nat} {ts : Tags} (h : OwnT w base A cap ts) (hg : g < base) (v0 v1 v2 v3 v4 : Value) :
    OwnT (((((w.setCell ⟨g, 0, none⟩ v0).setCell ⟨g, 1, none⟩ v1).setCell ⟨g, 2, none⟩ v2).setCell ⟨g, 3, none⟩ v3).setCell ⟨g, 4, none⟩ v4) base A cap ts :=
  ((((h.set _ _ hg).set _ _ hg).set _ _ hg).set _ _ hg).set _ _ hg

end Go.Proofs.YtfbccngbgkddlaaDoor
