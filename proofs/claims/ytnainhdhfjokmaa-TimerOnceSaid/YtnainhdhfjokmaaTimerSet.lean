/-
  Layer 13 (timer): Set of what may be.
-/
import Derived.Test.YtnainhdhfjokmaaTimerOps
namespace Go.Proofs.Ytnainhdhfjokmaa
open Go.ChangeShapes Go.WideShapes Go.ChangeAt Go.RowKit Go.Shelf
set_option linter.unusedVariables false

section
variable {w w' : World} {a : Nat} {v : Value} {L : List Du} {F G : Nat → Prop} {d : Du}
def oneObj (x : Du) : Obj := .cells #[.int .i64 x.1, .int .i64 x.2] 35
theorem one_new (w : World) (x : Du) : One (w.alloc (oneObj x)) w.heap.size x := heap_alloc_new w _
/-- What is known behind an insertion. -/
def Done (w : World) (F : Nat → Prop) (a : Nat) (v : Value) (L' : List Du) (m : Nat) (A : Option Addr) (c : Nat) (w3 : World) : Prop :=
  w3.cell? ⟨a, 0, none⟩ = some v ∧ w3.frozen? ⟨a, 0, none⟩ = false ∧ ∃ F', Qu (w3.setCell ⟨a, 0, none⟩ (.slice A m c)) F' a L' ∧ Mv8 w F (w3.setCell ⟨a, 0, none⟩ (.slice A m c)) F'
set_option maxRecDepth 100000 in
set_option maxHeartbeats 1000000 in
theorem set_good (h : Qu w F a L) {at' what : Int} {k : Nat} (h0 : 0 ≤ at') (c : CutAt L at' k) (hl : L.length < 50) :
    Calls Try.prog 8 #[.pointer (some ⟨a, 0, none⟩), .int .i64 at', .int .i64 what] w fun e w' => e = .returned .nilIface ∧ ∃ F', Qu w' F' a (insD L k (at', what)) ∧ Mv8 w F w' F' := by
  obtain ⟨v, h, hF⟩ := h
  have hk := c.le
  have c0 := h.c
  have hv : ∀ g, v.ownBlock = some g → g < w.heap.size := fun g hg => (h.row.block hg).2.1
  have bd := below_drew w
  have ba : Below w.heap.size w (w.alloc (oneObj (at', what))) := (Below.refl _ w).alloc (Nat.le_refl _) _
  have sa : (w.alloc (oneObj (at', what))).heap.size = w.heap.size + 1 := by simp
  -- the call comes first
  have CA := Lib.hid (by_walk (h.still bd) c (by omega))
  have IA := Lib.hid (fun (w1 : World) (b : Below w.drew.heap.size w.drew w1) =>
    (insert_walk (w := w1.alloc (oneObj (at', what))) (((h.still bd).still b).still ((Below.refl _ w1).alloc (Nat.le_refl _) _)).row (one_new w1 (at', what)) (by omega) (Nat.zero_le _)
      (fun e => by have := hv _ e; have := b.size; have : w.drew.heap.size = w.heap.size := rfl; omega) hk).mono fun e w3 hI =>
        hI.fin h hF ((bd.trans (b.mono (Nat.le_refl _))).trans (((Below.refl w1.heap.size w1).alloc (Nat.le_refl _) _).mono b.size)) hk)
  -- the block comes first
  have CB := Lib.hid (by_walk (w := (w.alloc (oneObj (at', what))).drew) ((h.still ba).still (below_drew _)) c (by omega))
  have IB := Lib.hid (fun (w1 : World) (b : Below (w.alloc (oneObj (at', what))).heap.size (w.alloc (oneObj (at', what))).drew w1) =>
    (insert_walk (w := w1) (((h.still ba).still (below_drew _)).still b).row (by have := one_new w (at', what); unfold One at this ⊢; rw [b.block _ (by rw [sa]; omega)]; exact this : One w1 w.heap.size (at', what)) (by omega) (Nat.zero_le _)
      (fun e => by have := hv _ e; omega) hk).mono fun e w3 hI =>
        hI.fin h hF ((ba.trans ((below_drew _).mono (by omega))).trans (b.mono (by omega))) hk)
  have KA := Lib.hid (fun (w1 : World) (b : Below w.drew.heap.size w.drew w1) => And.intro (((h.still bd).still b)).c (((h.still bd).still b).still ((Below.refl _ w1).alloc (Nat.le_refl _) (oneObj (at', what)))).c)
  have KB := Lib.hid (fun (w1 : World) (b : Below (w.alloc (oneObj (at', what))).heap.size (w.alloc (oneObj (at', what))).drew w1) => ((((h.still ba).still (below_drew _)).still b)).c)
  have c1 := (h.still ba).c
  obtain ⟨A, cap, rfl, _, _⟩ := h.row.src
  unfold oneObj at IA IB CB KB KA c1
  have z1 : ¬ ((L.length : Int) = 50) := by omega
  have z2 : ((L.length : Int) == 50) = false := beq_eq_false_iff_ne.2 (by omega)
  clear h hF c hv bd ba sa hk hl
  generalize hn : L.length = n at *
  clear hn
  go_enter Try.func8, Try.ntmps8
  go_wp2_with fail
  go_region_law (first
    | ((go_simp; go_at_call 14; with_reducible refine CA.out.mono ?_); rintro e w1 ⟨rfl, b1⟩; obtain ⟨k1, k2⟩ := KA.out w1 b1; have I1 := Lib.hid (IA.out w1 b1); clear b1)
    | ((go_simp; go_at_call 14; with_reducible refine CB.out.mono ?_); rintro e w1 ⟨rfl, b1⟩; have k1 := KB.out w1 b1; have I2 := Lib.hid (IB.out w1 b1); clear b1)
    | ((go_simp; go_at_call 13; with_reducible refine I1.out.mono ?_); rintro e w3 ⟨A3, c3, rfl, k3, f3, E3⟩; have E4 := Lib.hid E3; clear E3)
    | ((go_simp; go_at_call 13; with_reducible refine I2.out.mono ?_); rintro e w3 ⟨A3, c3, rfl, k3, f3, E3⟩; have E4 := Lib.hid E3; clear E3)
    | fail)
  all_goals go_wp2_with fail
  all_goals go_ret

  all_goals exact ⟨rfl, E4.out⟩
end
end Go.Proofs.Ytnainhdhfjokmaa
