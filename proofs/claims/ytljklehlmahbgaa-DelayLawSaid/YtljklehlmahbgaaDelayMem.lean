/-
  Layer 11 (delay): a control behind a pointer, and its calls.
-/
import Derived.Test.YtljklehlmahbgaaDelayBase
import Derived.Test.YtljklehlmahbgaaKeeps
import Derived.Deep.QuietTactic
import Derived.BigQuiet
import Derived.RegionTactic
import Derived.Deep.RegionLaw
namespace Go.Proofs.Ytljklehlmahbgaa
open Go.ChangeShapes Go.WideShapes Go.ChangeAt Go.RowKit
set_option linter.unusedVariables false

def errD (c : Nat) : Value := .iface 37 (.int .i64 (c : Nat))
/-- A control behind a pointer at block a. -/
def Ct (w : World) (a : Nat) (T I : Int) (s : Cs) : Prop :=
  w.heap[a]? = some (.cells #[.int .i64 T, .int .i64 I, .int .i64 s.is, .int .i64 s.last, .int .i64 s.till, .int .i64 s.next, .int .i64 s.count] 41 (0, 0))
section
variable {w w' : World} {a : Nat} {T I : Int} {s : Cs}
theorem Ct.c0 (h : Ct w a T I s) : w.cell? ⟨a, 0, none⟩ = some (.int .i64 T) := cell_of_block h
theorem Ct.c1 (h : Ct w a T I s) : w.cell? ⟨a, 1, none⟩ = some (.int .i64 I) := cell_of_block h
theorem Ct.c2 (h : Ct w a T I s) : w.cell? ⟨a, 2, none⟩ = some (.int .i64 s.is) := cell_of_block h
theorem Ct.c3 (h : Ct w a T I s) : w.cell? ⟨a, 3, none⟩ = some (.int .i64 s.last) := cell_of_block h
theorem Ct.c4 (h : Ct w a T I s) : w.cell? ⟨a, 4, none⟩ = some (.int .i64 s.till) := cell_of_block h
theorem Ct.c5 (h : Ct w a T I s) : w.cell? ⟨a, 5, none⟩ = some (.int .i64 s.next) := cell_of_block h
theorem Ct.c6 (h : Ct w a T I s) : w.cell? ⟨a, 6, none⟩ = some (.int .i64 s.count) := cell_of_block h
theorem Ct.fr (h : Ct w a T I s) (o : Nat) : w.frozen? ⟨a, o, none⟩ = false := frozen_of_block h
theorem Ct.lt (h : Ct w a T I s) : a < w.heap.size := lt_of_block h
theorem Ct.keeps {F : Nat → Prop} (h : Ct w a T I s) (k : Keeps F w w') (ha : ¬ F a) : Ct w' a T I s := keeps_out k h ha
theorem Ct.still (h : Ct w a T I s) (b : Below w.heap.size w w') : Ct w' a T I s := h.keeps (Keeps.of_below b (Nat.le_refl _) (fun _ => False)) (fun e => e)
theorem Ct.drewN (h : Ct w a T I s) (n : Nat) : Ct (w.drewN n) a T I s := h
theorem Ct.set2 (h : Ct w a T I s) (x : Int) : Ct (w.setCell ⟨a, 2, none⟩ (.int .i64 x)) a T I { s with is := x } := by unfold Ct at *; rw [heap_set_same h]; rfl
theorem Ct.set3 (h : Ct w a T I s) (x : Int) : Ct (w.setCell ⟨a, 3, none⟩ (.int .i64 x)) a T I { s with last := x } := by unfold Ct at *; rw [heap_set_same h]; rfl
theorem Ct.set4 (h : Ct w a T I s) (x : Int) : Ct (w.setCell ⟨a, 4, none⟩ (.int .i64 x)) a T I { s with till := x } := by unfold Ct at *; rw [heap_set_same h]; rfl
theorem Ct.set5 (h : Ct w a T I s) (x : Int) : Ct (w.setCell ⟨a, 5, none⟩ (.int .i64 x)) a T I { s with next := x } := by unfold Ct at *; rw [heap_set_same h]; rfl
theorem Ct.set6 (h : Ct w a T I s) (x : Int) : Ct (w.setCell ⟨a, 6, none⟩ (.int .i64 x)) a T I { s with count := x } := by unfold Ct at *; rw [heap_set_same h]; rfl
/-- What a call makes of a control. -/
structure Mc (w w' : World) (a : Nat) (T I : Int) (s' : Cs) : Prop where
  ct : Ct w' a T I s'
  kp : Keeps (fun g => g = a) w w'
theorem Mc.refl (h : Ct w a T I s) : Mc w w a T I s := ⟨h, Keeps.refl _ _⟩
theorem Mc.drewN (h : Mc w w' a T I s) (n : Nat) : Mc w (w'.drewN n) a T I s := ⟨h.ct, h.kp.drewN n⟩
theorem Mc.drew (h : Mc w w' a T I s) : Mc w w'.drew a T I s := ⟨h.ct, h.kp.drew⟩
theorem Mc.set2 (h : Mc w w' a T I s) (x : Int) : Mc w (w'.setCell ⟨a, 2, none⟩ (.int .i64 x)) a T I { s with is := x } := ⟨h.ct.set2 x, h.kp.set _ _ (.inl rfl)⟩
theorem Mc.set3 (h : Mc w w' a T I s) (x : Int) : Mc w (w'.setCell ⟨a, 3, none⟩ (.int .i64 x)) a T I { s with last := x } := ⟨h.ct.set3 x, h.kp.set _ _ (.inl rfl)⟩
theorem Mc.set4 (h : Mc w w' a T I s) (x : Int) : Mc w (w'.setCell ⟨a, 4, none⟩ (.int .i64 x)) a T I { s with till := x } := ⟨h.ct.set4 x, h.kp.set _ _ (.inl rfl)⟩
theorem Mc.set5 (h : Mc w w' a T I s) (x : Int) : Mc w (w'.setCell ⟨a, 5, none⟩ (.int .i64 x)) a T I { s with next := x } := ⟨h.ct.set5 x, h.kp.set _ _ (.inl rfl)⟩
theorem Mc.set6 (h : Mc w w' a T I s) (x : Int) : Mc w (w'.setCell ⟨a, 6, none⟩ (.int .i64 x)) a T I { s with count := x } := ⟨h.ct.set6 x, h.kp.set _ _ (.inl rfl)⟩
theorem Mc.trans {w1 : World} {s1 : Cs} (h : Mc w w1 a T I s1) (k : Mc w1 w' a T I s) : Mc w w' a T I s := ⟨k.ct, h.kp.trans k.kp (fun g e => .inl e)⟩

theorem new_bad (w : World) (T I : Int) (h : ¬ mayB T ∨ ¬ mayB I) :
    Calls Try.prog 7 #[.int .i64 T, .int .i64 I] w fun e w' => e = .returned (.tuple #[.pointer none, errD 1]) ∧ w = w' := by
  have CM := Lib.hid (fun x => may_walk w x)
  by_cases hT : mayB T
  · have hI : ¬ mayB I := by rcases h with h | h; exact absurd hT h; exact h
    have eT : decide (mayB T) = true := decide_eq_true hT
    have eI : decide (mayB I) = false := decide_eq_false hI
    go_enter Try.func7, Try.ntmps7
    go_wp2_with fail
    refine (CM.out _).mono ?_
    rintro e w' ⟨rfl, rfl⟩
    rw [eT]
    go_wp2_with fail
    refine (CM.out _).mono ?_
    rintro e w' ⟨rfl, rfl⟩
    rw [eI]
    go_wp2_with fail
    go_ret2
    exact ⟨rfl, rfl⟩
  · have eT : decide (mayB T) = false := decide_eq_false hT
    go_enter Try.func7, Try.ntmps7
    go_wp2_with fail
    refine (CM.out _).mono ?_
    rintro e w' ⟨rfl, rfl⟩
    rw [eT]
    go_wp2_with fail
    go_ret2
    exact ⟨rfl, rfl⟩
theorem new_good (w : World) (T I : Int) (hT : mayB T) (hI : mayB I) :
    Calls Try.prog 7 #[.int .i64 T, .int .i64 I] w fun e w' => e = .returned (.tuple #[.pointer (some ⟨w.heap.size, 0, none⟩), .nilIface]) ∧ Ct w' w.heap.size T I Cs.calm ∧ Below w.heap.size w w' := by
  have CM := Lib.hid (fun x => may_walk w x)
  have eT : decide (mayB T) = true := decide_eq_true hT
  have eI : decide (mayB I) = true := decide_eq_true hI
  go_enter Try.func7, Try.ntmps7
  go_wp2_with fail
  refine (CM.out _).mono ?_
  rintro e w' ⟨rfl, rfl⟩
  rw [eT]
  go_wp2_with fail
  refine (CM.out _).mono ?_
  rintro e w' ⟨rfl, rfl⟩
  rw [eI]
  clear CM
  go_wp2_with fail
  go_ret2
  exact ⟨rfl, heap_alloc_new w _, (Below.refl w.heap.size w).alloc (Nat.le_refl _) _⟩
theorem count_walk (h : Ct w a T I s) :
    Calls Try.prog 8 #[.pointer (some ⟨a, 0, none⟩)] w fun e w' => e = .returned (.int .i64 s.count) ∧ w = w' := by
  have c6 := h.c6
  clear h
  go_enter Try.func8, Try.ntmps8
  go_wp2
  go_ret
  exact ⟨rfl, rfl⟩
end
end Go.Proofs.Ytljklehlmahbgaa
