/-
  Layer 16 (level): a gauge behind a pointer, the program's and the document's, and their calls.
-/
import Derived.Test.YtppffnfldgoknaaLevelPure
import Derived.Test.YtppffnfldgoknaaKeeps
import Derived.Deep.QuietTactic
import Derived.BigQuiet
import Derived.RegionTactic
import Derived.Deep.RegionLaw
namespace Go.Proofs.Ytppffnfldgoknaa
open Go.ChangeShapes Go.WideShapes Go.ChangeAt Go.RowKit
set_option linter.unusedVariables false

/-- The program's gauge behind a pointer at block a; m is its highest level. -/
def Gp (w : World) (a : Nat) (low high hold m : Int) (s : Ls) : Prop :=
  w.heap[a]? = some (.cells #[.int .i64 low, .int .i64 high, .int .i64 hold, .int .i64 s.held, .int .i64 s.is, .int .i64 m] 37 (0, 0))
/-- The document's. -/
def Gr (w : World) (a : Nat) (N low high hold : Int) (s : Ls) : Prop :=
  w.heap[a]? = some (.cells #[.int .i64 N, .int .i64 low, .int .i64 high, .int .i64 hold, .int .i64 s.is, .int .i64 s.held] 31 (0, 0))
section
variable {w w' : World} {a : Nat} {N low high hold m : Int} {s : Ls}
theorem Gp.c0 (h : Gp w a low high hold m s) : w.cell? ⟨a, 0, none⟩ = some (.int .i64 low) := cell_of_block h
theorem Gp.c1 (h : Gp w a low high hold m s) : w.cell? ⟨a, 1, none⟩ = some (.int .i64 high) := cell_of_block h
theorem Gp.c2 (h : Gp w a low high hold m s) : w.cell? ⟨a, 2, none⟩ = some (.int .i64 hold) := cell_of_block h
theorem Gp.c3 (h : Gp w a low high hold m s) : w.cell? ⟨a, 3, none⟩ = some (.int .i64 s.held) := cell_of_block h
theorem Gp.c4 (h : Gp w a low high hold m s) : w.cell? ⟨a, 4, none⟩ = some (.int .i64 s.is) := cell_of_block h
theorem Gp.c5 (h : Gp w a low high hold m s) : w.cell? ⟨a, 5, none⟩ = some (.int .i64 m) := cell_of_block h
theorem Gp.fr (h : Gp w a low high hold m s) (o : Nat) : w.frozen? ⟨a, o, none⟩ = false := frozen_of_block h
theorem Gp.lt (h : Gp w a low high hold m s) : a < w.heap.size := lt_of_block h
theorem Gp.keeps {F : Nat → Prop} (h : Gp w a low high hold m s) (k : Keeps F w w') (ha : ¬ F a) : Gp w' a low high hold m s := keeps_out k h ha
theorem Gp.still (h : Gp w a low high hold m s) (b : Below w.heap.size w w') : Gp w' a low high hold m s := h.keeps (Keeps.of_below b (Nat.le_refl _) (fun _ => False)) (fun e => e)
theorem Gp.drewN (h : Gp w a low high hold m s) (n : Nat) : Gp (w.drewN n) a low high hold m s := h
theorem Gp.set3 (h : Gp w a low high hold m s) (x : Int) : Gp (w.setCell ⟨a, 3, none⟩ (.int .i64 x)) a low high hold m { s with held := x } := by unfold Gp at *; rw [heap_set_same h]; rfl
theorem Gp.set4 (h : Gp w a low high hold m s) (x : Int) : Gp (w.setCell ⟨a, 4, none⟩ (.int .i64 x)) a low high hold m { s with is := x } := by unfold Gp at *; rw [heap_set_same h]; rfl
theorem Gr.c0 (h : Gr w a N low high hold s) : w.cell? ⟨a, 0, none⟩ = some (.int .i64 N) := cell_of_block h
theorem Gr.c1 (h : Gr w a N low high hold s) : w.cell? ⟨a, 1, none⟩ = some (.int .i64 low) := cell_of_block h
theorem Gr.c2 (h : Gr w a N low high hold s) : w.cell? ⟨a, 2, none⟩ = some (.int .i64 high) := cell_of_block h
theorem Gr.c3 (h : Gr w a N low high hold s) : w.cell? ⟨a, 3, none⟩ = some (.int .i64 hold) := cell_of_block h
theorem Gr.c4 (h : Gr w a N low high hold s) : w.cell? ⟨a, 4, none⟩ = some (.int .i64 s.is) := cell_of_block h
theorem Gr.c5 (h : Gr w a N low high hold s) : w.cell? ⟨a, 5, none⟩ = some (.int .i64 s.held) := cell_of_block h
theorem Gr.fr (h : Gr w a N low high hold s) (o : Nat) : w.frozen? ⟨a, o, none⟩ = false := frozen_of_block h
theorem Gr.lt (h : Gr w a N low high hold s) : a < w.heap.size := lt_of_block h
theorem Gr.keeps {F : Nat → Prop} (h : Gr w a N low high hold s) (k : Keeps F w w') (ha : ¬ F a) : Gr w' a N low high hold s := keeps_out k h ha
theorem Gr.still (h : Gr w a N low high hold s) (b : Below w.heap.size w w') : Gr w' a N low high hold s := h.keeps (Keeps.of_below b (Nat.le_refl _) (fun _ => False)) (fun e => e)
theorem Gr.drewN (h : Gr w a N low high hold s) (n : Nat) : Gr (w.drewN n) a N low high hold s := h
theorem Gr.set4 (h : Gr w a N low high hold s) (x : Int) : Gr (w.setCell ⟨a, 4, none⟩ (.int .i64 x)) a N low high hold { s with is := x } := by unfold Gr at *; rw [heap_set_same h]; rfl
theorem Gr.set5 (h : Gr w a N low high hold s) (x : Int) : Gr (w.setCell ⟨a, 5, none⟩ (.int .i64 x)) a N low high hold { s with held := x } := by unfold Gr at *; rw [heap_set_same h]; rfl
/-- What a call makes of the program's gauge. -/
structure Mp (w w' : World) (a : Nat) (low high hold m : Int) (s' : Ls) : Prop where
  gp : Gp w' a low high hold m s'
  kp : Keeps (fun g => g = a) w w'
theorem Mp.refl (h : Gp w a low high hold m s) : Mp w w a low high hold m s := ⟨h, Keeps.refl _ _⟩
theorem Mp.drewN (h : Mp w w' a low high hold m s) (n : Nat) : Mp w (w'.drewN n) a low high hold m s := ⟨h.gp, h.kp.drewN n⟩
theorem Mp.drew (h : Mp w w' a low high hold m s) : Mp w w'.drew a low high hold m s := ⟨h.gp, h.kp.drew⟩
theorem Mp.set3 (h : Mp w w' a low high hold m s) (x : Int) : Mp w (w'.setCell ⟨a, 3, none⟩ (.int .i64 x)) a low high hold m { s with held := x } := ⟨h.gp.set3 x, h.kp.set _ _ (.inl rfl)⟩
theorem Mp.set4 (h : Mp w w' a low high hold m s) (x : Int) : Mp w (w'.setCell ⟨a, 4, none⟩ (.int .i64 x)) a low high hold m { s with is := x } := ⟨h.gp.set4 x, h.kp.set _ _ (.inl rfl)⟩
/-- .. and of the document's. -/
structure Mr (w w' : World) (a : Nat) (N low high hold : Int) (s' : Ls) : Prop where
  gr : Gr w' a N low high hold s'
  kp : Keeps (fun g => g = a) w w'
theorem Mr.refl (h : Gr w a N low high hold s) : Mr w w a N low high hold s := ⟨h, Keeps.refl _ _⟩
theorem Mr.drewN (h : Mr w w' a N low high hold s) (n : Nat) : Mr w (w'.drewN n) a N low high hold s := ⟨h.gr, h.kp.drewN n⟩
theorem Mr.drew (h : Mr w w' a N low high hold s) : Mr w w'.drew a N low high hold s := ⟨h.gr, h.kp.drew⟩
theorem Mr.set4 (h : Mr w w' a N low high hold s) (x : Int) : Mr w (w'.setCell ⟨a, 4, none⟩ (.int .i64 x)) a N low high hold { s with is := x } := ⟨h.gr.set4 x, h.kp.set _ _ (.inl rfl)⟩
theorem Mr.set5 (h : Mr w w' a N low high hold s) (x : Int) : Mr w (w'.setCell ⟨a, 5, none⟩ (.int .i64 x)) a N low high hold { s with held := x } := ⟨h.gr.set5 x, h.kp.set _ _ (.inl rfl)⟩
def errL (c : Nat) : Value := .iface 32 (.int .i64 (c : Nat))
theorem not_good (h : ¬ GoodL N low high hold) : N < 1 ∨ (¬ N < 1 ∧ 8 < N) ∨ (¬ N < 1 ∧ ¬ 8 < N ∧ low < 0) ∨ (¬ N < 1 ∧ ¬ 8 < N ∧ ¬ low < 0 ∧ high < low) ∨ (¬ N < 1 ∧ ¬ 8 < N ∧ ¬ low < 0 ∧ ¬ high < low ∧ 1000 < high) ∨ (¬ N < 1 ∧ ¬ 8 < N ∧ ¬ low < 0 ∧ ¬ high < low ∧ ¬ 1000 < high ∧ hold < 1) ∨ (¬ N < 1 ∧ ¬ 8 < N ∧ ¬ low < 0 ∧ ¬ high < low ∧ ¬ 1000 < high ∧ ¬ hold < 1 ∧ 1000 < hold) := by
  by_cases a1 : N < 1
  · exact .inl a1
  by_cases a2 : 8 < N
  · exact .inr (.inl ⟨a1, a2⟩)
  by_cases a3 : low < 0
  · exact .inr (.inr (.inl ⟨a1, a2, a3⟩))
  by_cases a4 : high < low
  · exact .inr (.inr (.inr (.inl ⟨a1, a2, a3, a4⟩)))
  by_cases a5 : 1000 < high
  · exact .inr (.inr (.inr (.inr (.inl ⟨a1, a2, a3, a4, a5⟩))))
  by_cases a6 : hold < 1
  · exact .inr (.inr (.inr (.inr (.inr (.inl ⟨a1, a2, a3, a4, a5, a6⟩)))))
  by_cases a7 : 1000 < hold
  · exact .inr (.inr (.inr (.inr (.inr (.inr ⟨a1, a2, a3, a4, a5, a6, a7⟩)))))
  exact absurd ⟨by omega, by omega, by omega, by omega, by omega, by omega, by omega⟩ h
theorem new_bad (w : World) (N low high hold : Int) (h : ¬ GoodL N low high hold) :
    Calls Try.prog 6 #[.int .i64 N, .int .i64 low, .int .i64 high, .int .i64 hold] w fun e w' => e = .returned (.tuple #[.pointer none, errL 1]) ∧ w = w' := by
  rcases not_good h with x | ⟨x1, x2⟩ | ⟨x1, x2, x3⟩ | ⟨x1, x2, x3, x4⟩ | ⟨x1, x2, x3, x4, x5⟩ | ⟨x1, x2, x3, x4, x5, x6⟩ | ⟨x1, x2, x3, x4, x5, x6, x7⟩
  all_goals
    clear h
    go_enter Try.func6, Try.ntmps6
    go_wp2_with fail
    go_ret2
    exact ⟨rfl, rfl⟩
theorem new_good (w : World) (N low high hold m : Int) (h : GoodL N low high hold) (hm : m = N - 1) :
    Calls Try.prog 6 #[.int .i64 N, .int .i64 low, .int .i64 high, .int .i64 hold] w fun e w' => e = .returned (.tuple #[.pointer (some ⟨w.heap.size, 0, none⟩), .nilIface]) ∧ Gp w' w.heap.size low high hold m ⟨0, 0⟩ ∧ Below w.heap.size w w' := by
  obtain ⟨n1, n8, l0, lh, h1, o1, o2⟩ := h
  have x1 : ¬ N < 1 := by omega
  have x2 : ¬ 8 < N := by omega
  have x3 : ¬ low < 0 := by omega
  have x4 : ¬ high < low := by omega
  have x5 : ¬ 1000 < high := by omega
  have x6 : ¬ hold < 1 := by omega
  have x7 : ¬ 1000 < hold := by omega
  have z : IntKind.i64.wrap (N - 1) = m := by rw [IntKind.wrap_i64]; omega
  clear hm
  go_enter Try.func6, Try.ntmps6
  go_wp2_with fail
  go_ret2
  exact ⟨rfl, heap_alloc_new w _, (Below.refl w.heap.size w).alloc (Nat.le_refl _) _⟩
theorem level_walk (h : Gp w a low high hold m s) :
    Calls Try.prog 10 #[.pointer (some ⟨a, 0, none⟩)] w fun e w' => e = .returned (.int .i64 s.is) ∧ w = w' := by
  have c4 := h.c4
  clear h
  go_enter Try.func10, Try.ntmps10
  go_wp2
  go_ret
  exact ⟨rfl, rfl⟩
end
end Go.Proofs.Ytppffnfldgoknaa
