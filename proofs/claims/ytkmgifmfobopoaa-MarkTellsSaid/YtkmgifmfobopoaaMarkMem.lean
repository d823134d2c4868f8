/-
  Layer 19 (mark): a mark behind a pointer, the program's and the document's; New, At, Stands, and what a mark may be told.
-/
import Derived.Test.YtkmgifmfobopoaaMarkPure
import Derived.Test.YtkmgifmfobopoaaKeeps
import Derived.Lib.MinMax
import Derived.Deep.QuietTactic
import Derived.BigQuiet
import Derived.RegionTactic
import Derived.Deep.RegionLaw
namespace Go.Proofs.Ytkmgifmfobopoaa
open Go.ChangeShapes Go.WideShapes Go.ChangeAt Go.RowKit
set_option linter.unusedVariables false

/-- The program's mark behind a pointer at block a. -/
def Gp (w : World) (a : Nat) (L I : Int) (s : Mk) : Prop :=
  w.heap[a]? = some (.cells #[.int .i64 L, .int .i64 I, .int .i64 s.most, .int .i64 s.last, .bool s.saw, .int .i64 s.at'] 40 (0, 0))
/-- The document's. -/
def Gr (w : World) (a : Nat) (L I : Int) (s : Mk) : Prop :=
  w.heap[a]? = some (.cells #[.int .i64 L, .int .i64 I, .bool s.saw, .int .i64 s.most, .int .i64 s.at', .int .i64 s.last] 32 (0, 0))
section
variable {w w' : World} {a : Nat} {L I : Int} {s : Mk}
theorem Gp.c0 (h : Gp w a L I s) : w.cell? ⟨a, 0, none⟩ = some (.int .i64 L) := cell_of_block h
theorem Gp.c1 (h : Gp w a L I s) : w.cell? ⟨a, 1, none⟩ = some (.int .i64 I) := cell_of_block h
theorem Gp.c2 (h : Gp w a L I s) : w.cell? ⟨a, 2, none⟩ = some (.int .i64 s.most) := cell_of_block h
theorem Gp.c3 (h : Gp w a L I s) : w.cell? ⟨a, 3, none⟩ = some (.int .i64 s.last) := cell_of_block h
theorem Gp.c4 (h : Gp w a L I s) : w.cell? ⟨a, 4, none⟩ = some (.bool s.saw) := cell_of_block h
theorem Gp.c5 (h : Gp w a L I s) : w.cell? ⟨a, 5, none⟩ = some (.int .i64 s.at') := cell_of_block h
theorem Gp.fr (h : Gp w a L I s) (o : Nat) : w.frozen? ⟨a, o, none⟩ = false := frozen_of_block h
theorem Gp.lt (h : Gp w a L I s) : a < w.heap.size := lt_of_block h
theorem Gp.keeps {F : Nat → Prop} (h : Gp w a L I s) (k : Keeps F w w') (ha : ¬ F a) : Gp w' a L I s := keeps_out k h ha
theorem Gp.still (h : Gp w a L I s) (b : Below w.heap.size w w') : Gp w' a L I s := h.keeps (Keeps.of_below b (Nat.le_refl _) (fun _ => False)) (fun e => e)
theorem Gp.drewN (h : Gp w a L I s) (n : Nat) : Gp (w.drewN n) a L I s := h
theorem Gp.set2 (h : Gp w a L I s) (x : Int) : Gp (w.setCell ⟨a, 2, none⟩ (.int .i64 x)) a L I { s with most := x } := by unfold Gp at *; rw [heap_set_same h]; rfl
theorem Gp.set3 (h : Gp w a L I s) (x : Int) : Gp (w.setCell ⟨a, 3, none⟩ (.int .i64 x)) a L I { s with last := x } := by unfold Gp at *; rw [heap_set_same h]; rfl
theorem Gp.set4 (h : Gp w a L I s) (x : Bool) : Gp (w.setCell ⟨a, 4, none⟩ (.bool x)) a L I { s with saw := x } := by unfold Gp at *; rw [heap_set_same h]; rfl
theorem Gp.set5 (h : Gp w a L I s) (x : Int) : Gp (w.setCell ⟨a, 5, none⟩ (.int .i64 x)) a L I { s with at' := x } := by unfold Gp at *; rw [heap_set_same h]; rfl
theorem Gr.c0 (h : Gr w a L I s) : w.cell? ⟨a, 0, none⟩ = some (.int .i64 L) := cell_of_block h
theorem Gr.c1 (h : Gr w a L I s) : w.cell? ⟨a, 1, none⟩ = some (.int .i64 I) := cell_of_block h
theorem Gr.c2 (h : Gr w a L I s) : w.cell? ⟨a, 2, none⟩ = some (.bool s.saw) := cell_of_block h
theorem Gr.c3 (h : Gr w a L I s) : w.cell? ⟨a, 3, none⟩ = some (.int .i64 s.most) := cell_of_block h
theorem Gr.c4 (h : Gr w a L I s) : w.cell? ⟨a, 4, none⟩ = some (.int .i64 s.at') := cell_of_block h
theorem Gr.c5 (h : Gr w a L I s) : w.cell? ⟨a, 5, none⟩ = some (.int .i64 s.last) := cell_of_block h
theorem Gr.fr (h : Gr w a L I s) (o : Nat) : w.frozen? ⟨a, o, none⟩ = false := frozen_of_block h
theorem Gr.lt (h : Gr w a L I s) : a < w.heap.size := lt_of_block h
theorem Gr.keeps {F : Nat → Prop} (h : Gr w a L I s) (k : Keeps F w w') (ha : ¬ F a) : Gr w' a L I s := keeps_out k h ha
theorem Gr.still (h : Gr w a L I s) (b : Below w.heap.size w w') : Gr w' a L I s := h.keeps (Keeps.of_below b (Nat.le_refl _) (fun _ => False)) (fun e => e)
theorem Gr.drewN (h : Gr w a L I s) (n : Nat) : Gr (w.drewN n) a L I s := h
theorem Gr.set2 (h : Gr w a L I s) (x : Bool) : Gr (w.setCell ⟨a, 2, none⟩ (.bool x)) a L I { s with saw := x } := by unfold Gr at *; rw [heap_set_same h]; rfl
theorem Gr.set3 (h : Gr w a L I s) (x : Int) : Gr (w.setCell ⟨a, 3, none⟩ (.int .i64 x)) a L I { s with most := x } := by unfold Gr at *; rw [heap_set_same h]; rfl
theorem Gr.set4 (h : Gr w a L I s) (x : Int) : Gr (w.setCell ⟨a, 4, none⟩ (.int .i64 x)) a L I { s with at' := x } := by unfold Gr at *; rw [heap_set_same h]; rfl
theorem Gr.set5 (h : Gr w a L I s) (x : Int) : Gr (w.setCell ⟨a, 5, none⟩ (.int .i64 x)) a L I { s with last := x } := by unfold Gr at *; rw [heap_set_same h]; rfl
/-- What a call makes of the program's mark. -/
structure Mp (w w' : World) (a : Nat) (L I : Int) (s' : Mk) : Prop where
  gp : Gp w' a L I s'
  kp : Keeps (fun g => g = a) w w'
theorem Mp.refl (h : Gp w a L I s) : Mp w w a L I s := ⟨h, Keeps.refl _ _⟩
theorem Mp.drewN (h : Mp w w' a L I s) (n : Nat) : Mp w (w'.drewN n) a L I s := ⟨h.gp, h.kp.drewN n⟩
theorem Mp.drew (h : Mp w w' a L I s) : Mp w w'.drew a L I s := ⟨h.gp, h.kp.drew⟩
theorem Mp.set2 (h : Mp w w' a L I s) (x : Int) : Mp w (w'.setCell ⟨a, 2, none⟩ (.int .i64 x)) a L I { s with most := x } := ⟨h.gp.set2 x, h.kp.set _ _ (.inl rfl)⟩
theorem Mp.set3 (h : Mp w w' a L I s) (x : Int) : Mp w (w'.setCell ⟨a, 3, none⟩ (.int .i64 x)) a L I { s with last := x } := ⟨h.gp.set3 x, h.kp.set _ _ (.inl rfl)⟩
theorem Mp.set4 (h : Mp w w' a L I s) (x : Bool) : Mp w (w'.setCell ⟨a, 4, none⟩ (.bool x)) a L I { s with saw := x } := ⟨h.gp.set4 x, h.kp.set _ _ (.inl rfl)⟩
theorem Mp.set5 (h : Mp w w' a L I s) (x : Int) : Mp w (w'.setCell ⟨a, 5, none⟩ (.int .i64 x)) a L I { s with at' := x } := ⟨h.gp.set5 x, h.kp.set _ _ (.inl rfl)⟩
/-- .. and of the document's. -/
structure Mr (w w' : World) (a : Nat) (L I : Int) (s' : Mk) : Prop where
  gr : Gr w' a L I s'
  kp : Keeps (fun g => g = a) w w'
theorem Mr.refl (h : Gr w a L I s) : Mr w w a L I s := ⟨h, Keeps.refl _ _⟩
theorem Mr.drewN (h : Mr w w' a L I s) (n : Nat) : Mr w (w'.drewN n) a L I s := ⟨h.gr, h.kp.drewN n⟩
theorem Mr.drew (h : Mr w w' a L I s) : Mr w w'.drew a L I s := ⟨h.gr, h.kp.drew⟩
theorem Mr.set2 (h : Mr w w' a L I s) (x : Bool) : Mr w (w'.setCell ⟨a, 2, none⟩ (.bool x)) a L I { s with saw := x } := ⟨h.gr.set2 x, h.kp.set _ _ (.inl rfl)⟩
theorem Mr.set3 (h : Mr w w' a L I s) (x : Int) : Mr w (w'.setCell ⟨a, 3, none⟩ (.int .i64 x)) a L I { s with most := x } := ⟨h.gr.set3 x, h.kp.set _ _ (.inl rfl)⟩
theorem Mr.set4 (h : Mr w w' a L I s) (x : Int) : Mr w (w'.setCell ⟨a, 4, none⟩ (.int .i64 x)) a L I { s with at' := x } := ⟨h.gr.set4 x, h.kp.set _ _ (.inl rfl)⟩
theorem Mr.set5 (h : Mr w w' a L I s) (x : Int) : Mr w (w'.setCell ⟨a, 5, none⟩ (.int .i64 x)) a L I { s with last := x } := ⟨h.gr.set5 x, h.kp.set _ _ (.inl rfl)⟩
def errM : Value := .iface 29 (.int .i64 1)
theorem within_in (w : World) {n : Int} (h : WiM n) :
    Calls Try.prog 13 #[.int .i64 n] w fun e w' => e = .returned (.bool true) ∧ w = w' := by
  obtain ⟨x1, x2⟩ := h
  go_enter Try.func13, Try.ntmps13
  go_wp2_with fail
  go_ret
  exact ⟨rfl, rfl⟩
theorem within_out (w : World) {n : Int} (h : ¬ WiM n) :
    Calls Try.prog 13 #[.int .i64 n] w fun e w' => e = .returned (.bool false) ∧ w = w' := by
  rcases not_wi h with x | ⟨x1, x2⟩
  · have x1 : ¬ 0 ≤ n := by omega
    clear h x
    go_enter Try.func13, Try.ntmps13
    go_wp2_with fail
    go_ret
    exact ⟨rfl, rfl⟩
  · have x3 : ¬ n ≤ 1099511627776 := by omega
    clear h x2
    go_enter Try.func13, Try.ntmps13
    go_wp2_with fail
    go_ret
    exact ⟨rfl, rfl⟩
theorem new_bad (w : World) (h : ¬ GoodM L I) :
    Calls Try.prog 6 #[.int .i64 L, .int .i64 I] w fun e w' => e = .returned (.tuple #[.pointer none, errM]) ∧ w = w' := by
  unfold errM
  rcases not_good h with x | ⟨x1, x2⟩ | ⟨x1, x2, x3⟩
  · have C1 := Lib.hid (fun w => within_out w x)
    clear h x
    go_enter Try.func6, Try.ntmps6
    go_wp2_with fail
    refine (C1.out _).mono ?_
    rintro e w1 ⟨rfl, rfl⟩
    go_wp2_with fail
    go_ret2
    exact ⟨rfl, rfl⟩
  · have C1 := Lib.hid (fun w => within_in w x1)
    have C2 := Lib.hid (fun w => within_out w x2)
    clear h x1 x2
    go_enter Try.func6, Try.ntmps6
    go_wp2_with fail
    refine (C1.out _).mono ?_
    rintro e w1 ⟨rfl, rfl⟩
    go_wp2_with fail
    refine (C2.out _).mono ?_
    rintro e w1 ⟨rfl, rfl⟩
    go_wp2_with fail
    go_ret2
    exact ⟨rfl, rfl⟩
  · have C1 := Lib.hid (fun w => within_in w x1)
    have C2 := Lib.hid (fun w => within_in w x2)
    clear h x1 x2
    go_enter Try.func6, Try.ntmps6
    go_wp2_with fail
    refine (C1.out _).mono ?_
    rintro e w1 ⟨rfl, rfl⟩
    go_wp2_with fail
    refine (C2.out _).mono ?_
    rintro e w1 ⟨rfl, rfl⟩
    go_wp2_with fail
    go_ret2
    exact ⟨rfl, rfl⟩
theorem new_good (w : World) (h : GoodM L I) :
    Calls Try.prog 6 #[.int .i64 L, .int .i64 I] w fun e w' => e = .returned (.tuple #[.pointer (some ⟨w.heap.size, 0, none⟩), .nilIface]) ∧ Gp w' w.heap.size L I Mk.new ∧ Below w.heap.size w w' := by
  have C1 := Lib.hid (fun w => within_in w h.l)
  have C2 := Lib.hid (fun w => within_in w h.i)
  have x3 : ¬ I < 1 := by have := h.o; omega
  clear h
  go_enter Try.func6, Try.ntmps6
  go_wp2_with fail
  refine (C1.out _).mono ?_
  rintro e w1 ⟨rfl, rfl⟩
  go_wp2_with fail
  refine (C2.out _).mono ?_
  rintro e w1 ⟨rfl, rfl⟩
  go_wp2_with fail
  go_ret2
  exact ⟨rfl, heap_alloc_new w _, (Below.refl w.heap.size w).alloc (Nat.le_refl _) _⟩
theorem fair_yes (h : Gp w a L I s) {now : Int} (k : FairM s now) :
    Calls Try.prog 14 #[.pointer (some ⟨a, 0, none⟩), .int .i64 now] w fun e w' => e = .returned (.bool true) ∧ w = w' := by
  have c3 := h.c3
  have C1 := Lib.hid (fun w => within_in w k.w)
  have x1 := k.b
  clear h k
  go_enter Try.func14, Try.ntmps14
  go_wp2_with fail
  refine (C1.out _).mono ?_
  rintro e w1 ⟨rfl, rfl⟩
  go_wp2_with fail
  go_ret
  exact ⟨rfl, rfl⟩
theorem fair_no (h : Gp w a L I s) {now : Int} (k : ¬ FairM s now) :
    Calls Try.prog 14 #[.pointer (some ⟨a, 0, none⟩), .int .i64 now] w fun e w' => e = .returned (.bool false) ∧ w = w' := by
  have c3 := h.c3
  rcases not_fair k with x | ⟨x1, x2⟩
  · have C1 := Lib.hid (fun w => within_out w x)
    clear h k
    go_enter Try.func14, Try.ntmps14
    go_wp2_with fail
    refine (C1.out _).mono ?_
    rintro e w1 ⟨rfl, rfl⟩
    go_wp2_with fail
    go_ret
    exact ⟨rfl, rfl⟩
  · have C1 := Lib.hid (fun w => within_in w x1)
    have X3 : Hid (¬ s.last ≤ now) := Lib.hid (by omega)
    clear h k x2
    go_enter Try.func14, Try.ntmps14
    go_wp2_with fail
    refine (C1.out _).mono ?_
    rintro e w1 ⟨rfl, rfl⟩
    go_wp2_with fail
    go_ret
    exact ⟨congrArg (fun b => Ending.returned (.bool b)) (decide_eq_false (by have := X3.out; omega)), rfl⟩
end
end Go.Proofs.Ytkmgifmfobopoaa
