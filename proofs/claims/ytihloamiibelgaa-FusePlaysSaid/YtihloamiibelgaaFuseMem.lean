/-
  Layer 23 (fuse): a fuse behind a pointer, the program's and the document's, with all their calls.
-/
import Derived.Test.YtihloamiibelgaaFusePure
import Derived.Test.YtihloamiibelgaaKeeps
import Derived.Deep.QuietTactic
import Derived.BigQuiet
import Derived.RegionTactic
import Derived.Deep.RegionLaw
import Derived.Deep.LoopGhost
namespace Go.Proofs.Ytihloamiibelgaa
open Go.ChangeShapes Go.WideShapes Go.ChangeAt Go.RowKit
set_option linter.unusedVariables false

/-- A fuse behind a pointer at block a, the program's (t its type) or the document's. -/
def Fb (t : TypeId) (w : World) (a : Nat) (b p : Int) (s : Fz) : Prop :=
  w.heap[a]? = some (.cells #[.int .i64 b, .int .i64 p, .int .i64 (s.st : Nat), .int .i64 (s.fl : Nat), .int .i64 s.bl] t (0, 0))
section
variable {t : TypeId} {w w' : World} {a : Nat} {b p : Int} {s s' : Fz}
theorem Fb.c0 (h : Fb t w a b p s) : w.cell? ⟨a, 0, none⟩ = some (.int .i64 b) := cell_of_block h
theorem Fb.c1 (h : Fb t w a b p s) : w.cell? ⟨a, 1, none⟩ = some (.int .i64 p) := cell_of_block h
theorem Fb.c2 (h : Fb t w a b p s) : w.cell? ⟨a, 2, none⟩ = some (.int .i64 (s.st : Nat)) := cell_of_block h
theorem Fb.c3 (h : Fb t w a b p s) : w.cell? ⟨a, 3, none⟩ = some (.int .i64 (s.fl : Nat)) := cell_of_block h
theorem Fb.c4 (h : Fb t w a b p s) : w.cell? ⟨a, 4, none⟩ = some (.int .i64 s.bl) := cell_of_block h
theorem Fb.fr (h : Fb t w a b p s) (o : Nat) : w.frozen? ⟨a, o, none⟩ = false := frozen_of_block h
theorem Fb.lt (h : Fb t w a b p s) : a < w.heap.size := lt_of_block h
theorem Fb.keeps {F : Nat → Prop} (h : Fb t w a b p s) (k : Keeps F w w') (ha : ¬ F a) : Fb t w' a b p s := keeps_out k h ha
theorem Fb.still (h : Fb t w a b p s) (k : Below w.heap.size w w') : Fb t w' a b p s := h.keeps (Keeps.of_below k (Nat.le_refl _) (fun _ => False)) (fun e => e)
theorem Fb.drewN (h : Fb t w a b p s) (q : Nat) : Fb t (w.drewN q) a b p s := h
theorem Fb.set2 (h : Fb t w a b p s) (x : Nat) : Fb t (w.setCell ⟨a, 2, none⟩ (.int .i64 (x : Nat))) a b p ⟨x, s.fl, s.bl⟩ := by unfold Fb at *; rw [heap_set_same h]; rfl
theorem Fb.set3 (h : Fb t w a b p s) (x : Nat) : Fb t (w.setCell ⟨a, 3, none⟩ (.int .i64 (x : Nat))) a b p ⟨s.st, x, s.bl⟩ := by unfold Fb at *; rw [heap_set_same h]; rfl
theorem Fb.set4 (h : Fb t w a b p s) (x : Int) : Fb t (w.setCell ⟨a, 4, none⟩ (.int .i64 x)) a b p ⟨s.st, s.fl, x⟩ := by unfold Fb at *; rw [heap_set_same h]; rfl
/-- What a call makes of a fuse. -/
structure Mf (t : TypeId) (w w' : World) (a : Nat) (b p : Int) (s : Fz) : Prop where
  f : Fb t w' a b p s
  kp : Keeps (fun g => g = a) w w'
theorem Mf.refl (h : Fb t w a b p s) : Mf t w w a b p s := ⟨h, Keeps.refl _ _⟩
theorem Mf.drewN (h : Mf t w w' a b p s) (q : Nat) : Mf t w (w'.drewN q) a b p s := ⟨h.f, h.kp.drewN q⟩
theorem Mf.drew (h : Mf t w w' a b p s) : Mf t w w'.drew a b p s := h.drewN 1
theorem Mf.set2 (h : Mf t w w' a b p s) (x : Nat) : Mf t w (w'.setCell ⟨a, 2, none⟩ (.int .i64 (x : Nat))) a b p ⟨x, s.fl, s.bl⟩ := ⟨h.f.set2 x, h.kp.set _ _ (.inl rfl)⟩
theorem Mf.set3 (h : Mf t w w' a b p s) (x : Nat) : Mf t w (w'.setCell ⟨a, 3, none⟩ (.int .i64 (x : Nat))) a b p ⟨s.st, x, s.bl⟩ := ⟨h.f.set3 x, h.kp.set _ _ (.inl rfl)⟩
theorem Mf.set4 (h : Mf t w w' a b p s) (x : Int) : Mf t w (w'.setCell ⟨a, 4, none⟩ (.int .i64 x)) a b p ⟨s.st, s.fl, x⟩ := ⟨h.f.set4 x, h.kp.set _ _ (.inl rfl)⟩
def errF (c : Nat) : Value := .iface 32 (.int .i64 (c : Nat))
/-- What an Ask answers. -/
def askV (p : Int) (s : Fz) (n : Int) : Value := if YesF p s n then .nilIface else errF 9
theorem askV_yes {n : Int} (h : YesF p s n) : askV p s n = .nilIface := if_pos h
theorem askV_no {n : Int} (h : ¬ YesF p s n) : askV p s n = errF 9 := if_neg h
theorem not_goodF (h : ¬ GoodF b p) : b < 1 ∨ (¬ b < 1 ∧ 1000 < b) ∨ (¬ b < 1 ∧ ¬ 1000 < b ∧ p < 1) ∨ (¬ b < 1 ∧ ¬ 1000 < b ∧ ¬ p < 1 ∧ 1000000 < p) := by
  by_cases a1 : b < 1
  · exact .inl a1
  by_cases a2 : 1000 < b
  · exact .inr (.inl ⟨a1, a2⟩)
  by_cases a3 : p < 1
  · exact .inr (.inr (.inl ⟨a1, a2, a3⟩))
  by_cases a4 : 1000000 < p
  · exact .inr (.inr (.inr ⟨a1, a2, a3, a4⟩))
  exact absurd ⟨by omega, by omega, by omega, by omega⟩ h
theorem newF_bad (w : World) (b p : Int) (h : ¬ GoodF b p) :
    Calls Try.prog 6 #[.int .i64 b, .int .i64 p] w fun e w' => e = .returned (.tuple #[.pointer none, errF 1]) ∧ w = w' := by
  rcases not_goodF h with x | ⟨x1, x2⟩ | ⟨x1, x2, x3⟩ | ⟨x1, x2, x3, x4⟩
  all_goals
    clear h
    go_enter Try.func6, Try.ntmps6
    go_wp2_with fail
    go_ret2
    exact ⟨rfl, rfl⟩
theorem newF_good (w : World) (b p : Int) (h : GoodF b p) :
    Calls Try.prog 6 #[.int .i64 b, .int .i64 p] w fun e w' => e = .returned (.tuple #[.pointer (some ⟨w.heap.size, 0, none⟩), .nilIface]) ∧ Fb 44 w' w.heap.size b p Fz.new ∧ Below w.heap.size w w' := by
  obtain ⟨b1, b2, p1, p2⟩ := h
  have x1 : ¬ b < 1 := by omega
  have x2 : ¬ 1000 < b := by omega
  have x3 : ¬ p < 1 := by omega
  have x4 : ¬ 1000000 < p := by omega
  go_enter Try.func6, Try.ntmps6
  go_wp2_with fail
  go_ret2
  exact ⟨rfl, heap_alloc_new w _, (Below.refl w.heap.size w).alloc (Nat.le_refl _) _⟩
theorem withinF_in (w : World) {n : Int} (h : WiF n) :
    Calls Try.prog 16 #[.int .i64 n] w fun e w' => e = .returned (.bool true) ∧ w = w' := by
  obtain ⟨x1, x2⟩ := h
  go_enter Try.func16, Try.ntmps16
  go_wp2_with fail
  go_ret
  exact ⟨rfl, rfl⟩
theorem withinF_out (w : World) {n : Int} (h : ¬ WiF n) :
    Calls Try.prog 16 #[.int .i64 n] w fun e w' => e = .returned (.bool false) ∧ w = w' := by
  rcases wif_out h with x | ⟨x1, x2⟩
  · have x1 : ¬ 0 ≤ n := by omega
    clear h x
    go_enter Try.func16, Try.ntmps16
    go_wp2_with fail
    go_ret
    exact ⟨rfl, rfl⟩
  · have x3 : 0 ≤ n := by omega
    have x4 : ¬ n ≤ 1099511627776 := by omega
    clear h x1 x2
    go_enter Try.func16, Try.ntmps16
    go_wp2_with fail
    go_ret
    exact ⟨rfl, rfl⟩
theorem state_walk (h : Fb 44 w a b p s) :
    Calls Try.prog 15 #[.pointer (some ⟨a, 0, none⟩)] w fun e w' => e = .returned (.int .i64 (s.st : Nat)) ∧ w = w' := by
  have c2 := h.c2
  clear h
  go_enter Try.func15, Try.ntmps15
  go_wp2
  go_ret
  exact ⟨rfl, rfl⟩
theorem good_walk (h : Fb 44 w a b p s) :
    Calls Try.prog 11 #[.pointer (some ⟨a, 0, none⟩)] w fun e w' => e = .returned (.tuple #[]) ∧ Mf 44 w w' a b p (goodF s) := by
  have f2 := h.fr 2
  have f3 := h.fr 3
  have c2 := h.c2
  have c3 := h.c3
  have M1 : Hid (Mf 44 w ((w.setCell ⟨a, 2, none⟩ (.int .i64 ((0 : Nat) : Int))).setCell ⟨a, 3, none⟩ (.int .i64 ((0 : Nat) : Int))) a b p (goodF s)) := Lib.hid (((Mf.refl h).set2 0).set3 0)
  clear h
  go_enter Try.func11, Try.ntmps11
  go_wp2_with fail
  go_end0
  exact ⟨rfl, M1.out⟩
theorem ref_well (h : Fb 26 w a b p s) :
    Calls Try.prog 12 #[.pointer (some ⟨a, 0, none⟩)] w fun e w' => e = .returned (.tuple #[]) ∧ Mf 26 w w' a b p (goodF s) := by
  have f2 := h.fr 2
  have f3 := h.fr 3
  have c2 := h.c2
  have c3 := h.c3
  have M1 : Hid (Mf 26 w ((w.setCell ⟨a, 2, none⟩ (.int .i64 ((0 : Nat) : Int))).setCell ⟨a, 3, none⟩ (.int .i64 ((0 : Nat) : Int))) a b p (goodF s)) := Lib.hid (((Mf.refl h).set2 0).set3 0)
  clear h
  go_enter Try.func12, Try.ntmps12
  go_wp2_with fail
  go_end0
  exact ⟨rfl, M1.out⟩
end
end Go.Proofs.Ytihloamiibelgaa
