/-
  Layer 22 (backoff): a wait behind a pointer, the program's and the document's; New, Good, Fails.
-/
import Derived.Test.YtkomhdlblhhdgaaBackoffPure
import Derived.Test.YtkomhdlblhhdgaaKeeps
import Derived.Deep.QuietTactic
import Derived.BigQuiet
import Derived.RegionTactic
import Derived.Deep.RegionLaw
import Derived.Deep.LoopGhost
import Derived.Lib.MinMax
namespace Go.Proofs.Ytkomhdlblhhdgaa
open Go.ChangeShapes Go.WideShapes Go.ChangeAt Go.RowKit
set_option linter.unusedVariables false

/-- The program's wait behind a pointer at block a, behind n failures. -/
def Wp (w : World) (a : Nat) (b l : Int) (n : Nat) : Prop :=
  w.heap[a]? = some (.cells #[.int .i64 b, .int .i64 l, .int .i64 (n : Nat)] 37 (0, 0))
/-- The document's. -/
def Wr (w : World) (a : Nat) (b l : Int) (n : Nat) : Prop :=
  w.heap[a]? = some (.cells #[.int .i64 b, .int .i64 l, .int .i64 (n : Nat)] 26 (0, 0))
section
variable {w w' : World} {a : Nat} {b l : Int} {n : Nat}
theorem Wp.c0 (h : Wp w a b l n) : w.cell? ⟨a, 0, none⟩ = some (.int .i64 b) := cell_of_block h
theorem Wp.c1 (h : Wp w a b l n) : w.cell? ⟨a, 1, none⟩ = some (.int .i64 l) := cell_of_block h
theorem Wp.c2 (h : Wp w a b l n) : w.cell? ⟨a, 2, none⟩ = some (.int .i64 (n : Nat)) := cell_of_block h
theorem Wp.fr (h : Wp w a b l n) (o : Nat) : w.frozen? ⟨a, o, none⟩ = false := frozen_of_block h
theorem Wp.lt (h : Wp w a b l n) : a < w.heap.size := lt_of_block h
theorem Wp.keeps {F : Nat → Prop} (h : Wp w a b l n) (k : Keeps F w w') (ha : ¬ F a) : Wp w' a b l n := keeps_out k h ha
theorem Wp.still (h : Wp w a b l n) (k : Below w.heap.size w w') : Wp w' a b l n := h.keeps (Keeps.of_below k (Nat.le_refl _) (fun _ => False)) (fun e => e)
theorem Wp.drewN (h : Wp w a b l n) (q : Nat) : Wp (w.drewN q) a b l n := h
theorem Wp.set2 (h : Wp w a b l n) (x : Nat) : Wp (w.setCell ⟨a, 2, none⟩ (.int .i64 (x : Nat))) a b l x := by unfold Wp at *; rw [heap_set_same h]; rfl
theorem Wr.c0 (h : Wr w a b l n) : w.cell? ⟨a, 0, none⟩ = some (.int .i64 b) := cell_of_block h
theorem Wr.c1 (h : Wr w a b l n) : w.cell? ⟨a, 1, none⟩ = some (.int .i64 l) := cell_of_block h
theorem Wr.c2 (h : Wr w a b l n) : w.cell? ⟨a, 2, none⟩ = some (.int .i64 (n : Nat)) := cell_of_block h
theorem Wr.fr (h : Wr w a b l n) (o : Nat) : w.frozen? ⟨a, o, none⟩ = false := frozen_of_block h
theorem Wr.lt (h : Wr w a b l n) : a < w.heap.size := lt_of_block h
theorem Wr.keeps {F : Nat → Prop} (h : Wr w a b l n) (k : Keeps F w w') (ha : ¬ F a) : Wr w' a b l n := keeps_out k h ha
theorem Wr.still (h : Wr w a b l n) (k : Below w.heap.size w w') : Wr w' a b l n := h.keeps (Keeps.of_below k (Nat.le_refl _) (fun _ => False)) (fun e => e)
theorem Wr.drewN (h : Wr w a b l n) (q : Nat) : Wr (w.drewN q) a b l n := h
theorem Wr.set2 (h : Wr w a b l n) (x : Nat) : Wr (w.setCell ⟨a, 2, none⟩ (.int .i64 (x : Nat))) a b l x := by unfold Wr at *; rw [heap_set_same h]; rfl
/-- What a call makes of the program's wait. -/
structure Mwp (w w' : World) (a : Nat) (b l : Int) (n : Nat) : Prop where
  p : Wp w' a b l n
  kp : Keeps (fun g => g = a) w w'
theorem Mwp.refl (h : Wp w a b l n) : Mwp w w a b l n := ⟨h, Keeps.refl _ _⟩
theorem Mwp.drewN (h : Mwp w w' a b l n) (q : Nat) : Mwp w (w'.drewN q) a b l n := ⟨h.p, h.kp.drewN q⟩
theorem Mwp.set2 (h : Mwp w w' a b l n) (x : Nat) : Mwp w (w'.setCell ⟨a, 2, none⟩ (.int .i64 (x : Nat))) a b l x := ⟨h.p.set2 x, h.kp.set _ _ (.inl rfl)⟩
/-- .. and of the document's. -/
structure Mwr (w w' : World) (a : Nat) (b l : Int) (n : Nat) : Prop where
  p : Wr w' a b l n
  kp : Keeps (fun g => g = a) w w'
theorem Mwr.refl (h : Wr w a b l n) : Mwr w w a b l n := ⟨h, Keeps.refl _ _⟩
theorem Mwr.drewN (h : Mwr w w' a b l n) (q : Nat) : Mwr w (w'.drewN q) a b l n := ⟨h.p, h.kp.drewN q⟩
theorem Mwr.set2 (h : Mwr w w' a b l n) (x : Nat) : Mwr w (w'.setCell ⟨a, 2, none⟩ (.int .i64 (x : Nat))) a b l x := ⟨h.p.set2 x, h.kp.set _ _ (.inl rfl)⟩
def errB (c : Nat) : Value := .iface 32 (.int .i64 (c : Nat))
theorem not_goodB (h : ¬ GoodB b l) : b < 1 ∨ (¬ b < 1 ∧ l < b) ∨ (¬ b < 1 ∧ ¬ l < b ∧ 1000000 < l) := by
  by_cases a1 : b < 1
  · exact .inl a1
  by_cases a2 : l < b
  · exact .inr (.inl ⟨a1, a2⟩)
  by_cases a3 : 1000000 < l
  · exact .inr (.inr ⟨a1, a2, a3⟩)
  exact absurd ⟨by omega, by omega, by omega⟩ h
theorem newB_bad (w : World) (b l : Int) (h : ¬ GoodB b l) :
    Calls Try.prog 6 #[.int .i64 b, .int .i64 l] w fun e w' => e = .returned (.tuple #[.pointer none, errB 1]) ∧ w = w' := by
  rcases not_goodB h with x | ⟨x1, x2⟩ | ⟨x1, x2, x3⟩
  all_goals
    clear h
    go_enter Try.func6, Try.ntmps6
    go_wp2_with fail
    go_ret2
    exact ⟨rfl, rfl⟩
theorem newB_good (w : World) (b l : Int) (h : GoodB b l) :
    Calls Try.prog 6 #[.int .i64 b, .int .i64 l] w fun e w' => e = .returned (.tuple #[.pointer (some ⟨w.heap.size, 0, none⟩), .nilIface]) ∧ Wp w' w.heap.size b l 0 ∧ Below w.heap.size w w' := by
  obtain ⟨b1, bl, l1⟩ := h
  have x1 : ¬ b < 1 := by omega
  have x2 : ¬ l < b := by omega
  have x3 : ¬ 1000000 < l := by omega
  go_enter Try.func6, Try.ntmps6
  go_wp2_with fail
  go_ret2
  exact ⟨rfl, heap_alloc_new w _, (Below.refl w.heap.size w).alloc (Nat.le_refl _) _⟩
theorem fails_walk (h : Wp w a b l n) :
    Calls Try.prog 11 #[.pointer (some ⟨a, 0, none⟩)] w fun e w' => e = .returned (.int .i64 (n : Nat)) ∧ w = w' := by
  have c2 := h.c2
  clear h
  go_enter Try.func11, Try.ntmps11
  go_wp2
  go_ret
  exact ⟨rfl, rfl⟩
theorem goodB_walk (h : Wp w a b l n) :
    Calls Try.prog 8 #[.pointer (some ⟨a, 0, none⟩)] w fun e w' => e = .returned (.tuple #[]) ∧ Mwp w w' a b l 0 := by
  have c2 := h.c2
  have f2 := h.fr 2
  have M1 : Hid (Mwp w (w.setCell ⟨a, 2, none⟩ (.int .i64 ((0 : Nat) : Int))) a b l 0) := Lib.hid ((Mwp.refl h).set2 0)
  clear h
  go_enter Try.func8, Try.ntmps8
  go_wp2_with fail
  go_end0
  exact ⟨rfl, M1.out⟩
set_option maxRecDepth 100000 in
theorem whole_walk (h : Wp w a b l n) (g : GoodB b l) (hn : n ≤ 1000) :
    Calls Try.prog 12 #[.pointer (some ⟨a, 0, none⟩)] w fun e w' => e = .returned (.int .i64 (bwZ b l n)) ∧ w = w' := by
  have c0 := h.c0
  have c1 := h.c1
  have c2 := h.c2
  have HG := Lib.hid g
  have l1 := g.l1
  obtain ⟨q, hq⟩ : ∃ q, bwZ b l n = q := ⟨_, rfl⟩
  have HQ := Lib.hid hq
  rw [hq]
  clear h g hq
  go_enter Try.func12, Try.ntmps12
  go_wp2_with fail
  go_loopg [3, 4] n (fun k s3 s4 wx => ∃ (i : Nat) (v : Int), s3 = .int .i64 v ∧ s4 = .int .i64 (k : Nat) ∧ Hid (i + k = n ∧ Dbl b l i v) ∧ Hid (w = wx))
  case atStart => exact ⟨0, b, rfl, rfl, Lib.hid ⟨by omega, Dbl.start HG.out⟩, Lib.hid rfl⟩
  case round =>
    obtain ⟨i, v, rfl, rfl, HV, HW⟩ := hrel
    obtain rfl := HW.out
    cases gk with
    | zero =>
      have e : min v l = q := by rw [← HQ.out]; obtain rfl : n = i := by have := HV.out.1; omega
                                 exact HV.out.2.e
      go_wp2_with fail
      go_ret
      exact ⟨rfl, rfl⟩
    | succ k =>
      by_cases hv : v < l
      · have NX := Lib.hid (Dbl.next HG.out HV.out.2 hv)
        have v1 := HV.out.2.v1
        have hk : k ≤ 1000 := by have := HV.out.1; omega
        have z1 : IntKind.i64.wrap (v * 2) = v * 2 := by rw [IntKind.wrap_i64]; omega
        go_wp2_with fail
        go_roundg k
        case rel => exact ⟨i + 1, v * 2, rfl, by go_num, Lib.hid ⟨by have := HV.out.1; omega, NX.out⟩, Lib.hid rfl⟩
        case measure => omega
      · have e : min v l = q := by rw [← HQ.out]; exact HV.out.2.top HG.out hv (by have := HV.out.1; omega)
        go_wp2_with fail
        go_ret
        exact ⟨rfl, rfl⟩
theorem wrap_jit (j : Int) {w : Int} (h1 : 1 ≤ w) (h2 : w ≤ 1000000) : wrap64 (w - max j 0 % (w / 2 + 1)) = jitZ j w := by
  have e1 := Int.emod_nonneg (max j 0) (show w / 2 + 1 ≠ 0 by omega)
  have e2 := Int.emod_lt_of_pos (max j 0) (show 0 < w / 2 + 1 by omega)
  unfold jitZ
  generalize max j 0 % (w / 2 + 1) = x at *
  unfold wrap64
  omega
set_option maxRecDepth 100000 in
theorem fail_walk (h : Wp w a b l n) (g : GoodB b l) (hn : n ≤ 1000) (j : Int) (j0 : -9223372036854775808 ≤ j) (j1 : j ≤ 9223372036854775807) :
    Calls Try.prog 9 #[.pointer (some ⟨a, 0, none⟩), .int .i64 j] w fun e w' => e = .returned (.int .i64 (jitZ j (bwZ b l n))) ∧ Mwp w w' a b l (n + 1) := by
  have CW := Lib.hid (whole_walk h g hn)
  have c2 := h.c2
  have f2 := h.fr 2
  have M1 : Hid (Mwp w (w.setCell ⟨a, 2, none⟩ (.int .i64 ((n + 1 : Nat) : Int))) a b l (n + 1)) := Lib.hid ((Mwp.refl h).set2 (n + 1))
  obtain ⟨W1, W2⟩ := bw_bd g n
  have b1 := g.b1
  have l1 := g.l1
  obtain ⟨q, hq⟩ : ∃ q, bwZ b l n = q := ⟨_, rfl⟩
  rw [hq] at CW W1 W2 ⊢
  have HJ := Lib.hid (wrap_jit j (w := q) (by omega) (by omega))
  clear h g hq
  go_enter Try.func9, Try.ntmps9
  go_wp2_with fail
  refine CW.out.mono ?_
  rintro e w1 ⟨rfl, rfl⟩
  go_wp2_with fail
  go_ret
  exact ⟨congrArg (fun x => Ending.returned (.int .i64 x)) HJ.out, M1.out⟩
set_option maxRecDepth 100000 in
theorem ref_fail (h : Wr w a b l n) (g : GoodB b l) (hn : n ≤ 1000) (j : Int) (j0 : -9223372036854775808 ≤ j) (j1 : j ≤ 9223372036854775807) :
    Calls Try.prog 10 #[.pointer (some ⟨a, 0, none⟩), .int .i64 j] w fun e w' => e = .returned (.int .i64 (jitZ j (bwZ b l n))) ∧ Mwr w w' a b l (n + 1) := by
  have c0 := h.c0
  have c1 := h.c1
  have c2 := h.c2
  have f2 := h.fr 2
  have M1 : Hid (Mwr w (w.setCell ⟨a, 2, none⟩ (.int .i64 ((n + 1 : Nat) : Int))) a b l (n + 1)) := Lib.hid ((Mwr.refl h).set2 (n + 1))
  obtain ⟨W1, W2⟩ := bw_bd g n
  have b1 := g.b1
  have l1 := g.l1
  have HG := Lib.hid g
  obtain ⟨q, hq⟩ : ∃ q, bwZ b l n = q := ⟨_, rfl⟩
  have HQ := Lib.hid hq
  rw [hq] at W1 W2 ⊢
  have HJ := Lib.hid (wrap_jit j (w := q) (by omega) (by omega))
  obtain ⟨r, hr⟩ : ∃ r, jitZ j q = r := ⟨_, rfl⟩
  have HR := Lib.hid hr
  rw [hr] at HJ ⊢
  clear h g hq hr
  go_enter Try.func10, Try.ntmps10
  go_wp2_with fail
  go_loopg [5, 6] 40 (fun k s5 s6 wx => ∃ (i : Nat) (v : Int), s5 = .int .i64 v ∧ s6 = .int .i64 (i : Nat) ∧ i ≤ n ∧ Hid (i + k = 40 ∧ v = bwZ b l i) ∧ Hid (w = wx))
  case atStart => exact ⟨0, b, rfl, rfl, Nat.zero_le _, Lib.hid ⟨rfl, rfl⟩, Lib.hid rfl⟩
  case round =>
    obtain ⟨i, v, rfl, rfl, hi, HV, HW⟩ := hrel
    obtain rfl := HW.out
    by_cases hk : i < n ∧ i < 40
    · obtain ⟨k1, k2⟩ := hk
      obtain ⟨V1, V2⟩ := bw_bd HG.out i
      have HW1 := HV.out.2
      rw [← HW1] at V1 V2
      cases gk with
      | zero => exact absurd HV.out.1 (by omega)
      | succ k =>
        have HI := Lib.hid HV.out.1
        have N1 : Hid (min (v * 2) l = bwZ b l (i + 1)) := Lib.hid (by rw [HW1]; rfl)
        have z1 : IntKind.i64.wrap (v * 2) = v * 2 := by rw [IntKind.wrap_i64]; omega
        clear HW1 HV HQ HJ HR M1
        by_cases hv : l < v * 2
        · have E1 := Lib.hid (show l = bwZ b l (i + 1) by rw [← N1.out]; omega)
          clear N1
          go_wp2_with fail
          go_roundg k
          case rel => exact ⟨i + 1, l, rfl, by go_num, by omega, Lib.hid ⟨by have := HI.out; omega, E1.out⟩, Lib.hid rfl⟩
          case measure => omega
        · have E1 := Lib.hid (show v * 2 = bwZ b l (i + 1) by rw [← N1.out]; omega)
          clear N1
          go_wp2_with fail
          go_roundg k
          case rel => exact ⟨i + 1, v * 2, rfl, by go_num, by omega, Lib.hid ⟨by have := HI.out; omega, E1.out⟩, Lib.hid rfl⟩
          case measure => omega
    · have e : v = q := by
        rw [← HQ.out, HV.out.2]
        rcases Nat.lt_or_ge i n with x | x
        · rw [bw_40 HG.out (n := i) (by omega), bw_40 HG.out (n := n) (by omega)]
        · rw [show i = n by omega]
      subst e
      have E0 : Hid (j < 0 → v = r) := Lib.hid (fun y => by rw [← HR.out]; unfold jitZ; rw [show max j 0 = 0 by omega, Int.zero_emod]; omega)
      have E1 : Hid (¬ j < 0 → wrap64 (v - j % (v / 2 + 1)) = r) := Lib.hid (fun y => by have := HJ.out; rwa [show max j 0 = j by omega] at this)
      clear HJ HR HV HQ
      rcases Nat.lt_or_ge i n with x | x
      · have y1 : ¬ (i : Int) < 40 := by omega
        by_cases hj : j < 0
        · go_wp2_with fail
          go_ret
          exact ⟨congrArg (fun x => Ending.returned (.int .i64 x)) (E0.out hj), M1.out⟩
        · go_wp2_with fail
          go_ret
          exact ⟨congrArg (fun x => Ending.returned (.int .i64 x)) (E1.out (by omega)), M1.out⟩
      · have y1 : ¬ (i : Int) < n := by omega
        by_cases hj : j < 0
        · go_wp2_with fail
          go_ret
          exact ⟨congrArg (fun x => Ending.returned (.int .i64 x)) (E0.out hj), M1.out⟩
        · go_wp2_with fail
          go_ret
          exact ⟨congrArg (fun x => Ending.returned (.int .i64 x)) (E1.out (by omega)), M1.out⟩
theorem refB_yes (h : Wr w a b l n) (g : GoodB b l) :
    Calls Try.prog 7 #[.pointer (some ⟨a, 0, none⟩)] w fun e w' => e = .returned (.bool true) ∧ ∃ q, w' = w.drewN q := by
  have c0 := h.c0
  have c1 := h.c1
  obtain ⟨b1, bl, l1⟩ := g
  clear h
  go_enter Try.func7, Try.ntmps7
  go_wp2_with fail
  go_quiet (fail)
  go_wp2_with fail
  go_ret
  exact ⟨rfl, _, rfl⟩
theorem refB_no (h : Wr w a b l n) (g : ¬ GoodB b l) :
    Calls Try.prog 7 #[.pointer (some ⟨a, 0, none⟩)] w fun e w' => e = .returned (.bool false) ∧ ∃ q, w' = w.drewN q := by
  have c0 := h.c0
  have c1 := h.c1
  rcases not_goodB g with x | ⟨x1, x2⟩ | ⟨x1, x2, x3⟩
  · have y := Lib.hid (decide_eq_false (p := 1 ≤ b) (by omega))
    clear h g x
    go_enter Try.func7, Try.ntmps7
    go_wp2_with fail
    have y := y.out
    go_quiet (fail)
    go_wp2_with fail
    go_ret
    exact ⟨rfl, _, rfl⟩
  · have y := Lib.hid (decide_eq_false (p := b ≤ l) (by omega))
    clear h g x2
    go_enter Try.func7, Try.ntmps7
    go_wp2_with fail
    have y := y.out
    go_quiet (fail)
    go_wp2_with fail
    go_ret
    exact ⟨rfl, _, rfl⟩
  · have y := Lib.hid (decide_eq_false (p := l ≤ 1000000) (by omega))
    clear h g x3
    go_enter Try.func7, Try.ntmps7
    go_wp2_with fail
    go_quiet (fail)
    go_wp2_with fail
    go_ret
    exact ⟨congrArg (fun x => Ending.returned (.bool x)) y.out, _, rfl⟩
end
end Go.Proofs.Ytkomhdlblhhdgaa
