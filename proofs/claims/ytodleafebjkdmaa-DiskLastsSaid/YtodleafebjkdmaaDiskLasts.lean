/-
  Layer 8: the law DiskLasts.
-/
import Derived.Test.YtodleafebjkdmaaDiskUp
namespace Go.Proofs.Ytodleafebjkdmaa
open Go.ChangeShapes Go.WideShapes Go.ChangeAt Go.RowKit
set_option linter.unusedVariables false

section
variable (a b c : List UInt8) (k : Nat)
def laL1 : List Pt := [⟨1, a, 0⟩]
def laL2 : List Pt := [⟨1, a, a.length⟩]
def laL3 : List Pt := [⟨1, a ++ b, a.length⟩]
def laL4 : List Pt := [⟨1, a ++ b, a.length⟩, ⟨2, c, 0⟩]
def laX : List UInt8 := a ++ b.take (min k b.length)
def laY : List UInt8 := c.take (min (k - min k b.length) c.length)
def laL5 : List Pt := [⟨1, laX a b k, a.length + min k b.length⟩, ⟨2, laY b c k, min (k - min k b.length) c.length⟩]
theorem la1 (h : a.length + b.length + c.length ≤ 5000) : opAppend 6000 false [] 1 a = (0, laL1 a) := by
  unfold opAppend
  rw [if_neg (by simp), if_neg (by omega), if_neg (by simp only [used]; omega)]
  rfl
theorem la2 : opSync false (laL1 a) 1 = (0, laL2 a) := rfl
theorem la3 (h : a.length + b.length + c.length ≤ 5000) : opAppend 6000 false (laL2 a) 1 b = (0, laL3 a b) := by
  unfold opAppend
  rw [if_neg (by simp), if_neg (by omega), if_neg (by simp only [used, laL2]; omega)]
  rfl
theorem la4 (h : a.length + b.length + c.length ≤ 5000) : opAppend 6000 false (laL3 a b) 2 c = (0, laL4 a b c) := by
  unfold opAppend
  rw [if_neg (by simp), if_neg (by omega), if_neg (by simp only [used, laL3, List.length_append]; omega)]
  rfl
theorem la5 (keep : Int) : opCrash false (laL4 a b c) keep = laL5 a b c (keepN keep) := by
  unfold opCrash laL4 laL5 laX laY
  rw [if_neg (by simp)]
  simp only [crash, List.length_append, Nat.sub_zero, Nat.zero_add, show a.length + b.length - a.length = b.length by omega, List.take_length_add_append]
theorem la6 : opRead false (laL5 a b c k) 1 = (0, laX a b k) := rfl
theorem la7 : opRead false (laL5 a b c k) 2 = (0, laY b c k) := rfl
theorem lenX : (laX a b k).length = a.length + min k b.length := by
  unfold laX
  rw [List.length_append, List.length_take]; omega
theorem lenY : (laY b c k).length = min (k - min k b.length) c.length := by
  unfold laY
  rw [List.length_take]; omega
end

theorem below_drewN {B : Nat} {a w : World} (h : Below B a w) (n : Nat) : Below B a (w.drewN n) := ⟨h.os, h.tape, h.output, h.size, h.block⟩
set_option maxRecDepth 100000 in
set_option maxHeartbeats 2000000 in
theorem lasts_walk (a b c : List UInt8) (A B C : Option Addr) (ca cb cc : Nat) (keep : Int) (W : World) (ra : RdS W A ca a) (rb : RdS W B cb b) (rc : RdS W C cc c)
    (ha : a.length ≤ 1000000000000000) (hb : b.length ≤ 1000000000000000) (hc : c.length ≤ 1000000000000000) (hk0 : -9223372036854775808 ≤ keep) (hk1 : keep ≤ 9223372036854775807) :
    Calls Try.prog 4 #[.slice A a.length ca, .slice B b.length cb, .slice C c.length cc, .int .i64 keep] W (Holds W) := by
  have CU := Lib.hid (up_disk W)
  by_cases hs : 5000 < a.length + b.length + c.length
  · have h1 : (5000 : Int) < (a.length : Int) + b.length + c.length := by omega
    clear ra rb rc
    go_enter Try.func4, Try.ntmps4
    go_wp2_with fail
    refine CU.out.mono ?_
    rintro e w1 ⟨rfl, b1⟩
    have B1 := Lib.hid b1
    clear b1 CU
    go_wp2_with fail
    go_ret
    exact ⟨rfl, B1.out⟩
  have hs : a.length + b.length + c.length ≤ 5000 := by omega
  have h1 : ¬ (5000 : Int) < (a.length : Int) + b.length + c.length := by omega
  have RA := Lib.hid ra
  have RB := Lib.hid rb
  have RC := Lib.hid rc
  clear ra rb rc
  have HS := Lib.hid hs
  go_enter Try.func4, Try.ntmps4
  go_wp2_with fail
  refine CU.out.mono ?_
  rintro e w1 ⟨rfl, b1⟩
  have C1 := Lib.hid (Own8.new (W := W) 6000 (by omega) (by omega) b1)
  clear b1 CU
  have I0 : Hid (Inv 6000 []) := Lib.hid (Inv.nil (by omega))
  go_wp2_with fail
  refine C1.out.mono ?_
  rintro e w2 ⟨d, rfl, O2, _⟩
  have O2 := Lib.hid O2
  have C2 := Lib.hid (O2.out.append 1 (RA.out.below O2.out.choose_spec.2.2 (Nat.le_refl _)) I0.out (by simp) (by omega) (by omega))
  have I1 : Hid (Inv 6000 (laL1 a)) := Lib.hid (by have := append_inv (dn := false) (n := 1) (bs := a) I0.out (by omega); rw [la1 a b c hs] at this; exact this)
  rw [la1 a b c hs] at C2
  clear C1 I0
  go_wp2_with fail
  refine C2.out.mono ?_
  rintro e w3 ⟨rfl, O3⟩
  simp only [ErrV_0]
  have O3 := Lib.hid O3
  have C3 := Lib.hid (O3.out.sync 1 I1.out (by simp [laL1]) (by omega) (by omega))
  have I2 : Hid (Inv 6000 (laL2 a)) := Lib.hid (by have := sync_inv (dn := false) (n := 1) I1.out; rw [la2] at this; exact this)
  rw [la2] at C3
  clear C2 I1
  go_wp2_with fail
  refine C3.out.mono ?_
  rintro e w4 ⟨rfl, O4⟩
  simp only [ErrV_0]
  have O4 := Lib.hid O4
  have C4 := Lib.hid (O4.out.append 1 (RB.out.below O4.out.choose_spec.2.2 (Nat.le_refl _)) I2.out (by simp [laL2]) (by omega) (by omega))
  have I3 : Hid (Inv 6000 (laL3 a b)) := Lib.hid (by have := append_inv (dn := false) (n := 1) (bs := b) I2.out (by omega); rw [la3 a b c hs] at this; exact this)
  rw [la3 a b c hs] at C4
  clear C3 I2
  go_wp2_with fail
  refine C4.out.mono ?_
  rintro e w5 ⟨rfl, O5⟩
  simp only [ErrV_0]
  have O5 := Lib.hid O5
  have C5 := Lib.hid (O5.out.append 2 (RC.out.below O5.out.choose_spec.2.2 (Nat.le_refl _)) I3.out (by simp [laL3]) (by omega) (by omega))
  have I4 : Hid (Inv 6000 (laL4 a b c)) := Lib.hid (by have := append_inv (dn := false) (n := 2) (bs := c) I3.out (by omega); rw [la4 a b c hs] at this; exact this)
  rw [la4 a b c hs] at C5
  clear C4 I3
  go_wp2_with fail
  refine C5.out.mono ?_
  rintro e w6 ⟨rfl, O6⟩
  simp only [ErrV_0]
  have O6 := Lib.hid O6
  have C6 := Lib.hid (O6.out.crash keep I4.out (by simp [laL4]) hk1)
  have I5 : Hid (Inv 6000 (laL5 a b c (keepN keep))) := Lib.hid (by have := crash_inv (dn := false) (k := keep) I4.out; rw [la5] at this; exact this)
  rw [la5] at C6
  clear C5 I4
  go_wp2_with fail
  refine C6.out.mono ?_
  rintro e w7 ⟨rfl, O7⟩
  have O7 := Lib.hid O7
  have C7 := Lib.hid O7.out.up
  clear C6
  go_wp2_with fail
  refine C7.out.mono ?_
  rintro e w8 ⟨rfl, O8⟩
  have O8 := Lib.hid O8
  have C8 := Lib.hid (O8.out.read 1 I5.out (by omega) (by omega))
  rw [la6] at C8
  clear C7
  go_wp2_with fail
  refine C8.out.mono ?_
  rintro e w9 ⟨X, cx, rfl, rx, O9, _⟩
  have HX := Lib.hid (lenX a b (keepN keep))
  have HY := Lib.hid (lenY b c (keepN keep))
  have EX : Hid (laX a b (keepN keep) = a ++ b.take (min (keepN keep) b.length)) := Lib.hid rfl
  have EY : Hid (laY b c (keepN keep) = c.take (min (keepN keep - min (keepN keep) b.length) c.length)) := Lib.hid rfl
  have O9 := Lib.hid O9
  have R9 := Lib.hid rx
  have C9 := Lib.hid (O9.out.read 2 I5.out (by omega) (by omega))
  rw [la7] at C9
  simp only [ErrV_0]
  generalize laX a b (keepN keep) = x at *
  generalize laY b c (keepN keep) = y at *
  clear C8 rx
  go_wp2_with fail
  refine C9.out.mono ?_
  rintro e w10 ⟨Y, cy, rfl, ry, O10, b10⟩
  simp only [ErrV_0]
  have bW := O10.choose_spec.2.2
  have RX := R9.out.below b10 (Nat.le_refl _)
  have cvx : ∀ n, (convert 34 9 (.slice X x.length cx)).run Try.prog (w10.drewN n) = .ok (.string ⟨x.toArray⟩) (w10.drewN n) := fun n => rd_conv (RX.drew n)
  have cvy : ∀ n, (convert 34 9 (.slice Y y.length cy)).run Try.prog (w10.drewN n) = .ok (.string ⟨y.toArray⟩) (w10.drewN n) := fun n => rd_conv (ry.drew n)
  have cva : ∀ n, (convert 34 9 (.slice A a.length ca)).run Try.prog (w10.drewN n) = .ok (.string ⟨a.toArray⟩) (w10.drewN n) := fun n => rd_conv ((RA.out.below bW (Nat.le_refl _)).drew n)
  obtain ⟨m1, em1⟩ : ∃ m, min (keepN keep) b.length = m := ⟨_, rfl⟩
  obtain ⟨m2, em2⟩ : ∃ m, min (keepN keep - m1) c.length = m := ⟨_, rfl⟩
  rw [em1] at HX HY EX EY
  rw [em2] at HY EY
  have cvb : ∀ n, (convert 34 9 (.slice B m1 cb)).run Try.prog (w10.drewN n) = .ok (.string ⟨(b.take m1).toArray⟩) (w10.drewN n) := fun n => by
    have := rd_conv (((RB.out.below bW (Nat.le_refl _)).drew n).take m1)
    rw [show (b.take m1).length = m1 by rw [List.length_take]; omega] at this
    exact this
  have hyl := HY.out
  have cvc : ∀ n, (convert 34 9 (.slice C y.length cc)).run Try.prog (w10.drewN n) = .ok (.string ⟨y.toArray⟩) (w10.drewN n) := fun n => by
    have := rd_conv (((RC.out.below bW (Nat.le_refl _)).drew n).take m2)
    rw [show (c.take m2).length = y.length by rw [List.length_take]; omega, ← EY.out] at this
    exact this
  have sb : ∀ w, (Instr.slice 34 (.slice B b.length cb) none (some (.int .i64 ((x.length : Int) - (a.length : Int)))) none).run Try.prog w = .ok (.slice B m1 cb) w := fun w => by
    rw [show (x.length : Int) - (a.length : Int) = ((m1 : Nat) : Int) by have := HX.out; omega]
    exact slice_to B b.length cb m1 (by have := RB.out.le; omega) RB.out.nn w
  have sc : ∀ w, (Instr.slice 34 (.slice C c.length cc) none (some (.int .i64 (y.length : Int))) none).run Try.prog w = .ok (.slice C y.length cc) w := fun w => slice_to C c.length cc y.length (by have := RC.out.le; omega) RC.out.nn w
  have ecat : (⟨a.toArray⟩ : ByteArray) ++ ⟨(b.take m1).toArray⟩ = ⟨x.toArray⟩ := by
    apply ByteArray.ext
    rw [ByteArray.data_append, EX.out]
    simp
  have hx1 : x.length ≤ a.length + m1 := by have := HX.out; omega
  have hx2 : a.length + m1 ≤ x.length := by have := HX.out; omega
  have hm1 : m1 ≤ b.length := by omega
  have hy1 : y.length ≤ c.length := by omega
  have i1 : ¬ ((x.length : Int) < a.length) := by omega
  have i2 : ¬ ((a.length : Int) + b.length < x.length) := by omega
  have i3 : ¬ ((c.length : Int) < y.length) := by omega
  have HB := Lib.hid bW
  have EM1 := Lib.hid em1
  have EM2 := Lib.hid em2
  clear bW RX ry b10 C9 em1 em2 hyl
  go_wp2_with fail
  all_goals go_quiet (fail)
  all_goals go_wp2_with fail
  all_goals go_ret
  all_goals
    have f1 := HX.out
    have f2 := HY.out
    have f3 := EM1.out
    have f4 := EM2.out
    unfold keepN at f3 f4
    refine ⟨ret_bool ?_, below_drewN HB.out _⟩
    first
      | rfl
      | (exfalso; omega)
      | (simp only [Bool.or_eq_true, beq_iff_eq]; omega)
end Go.Proofs.Ytodleafebjkdmaa
