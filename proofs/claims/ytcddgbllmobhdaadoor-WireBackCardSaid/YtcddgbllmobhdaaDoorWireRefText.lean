/-
  Layer 6 (wire): the document's own Reader: its Whole, Text, End.
-/
import Derived.Test.YtcddgbllmobhdaaDoorWireRefRead
import Derived.Test.YtcddgbllmobhdaaDoorWireText
import Derived.Test.YtcddgbllmobhdaaDoorWireEnd
namespace Go.Proofs.YtcddgbllmobhdaaDoor
open Go.ChangeShapes Go.WideShapes Go.ChangeAt Go.RowKit
set_option linter.unusedVariables false

def Wholef (w : World) (b : Nat) (A : Option Addr) (cap : Nat) (l : List UInt8) (r : Rs) (e : Ending) (w' : World) : Prop :=
  e = .returned (.int .i64 (unfoldN (rsNum l r).1)) ∧ Mf w b A cap l (rsNum l r).2 w'
theorem refReadWhole (w : World) (b : Nat) (A : Option Addr) (cap : Nat) (l : List UInt8) (r : Rs) (k0 p : Nat) (h : Rfr w b A cap l k0 r.bad p) (ht : Tells r k0 r.bad p) (hl : l.length ≤ 100000) (hat : r.at_ ≤ l.length) :
    Calls Tryd.prog 18 #[.pointer (some ⟨b, 0, none⟩)] w (Wholef w b A cap l r) := by
  have C := refReadNumber w b A cap l r k0 p h ht hl
  have hn := (rsNum_le hat).2
  unfold Numf at C
  unfold Wholef
  generalize (rsNum l r).1 = n at C hn ⊢
  have C := Lib.hid C
  clear h ht
  by_cases hp : n % 2 = 1
  · have HE := Lib.hid (unfold_odd hp)
    have hb : ((n : Int) % 2 == 1) = true := beq_iff_eq.2 (by omega)
    clear hp
    go_enter Tryd.func18, Tryd.ntmps18
    go_wp2_with ((go_at_call 16; refine C.out.mono ?_); rintro e w1 ⟨rfl, hm⟩)
    go_ret
    exact ⟨ret_int HE.out.symm, hm⟩
  · have HE := Lib.hid (unfold_even hp)
    have hb : ((n : Int) % 2 == 1) = false := beq_eq_false_iff_ne.2 (by omega)
    clear hp
    go_enter Tryd.func18, Tryd.ntmps18
    go_wp2_with ((go_at_call 16; refine C.out.mono ?_); rintro e w1 ⟨rfl, hm⟩)
    go_ret
    exact ⟨ret_int HE.out.symm, hm⟩

theorem rsText_num_bad (l : List UInt8) (r : Rs) (most : Int) (h : (rsNum l r).2.bad = true) : rsText l most r = ([], (rsNum l r).2) := by
  unfold rsText
  unfold rsNum at h ⊢
  obtain ⟨k, bad⟩ := r
  cases bad with
  | true => rfl
  | false =>
    simp only at h ⊢
    cases hd : decF 0 0 (l.drop k) with
    | none => rfl
    | some p => rw [hd] at h; cases h
theorem rsNum_bad_false (l : List UInt8) (r : Rs) (h : (rsNum l r).2.bad = false) : ∃ n k, r.bad = false ∧ decF 0 0 (l.drop r.at_) = some (n, k) ∧ rsNum l r = (n, ⟨r.at_ + k, false⟩) := by
  unfold rsNum at h ⊢
  obtain ⟨k, bad⟩ := r
  cases bad with
  | true => cases h
  | false =>
    simp only at h ⊢
    cases hd : decF 0 0 (l.drop k) with
    | none => rw [hd] at h; cases h
    | some p => exact ⟨p.1, p.2, trivial, rfl, rfl⟩
def Textf (w : World) (b : Nat) (A : Option Addr) (cap : Nat) (l : List UInt8) (r : Rs) (most : Int) (e : Ending) (w' : World) : Prop :=
  e = .returned (.string ⟨(rsText l most r).1.toArray⟩) ∧ Mf w b A cap l (rsText l most r).2 w'
set_option maxRecDepth 100000 in
set_option maxHeartbeats 1000000 in
theorem refReadText (w : World) (b : Nat) (A : Option Addr) (cap : Nat) (l : List UInt8) (r : Rs) (most : Int) (k0 p : Nat) (h : Rfr w b A cap l k0 r.bad p) (ht : Tells r k0 r.bad p) (hl : l.length ≤ 100000) (hat : r.at_ ≤ l.length)
    (m0 : -9223372036854775808 ≤ most) (m1 : most ≤ 9223372036854775807) :
    Calls Tryd.prog 20 #[.pointer (some ⟨b, 0, none⟩), .int .i64 most] w (Textf w b A cap l r most) := by
  have C := refReadNumber w b A cap l r k0 p h ht hl
  have c1 := h.c1
  cases hb : (rsNum l r).2.bad with
  | true =>
    have HE := Lib.hid (rsText_num_bad l r most hb)
    have C := Lib.hid C
    clear h ht
    go_enter Tryd.func20, Tryd.ntmps20
    go_wp2_with fail
    refine C.out.mono ?_
    rintro e w1 ⟨rfl, g1, k1, p1, t1, r1⟩
    have G1 := Lib.hid g1
    have T1 := Lib.hid t1
    have R1 := Lib.hid r1
    have c2 := r1.c2
    rw [hb] at c2
    clear g1 t1 r1 C hb c1
    go_wp2_with fail
    go_ret
    unfold Textf
    rw [HE.out]
    exact ⟨rfl, G1.out, k1, p1, T1.out, R1.out⟩
  | false =>
    obtain ⟨n, k, hrb, hd, hN⟩ := rsNum_bad_false l r hb
    have hT := rsText_ok l r most hrb hd
    obtain ⟨d1, d2, d3, d4⟩ := dec_bound _ 0 0 n k (by omega) hd
    rw [List.length_drop] at d3
    obtain ⟨q, rb⟩ := r
    obtain rfl : rb = false := hrb
    obtain rfl : k0 = q := ht.good rfl
    have hat : k0 ≤ l.length := hat
    have d3 : k ≤ l.length - k0 := by have : k ≤ 0 + (l.length - k0) := d3; omega
    unfold Numf at C
    rw [hN] at C
    have C := Lib.hid C
    have HRLE := Lib.hid h.rd.le
    have HRNN := Lib.hid h.rd.nn
    clear h ht hb hN hd
    unfold Textf
    by_cases hm : most < 0 ∨ most < n ∨ l.length - (k0 + k) < n
    · rw [if_pos hm] at hT
      rw [hT]
      have hor : most < 0 ∨ (¬ most < 0 ∧ most < (n : Int)) ∨ (¬ most < 0 ∧ ¬ most < (n : Int) ∧ (l.length : Int) - ((k0 : Int) + (k : Int)) < (n : Int)) := by omega
      obtain ⟨z, hz⟩ : ∃ z : Nat, (l.length : Int) - ((k0 : Int) + (k : Int)) = (z : Int) := ⟨l.length - (k0 + k), by omega⟩
      have wz : Hid (IntKind.i64.wrap ((l.length : Int) - ((k0 : Int) + (k : Int))) = (z : Int)) := Lib.hid (by rw [hz, IntKind.wrap_i64]; omega)
      have wz2 : Hid (IntKind.u64.wrap (z : Int) = (z : Int)) := Lib.hid (by rw [IntKind.wrap_u64]; omega)
      rw [hz] at hor
      clear hm hT hz
      rcases hor with hc1 | hor
      · go_enter Tryd.func20, Tryd.ntmps20
        go_wp2_with fail
        refine C.out.mono ?_
        rintro e w1 ⟨rfl, g1, k1, p1, t1, r1⟩
        obtain rfl : k1 = k0 + k := t1.good rfl
        have G1 := Lib.hid g1
        have R1 := Lib.hid r1
        have c0' := r1.c0
        have c1' := r1.c1
        have c2' := r1.c2
        have c3' := r1.c3
        have f2 := r1.fz 2
        have f3 := r1.fz 3
        rw [Int.natCast_add] at c1'
        clear g1 t1 r1 C c1
        go_wp2_with fail
        go_quiet (fail)
        all_goals go_wp2
        all_goals
          go_ret
          exact ⟨rfl, grown_set (grown_set (grown_drew G1.out _) _ _ (Or.inl rfl)) _ _ (Or.inl rfl), k0 + k, k0, ⟨rfl, (fun e => by cases e), fun _ => rfl⟩, ((R1.out.drew _).mark true).place k0⟩
      · have hc1 : ¬ most < 0 := by omega
        have e1 : decide (most < 0) = false := decide_eq_false hc1
        have wm : Hid (IntKind.u64.wrap most = most) := Lib.hid (by rw [IntKind.wrap_u64]; omega)
        have hor2 : decide (most < (n : Int)) = true ∨ (decide (most < (n : Int)) = false ∧ decide (z < n) = true) := by
          rcases hor with h | h
          · exact Or.inl (decide_eq_true h.2)
          · exact Or.inr ⟨decide_eq_false h.2.1, decide_eq_true (by omega)⟩
        clear hor
        go_enter Tryd.func20, Tryd.ntmps20
        go_wp2_with fail
        refine C.out.mono ?_
        rintro e w1 ⟨rfl, g1, k1, p1, t1, r1⟩
        obtain rfl : k1 = k0 + k := t1.good rfl
        have G1 := Lib.hid g1
        have R1 := Lib.hid r1
        have c0' := r1.c0
        have c1' := r1.c1
        have c2' := r1.c2
        have c3' := r1.c3
        have f2 := r1.fz 2
        have f3 := r1.fz 3
        rw [Int.natCast_add] at c1'
        clear g1 t1 r1 C c1
        go_wp2_with fail
        have wz := wz.out
        have wz2 := wz2.out
        have wm := wm.out
        rcases hor2 with e2 | ⟨e2, e3⟩
        all_goals
          go_quiet (fail)
          all_goals clear wz wz2 wm
          all_goals go_wp2
          all_goals
            go_ret
            exact ⟨rfl, grown_set (grown_set (grown_drew G1.out _) _ _ (Or.inl rfl)) _ _ (Or.inl rfl), k0 + k, k0, ⟨rfl, (fun e => by cases e), fun _ => rfl⟩, ((R1.out.drew _).mark true).place k0⟩
    · rw [if_neg hm] at hT
      rw [hT]
      obtain ⟨z, hz⟩ : ∃ z : Nat, (l.length : Int) - ((k0 : Int) + (k : Int)) = (z : Int) := ⟨l.length - (k0 + k), by omega⟩
      have wz : Hid (IntKind.i64.wrap ((l.length : Int) - ((k0 : Int) + (k : Int))) = (z : Int)) := Lib.hid (by rw [hz, IntKind.wrap_i64]; omega)
      have wz2 : Hid (IntKind.u64.wrap (z : Int) = (z : Int)) := Lib.hid (by rw [IntKind.wrap_u64]; omega)
      have wm : Hid (IntKind.u64.wrap most = most) := Lib.hid (by rw [IntKind.wrap_u64]; omega)
      have e1 : decide (most < 0) = false := decide_eq_false (by omega)
      have e2 : decide (most < (n : Int)) = false := decide_eq_false (by omega)
      have e3 : decide (z < n) = false := decide_eq_false (by omega)
      have hfit : k0 + k + n ≤ l.length := by omega
      obtain ⟨A', hsl, hrd⟩ := slice_mid A cap l (k0 + k) n hfit HRLE.out HRNN.out
      have HRD := Lib.hid hrd
      have HSL := Lib.hid (fun w' : World => hsl w' ((k0 : Int) + (k : Int)) ((k0 : Int) + (k : Int) + (n : Int)) (by omega) (by omega))
      have wn : Hid (IntKind.i64.wrap (n : Int) = (n : Int)) := Lib.hid (by rw [IntKind.wrap_i64]; omega)
      have wn2 : Hid (IntKind.i64.wrap ((k0 : Int) + (k : Int) + (n : Int)) = (k0 : Int) + (k : Int) + (n : Int)) := Lib.hid (by rw [IntKind.wrap_i64]; omega)
      have hlen : Hid (((l.drop (k0 + k)).take n).length = n) := Lib.hid (by rw [List.length_take, List.length_drop]; omega)
      clear hm hsl hrd hz hT
      go_enter Tryd.func20, Tryd.ntmps20
      go_wp2_with fail
      refine C.out.mono ?_
      rintro e w1 ⟨rfl, g1, k1, p1, t1, r1⟩
      obtain rfl : k1 = k0 + k := t1.good rfl
      have G1 := Lib.hid g1
      have R1 := Lib.hid r1
      have c0' := r1.c0
      have c1' := r1.c1
      have c2' := r1.c2
      have f1 := r1.fz 1
      rw [Int.natCast_add] at c1'
      clear g1 t1 r1 C c1
      go_wp2_with fail
      have xz := wz.out
      have xz2 := wz2.out
      have xm := wm.out
      go_quiet (fail)
      all_goals clear xz xz2 xm
      all_goals go_wp2
      have R2 := R1.out.drew nq
      have G2 := grown_drew G1.out nq
      clear c0' c1' c2' f1
      generalize w1.drewN nq = w2 at R2 G2 ⊢
      have HR2 := Lib.hid R2
      have HG2 := Lib.hid G2
      have c0' := R2.c0
      have c1' := R2.c1
      have f1 := R2.fz 1
      rw [Int.natCast_add] at c1'
      have sl := HSL.out
      have hcv := fun q : Nat => rd_conv (HRD.out _ (HR2.out.rd.drew q))
      rw [hlen.out] at hcv
      have xn := wn.out
      have xn2 := wn2.out
      clear R2 G2
      go_quiet (fail)
      all_goals clear xn xn2
      all_goals go_wp2
      all_goals
        go_ret
        refine ⟨rfl, grown_set (grown_drew HG2.out _) _ _ (Or.inl rfl), k0 + k + n, p1, ⟨rfl, fun _ => rfl, (fun e => by cases e)⟩, ?_⟩
        have hmv := (HR2.out.drew nq).move (k0 + k + n) hfit
        rw [Int.natCast_add, Int.natCast_add] at hmv
        exact hmv
end Go.Proofs.YtcddgbllmobhdaaDoor
