/-
  Layer 12 (deficit): to pay.
-/
import Derived.Test.YtjlmefjgolbfiaaDeficitMem
namespace Go.Proofs.Ytjlmefjgolbfiaa
open Go.ChangeShapes Go.WideShapes Go.ChangeAt Go.RowKit
set_option linter.unusedVariables false

section
variable {w w' : World} {E : Nat → Prop} {a : Nat} {A : Option Addr} {cap : Nat} {vc : Value} {q : List Int} {s : Tn}
/-- What a call that pays, or doesn't, makes of turns. -/
def Paid (w : World) (E : Nat → Prop) (a : Nat) (A : Option Addr) (cap : Nat) (vc : Value) (q : List Int) (s : Tn) (t z : Int) (e : Ending) (w' : World) : Prop :=
  e = .returned (.bool (decide (z ≤ t))) ∧ Tg 44 w' E a A cap vc q ⟨s.c.set s.k (if t < z then t else t - z), s.k, true⟩ ∧ Mt a vc w w'
set_option maxRecDepth 100000 in
theorem pays_walk (h : Tg 44 w E a A cap vc q s) {x y z : Int} (hx : s.c[s.k]? = some x) (hy : q[s.k]? = some y) (x0 : 0 ≤ x) (x1 : x ≤ 1999) (y0 : 1 ≤ y) (y1 : y ≤ 1000) (z0 : 0 ≤ z) (z1 : z ≤ 1000) :
    Calls Try.prog 14 #[.pointer (some ⟨a, 0, none⟩), .int .i64 z] w (Paid w E a A cap vc q s (if s.v then x else x + y) z) := by
  obtain ⟨g, c, hv, k1, fg, hag, hEg, hg⟩ := h.at neT hx
  obtain ⟨b, o, rfl, k2, hb⟩ := h.rd.at hy
  have hga : g ≠ a := fun e => hag e.symm
  have hba : b ≠ a := fun e => hb (e ▸ h.inE a (.inl rfl))
  have hbg : b ≠ g := fun e => hb (e ▸ hEg)
  have hk1 : (s.k : Int) < s.c.length := by have := (List.getElem?_eq_some_iff.1 hx).1; omega
  have hk2 : (s.k : Int) < q.length := by have := (List.getElem?_eq_some_iff.1 hy).1; omega
  have c0 := h.c0
  have c1 := h.c1
  have c2 := h.c2
  have c3 := h.c3
  have f3 := h.fr 3
  have fg := fg s.k
  have w1 : IntKind.i64.wrap (x + y) = x + y := by rw [IntKind.wrap_i64]; omega
  have H := Lib.hid h
  have HX := Lib.hid hx
  have HV := Lib.hid hv
  clear h hx hy hb hEg
  unfold Paid
  cases hvv : s.v with
  | true =>
    have w2 : IntKind.i64.wrap (x - z) = x - z := by rw [IntKind.wrap_i64]; omega
    rw [hvv] at c3
    have HVV := Lib.hid hvv
    clear hvv
    simp only [if_true]
    by_cases hl : x < z
    · have END : Hid (Tg 44 w E a (some ⟨b, o, none⟩) cap vc q ⟨s.c.set s.k (if x < z then x else x - z), s.k, true⟩) := Lib.hid (by
        rw [if_pos hl, set_same HX.out]
        have := H.out
        have e := HVV.out
        obtain ⟨sc, sk, sv⟩ := s
        cases e
        exact this)
      have DEC : Hid (decide (z ≤ x) = false) := Lib.hid (decide_eq_false (by omega))
      generalize s.c.set s.k (if x < z then x else x - z) = R at *
      subst hv
      generalize s.c.length = N at *
      generalize q.length = M at *
      generalize s.k = k at *
      go_enter Try.func14, Try.ntmps14
      go_wp2_with fail
      go_region
      go_wp2_with fail
      go_ret
      exact ⟨ret_b DEC.out.symm, END.out.drew, (Mt.refl a _ w).drew⟩
    · have END := Lib.hid (H.out.drew.place neT hv s.k (x - z)).drew
      have DEC : Hid (decide (z ≤ x) = true) := Lib.hid (decide_eq_true (by omega))
      have FIN : Hid (∀ w1, Tg 44 w1 E a (some ⟨b, o, none⟩) cap vc q ⟨s.c.set s.k (x - z), s.k, s.v⟩ → Tg 44 w1 E a (some ⟨b, o, none⟩) cap vc q ⟨s.c.set s.k (if x < z then x else x - z), s.k, true⟩) := Lib.hid (by
        intro w1 h1
        rw [if_neg hl, ← HVV.out]
        exact h1)
      generalize s.c.set s.k (if x < z then x else x - z) = R at *
      subst hv
      generalize s.c.length = N at *
      generalize q.length = M at *
      go_enter Try.func14, Try.ntmps14
      go_wp2_with fail
      go_region
      go_wp2_with fail
      go_region
      go_wp2_with fail
      go_ret
      exact ⟨ret_b DEC.out.symm, FIN.out _ END.out, (((Mt.refl a _ w).drew).row rfl _ _).drew⟩
  | false =>
    have w2 : IntKind.i64.wrap (x + y - z) = x + y - z := by rw [IntKind.wrap_i64]; omega
    rw [hvv] at c3
    have HVV := Lib.hid hvv
    clear hvv
    simp only [Bool.false_eq_true, if_false]
    by_cases hl : x + y < z
    · have END := Lib.hid (((H.out.place neT hv s.k (x + y)).drew.set3 neT true).drew)
      have DEC : Hid (decide (z ≤ x + y) = false) := Lib.hid (decide_eq_false (by omega))
      have FIN : Hid (s.c.set s.k (x + y) = s.c.set s.k (if x + y < z then x + y else x + y - z)) := Lib.hid (by rw [if_pos hl])
      generalize s.c.set s.k (if x + y < z then x + y else x + y - z) = R at *
      rw [FIN.out] at END
      subst hv
      generalize s.c.length = N at *
      generalize q.length = M at *
      go_enter Try.func14, Try.ntmps14
      go_wp2_with fail
      go_region
      go_wp2_with fail
      go_region
      go_wp2_with fail
      go_ret
      exact ⟨ret_b DEC.out.symm, END.out, (((Mt.refl a _ w).row rfl _ _).drew.own _ _).drew⟩
    · have END := Lib.hid ((((H.out.place neT hv s.k (x + y)).drew.set3 neT true).drew.place neT hv s.k (x + y - z)).drew)
      have DEC : Hid (decide (z ≤ x + y) = true) := Lib.hid (decide_eq_true (by omega))
      have FIN : Hid ((s.c.set s.k (x + y)).set s.k (x + y - z) = s.c.set s.k (if x + y < z then x + y else x + y - z)) := Lib.hid (by rw [if_neg hl, List.set_set])
      generalize s.c.set s.k (if x + y < z then x + y else x + y - z) = R at *
      rw [FIN.out] at END
      subst hv
      generalize s.c.length = N at *
      generalize q.length = M at *
      go_enter Try.func14, Try.ntmps14
      go_wp2_with fail
      go_region
      go_wp2_with fail
      go_region
      go_wp2_with fail
      go_region
      go_wp2_with fail
      go_ret
      exact ⟨ret_b DEC.out.symm, END.out, (((((Mt.refl a _ w).row rfl _ _).drew.own _ _).drew).row rfl _ _).drew⟩
end
end Go.Proofs.Ytjlmefjgolbfiaa
