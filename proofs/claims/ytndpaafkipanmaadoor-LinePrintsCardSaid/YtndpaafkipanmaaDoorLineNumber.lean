/-
  Layer 4: the document's own numerals.
-/
import Derived.Test.YtndpaafkipanmaaDoorLineVal
import Derived.Test.YtndpaafkipanmaaDoorLineRead
import Derived.Laws.IdiomStrings
namespace Go.Proofs.YtndpaafkipanmaaDoor
open Go.ChangeShapes Go.WideShapes Go.ChangeAt Go.RowKit
set_option linter.unusedVariables false

def SB (l : List UInt8) (w : World) (e : Ending) (w' : World) : Prop := e = .returned (.string ⟨l.toArray⟩) ∧ Below w.heap.size w w'
theorem conv_digit (w : World) (x : Int) (d : Nat) (hd : d < 10) (hx : x = ((48 + d : Nat) : Int)) :
    (convert 56 9 (.slice (some ⟨w.heap.size, 0, none⟩) 1 1)).run Tryd.prog (w.alloc (.cells #[.int .u8 x] 5)) = .ok (.string ⟨#[UInt8.ofNat (48 + d)]⟩) (w.alloc (.cells #[.int .u8 x] 5)) := by
  refine run_convert_bytes_back (P := Tryd.prog) (w.alloc (.cells #[.int .u8 x] 5)) 56 9 5 ⟨w.heap.size, 0, none⟩ 1 [UInt8.ofNat (48 + d)] Tryd.underlying56 Tryd.underlying5 Tryd.underlying9 (fun j hj => ?_)
  have hj : j < 1 := hj
  obtain rfl : j = 0 := by omega
  simp only [List.getElem_cons_zero]
  rw [digit_toNat d hd, ← hx]
  simp [Addr.add]
theorem str_app (x y : List UInt8) : (⟨x.toArray⟩ : ByteArray) ++ ⟨y.toArray⟩ = ⟨(x ++ y).toArray⟩ := by rw [ByteArray.mk_append_mk]
theorem nDigits_le (u : Nat) (hu : u < 18446744073709551616) : (Lib.decDigits u).length ≤ 20 := by
  rw [Lib.decDigits_length]
  rcases Nat.lt_or_ge 20 (Lib.nDigits u) with h | h
  · have := natOf_ge (c := 49) (l := []) (by decide) (by decide)
    have hl := Lib.decDigits_length u
    cases hd : Lib.decDigits u with
    | nil => exact absurd hd (dec_ne u)
    | cons c r =>
      rw [hd] at hl
      have hlead : c.toNat ≠ 48 := by
        rcases Nat.eq_zero_or_pos u with e | e
        · subst e; rw [Lib.decDigits_one (by omega)] at hd; cases hd; simp at hl; omega
        · exact dec_lead u e c (by rw [hd]; rfl)
      have h1 := natOf_ge (l := r) (dec_digits u c (by rw [hd]; simp)) hlead
      rw [← hd, natOf_dec] at h1
      have hp : 10 ^ 20 ≤ 10 ^ r.length := Nat.pow_le_pow_right (by omega) (by simp at hl; omega)
      have : (10 : Nat) ^ 20 = 100000000000000000000 := by decide
      omega
  · exact h

set_option maxRecDepth 100000 in
theorem refDigits (u : Nat) (hu : u < 18446744073709551616) (w : World) : Calls Tryd.prog 41 #[.int .u64 u] w (SB (Lib.decDigits u) w) := by
  induction u using Nat.strongRecOn generalizing w with
  | _ u ih =>
    have kc := conv_digit w (48 + (u : Int) % 10) (u % 10) (by omega) (by omega)
    obtain ⟨b, hb⟩ : ∃ b, UInt8.ofNat (48 + u % 10) = b := ⟨_, rfl⟩
    rw [hb] at kc
    have hs : (Lib.decDigits (u / 10)).length ≤ 20 := nDigits_le (u / 10) (by omega)
    by_cases h : u < 10
    · have e1 : decide ((u : Int) < 10) = true := decide_eq_true (by omega)
      have HD : Hid (Lib.decDigits u = [b]) := Lib.hid (by rw [Lib.decDigits_one h, ← hb, Nat.mod_eq_of_lt h])
      clear ih hu hs hb
      go_enter Tryd.func41, Tryd.ntmps41
      go_wp2_with fail
      go_ret
      exact ⟨by rw [HD.out]; rfl, (Below.refl _ _).alloc (Nat.le_refl _) _⟩
    · have e1 : decide ((u : Int) < 10) = false := decide_eq_false (by omega)
      have HD : Hid (Lib.decDigits u = Lib.decDigits (u / 10) ++ [b]) := Lib.hid (by rw [Lib.decDigits, dif_neg h, hb])
      have CI := Lib.hid (fun w' => ih (u / 10) (by omega) (by omega) w')
      have ec : (((u / 10 : Nat)) : Int) = (u : Int) / 10 := by omega
      rw [ec] at CI
      have qw : IntKind.u64.wrap ((u : Int) / 10) = (u : Int) / 10 := by rw [IntKind.wrap_u64]; omega
      clear ih hu ec hb
      have hsz : (⟨(Lib.decDigits (u / 10)).toArray⟩ : ByteArray).size ≤ 20 := by simpa [ByteArray.size] using hs
      clear hs
      generalize Lib.decDigits (u / 10) = l at CI HD hsz
      go_enter Tryd.func41, Tryd.ntmps41
      go_wp2_with fail
      with_reducible refine (CI.out _).mono ?_
      rintro e w2 ⟨rfl, b2⟩
      have ks : (⟨#[b]⟩ : ByteArray).size = 1 := rfl
      have ka := fun w' : World => run_string_add_sum (P := Tryd.prog) w' ⟨l.toArray⟩ ⟨#[b]⟩ (by omega)
      clear ks kc
      go_wp2_with fail
      go_ret
      refine ⟨?_, ((Below.refl _ _).alloc (Nat.le_refl _) _).trans (b2.mono (by simp))⟩
      rw [HD.out, ← str_app]
      rfl
theorem refNumber (n : Int) (h0 : -9223372036854775808 ≤ n) (h1 : n ≤ 9223372036854775807) (w : World) : Calls Tryd.prog 25 #[.int .i64 n] w (SB (Lib.itoa n) w) := by
  by_cases hn : n < 0
  · have e1 : decide (n < 0) = true := decide_eq_true hn
    have HD : Hid (Lib.itoa n = 45 :: Lib.decDigits n.natAbs) := Lib.hid (by unfold Lib.itoa; rw [if_pos hn])
    have CD := Lib.hid (fun w' => refDigits n.natAbs (by omega) w')
    have hs := nDigits_le n.natAbs (by omega)
    have hsz : (⟨(Lib.decDigits n.natAbs).toArray⟩ : ByteArray).size ≤ 20 := by simpa [ByteArray.size] using hs
    have qw : IntKind.u64.wrap (-(IntKind.u64.wrap n)) = (n.natAbs : Int) := by rw [IntKind.wrap_u64, IntKind.wrap_u64]; omega
    clear hs
    generalize Lib.decDigits n.natAbs = l at CD HD hsz
    generalize (n.natAbs : Int) = m at CD qw
    have ka := fun w' : World => run_string_add_sum (P := Tryd.prog) w' ⟨#[45]⟩ ⟨l.toArray⟩ (by have : (⟨#[45]⟩ : ByteArray).size = 1 := rfl; omega)
    go_enter Tryd.func25, Tryd.ntmps25
    go_wp2_with fail
    go_goals
    with_reducible refine (CD.out _).mono ?_
    rintro e w2 ⟨rfl, b2⟩
    go_wp2_with fail
    go_ret
    refine ⟨?_, b2⟩
    rw [HD.out, show 45 :: l = [45] ++ l from rfl, ← str_app]
    rfl
  · have e1 : decide (n < 0) = false := decide_eq_false hn
    have HD : Hid (Lib.itoa n = Lib.decDigits n.toNat) := Lib.hid (by unfold Lib.itoa; rw [if_neg hn])
    have CD := Lib.hid (fun w' => refDigits n.toNat (by omega) w')
    rw [show ((n.toNat : Nat) : Int) = n by omega] at CD
    have n0 : 0 ≤ n := by omega
    go_enter Tryd.func25, Tryd.ntmps25
    go_wp2_with fail
    go_goals
    with_reducible refine (CD.out _).mono ?_
    rintro e w2 ⟨rfl, b2⟩
    go_wp2_with fail
    go_ret
    exact ⟨by rw [HD.out]; rfl, b2⟩
end Go.Proofs.YtndpaafkipanmaaDoor
