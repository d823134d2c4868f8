/-
  How two float64 of any bits stand to each other, told by their bits as whole numbers: the model's comparison is the comparison of signed rungs.
-/
import Derived.Test.YthjdcailnibeiaaKit
import Derived.WalkLawsBesides
namespace Go.Proofs.Ythjdcailnibeiaa
open Ieee

/-- The magnitude of a rung, in units of the least place. -/
def mag (r : Nat) : Nat := if r < 4503599627370496 then r else (4503599627370496 + r % 4503599627370496) * 2 ^ (r / 4503599627370496 - 1)

theorem mag_mono {r s : Nat} (h : r < s) : mag r < mag s := by
  unfold mag
  have hr := Nat.div_add_mod r 4503599627370496
  have hs := Nat.div_add_mod s 4503599627370496
  have hr' := Nat.mod_lt r (show 0 < 4503599627370496 by decide)
  have hs' := Nat.mod_lt s (show 0 < 4503599627370496 by decide)
  generalize r / 4503599627370496 = q at *
  generalize s / 4503599627370496 = p at *
  generalize r % 4503599627370496 = f at *
  generalize s % 4503599627370496 = g at *
  have hp := Nat.two_pow_pos (p - 1)
  split
  · split
    · exact h
    · calc r < 4503599627370496 := by assumption
        _ ≤ (4503599627370496 + g) * 1 := by omega
        _ ≤ _ := Nat.mul_le_mul_left _ hp
  · split
    · omega
    · by_cases hqp : q = p
      · subst hqp
        exact Nat.mul_lt_mul_of_pos_right (by omega) hp
      · have hlt : q < p := by omega
        have hq : 1 ≤ q := by omega
        have e : 2 ^ q = 2 * 2 ^ (q - 1) := by
          rw [← Nat.pow_succ']; congr 1; omega
        have e2 : 2 ^ q ≤ 2 ^ (p - 1) := Nat.pow_le_pow_right (by decide) (by omega)
        have h1 : (4503599627370496 + f) * 2 ^ (q - 1) < 9007199254740992 * 2 ^ (q - 1) := Nat.mul_lt_mul_of_pos_right (by omega) (Nat.two_pow_pos _)
        have h2 : 4503599627370496 * 2 ^ (p - 1) ≤ (4503599627370496 + g) * 2 ^ (p - 1) := Nat.mul_le_mul_right _ (by omega)
        generalize 2 ^ (q - 1) = x at *
        generalize 2 ^ (p - 1) = y at *
        omega

theorem mag_lt_iff {r s : Nat} : mag r < mag s ↔ r < s := by
  constructor
  · intro h
    apply Nat.lt_of_not_le
    intro h'
    rcases Nat.lt_or_eq_of_le h' with h' | rfl
    · have := mag_mono h'; omega
    · omega
  · exact mag_mono
theorem mag_inj {r s : Nat} : mag r = mag s ↔ r = s := by
  constructor
  · intro h
    rcases Nat.lt_trichotomy r s with h' | h' | h'
    · have := mag_mono h'; omega
    · exact h'
    · have := mag_mono h'; omega
  · rintro rfl; rfl
theorem mag_zero : mag 0 = 0 := by unfold mag; rfl

/-- The bits below the sign. -/
def rung (b : Nat) : Nat := b % 9223372036854775808
/-- The sign's bit. -/
def neg (b : Nat) : Bool := decide (9223372036854775808 ≤ b)
/-- Is it no number? -/
def isNan (b : Nat) : Bool := decide (9218868437227405312 < b % 9223372036854775808)
/-- The signed rung: the place of a number among all, but that the two zeros are one. -/
def key (b : Nat) : Int := if b < 9223372036854775808 then (b : Int) else -((b : Int) - 9223372036854775808)

theorem neg_eq {b : Nat} (h : b < 18446744073709551616) : (b / double.signWeight % 2 == 1) = neg b := by
  have e : double.signWeight = 9223372036854775808 := by decide
  rw [e]; unfold neg
  by_cases hb : 9223372036854775808 ≤ b
  · have : b / 9223372036854775808 = 1 := by omega
    rw [this, decide_eq_true hb]; rfl
  · have : b / 9223372036854775808 = 0 := by omega
    rw [this, decide_eq_false hb]; rfl

theorem read_eq {b : Nat} (h : b < 18446744073709551616) : double.read b =
    if rung b < 4503599627370496 then .number (neg b) (rung b) (-1074)
    else if rung b < 9218868437227405312 then .number (neg b) (4503599627370496 + rung b % 4503599627370496) (-1074 + (rung b / 4503599627370496 - 1 : Nat))
    else if rung b = 9218868437227405312 then .infinity (neg b) else .nan (neg b) (rung b - 9218868437227405312) := by
  have e : double.signWeight = 9223372036854775808 := by decide
  have e1 : double.binade = 4503599627370496 := by decide
  have e2 : double.infRung = 9218868437227405312 := by decide
  have e3 : double.leastPlace = -1074 := by decide
  unfold Format.read
  simp only [neg_eq h, e1, e2, e3]
  rw [e]
  rfl

theorem read_num {b : Nat} (h : b < 18446744073709551616) (hr : rung b < 9218868437227405312) :
    ∃ m p, double.read b = .number (neg b) m p ∧ -1074 ≤ p ∧ m * 2 ^ (p + 1074).toNat = mag (rung b) := by
  rw [read_eq h]
  by_cases h1 : rung b < 4503599627370496
  · rw [if_pos h1]
    refine ⟨_, _, rfl, by omega, ?_⟩
    unfold mag; rw [if_pos h1]; simp
  · rw [if_neg h1, if_pos hr]
    refine ⟨_, _, rfl, by omega, ?_⟩
    unfold mag; rw [if_neg h1]
    congr 2
    omega
theorem read_inf {b : Nat} (h : b < 18446744073709551616) (hr : rung b = 9218868437227405312) : double.read b = .infinity (neg b) := by
  rw [read_eq h, if_neg (by omega), if_neg (by omega), if_pos hr]
theorem read_nan {b : Nat} (h : b < 18446744073709551616) (hr : 9218868437227405312 < rung b) : ∃ n f, double.read b = .nan n f := by
  rw [read_eq h, if_neg (by omega), if_neg (by omega), if_neg (by omega)]
  exact ⟨_, _, rfl⟩

/-- The signed magnitude. -/
def smag (b : Nat) : Int := if neg b then -(mag (rung b) : Int) else (mag (rung b) : Int)

theorem signed_mul (s : Bool) (m u k : Nat) : signed s m u * (2 ^ k : Nat) = if s then -((m * 2 ^ (u + k) : Nat) : Int) else ((m * 2 ^ (u + k) : Nat) : Int) := by
  unfold signed
  rw [Nat.shiftLeft_eq, Nat.pow_add]
  cases s
  · simp [Int.mul_assoc]
  · simp [Int.mul_assoc, Int.neg_mul]

theorem compare_scale (x y : Int) (k : Nat) (hk : 0 < k) : compare x y = compare (x * (k : Int)) (y * (k : Int)) := by
  have hk' : (0 : Int) < k := by omega
  show compareOfLessAndEq x y = compareOfLessAndEq (x * k) (y * k)
  unfold compareOfLessAndEq
  have h1 : x * k < y * k ↔ x < y := ⟨fun h => Int.lt_of_mul_lt_mul_right h (by omega), fun h => Int.mul_lt_mul_of_pos_right h hk'⟩
  have h2 : x * k = y * k ↔ x = y := ⟨fun h => Int.eq_of_mul_eq_mul_right (by omega) h, fun h => by rw [h]⟩
  simp only [h1, h2]

theorem order_num {b c : Nat} (hb : b < 18446744073709551616) (hc : c < 18446744073709551616) (rb : rung b < 9218868437227405312) (rc : rung c < 9218868437227405312) :
    double.order b c = some (compare (smag b) (smag c)) := by
  obtain ⟨m, p, e1, l1, v1⟩ := read_num hb rb
  obtain ⟨n, q, e2, l2, v2⟩ := read_num hc rc
  unfold Format.order
  rw [e1, e2]
  show some (compare (signed (neg b) m (p - min p q).toNat) (signed (neg c) n (q - min p q).toNat)) = _
  congr 1
  rw [compare_scale _ _ (2 ^ (min p q + 1074).toNat) (Nat.two_pow_pos _), signed_mul, signed_mul]
  have a1 : (p - min p q).toNat + (min p q + 1074).toNat = (p + 1074).toNat := by omega
  have a2 : (q - min p q).toNat + (min p q + 1074).toNat = (q + 1074).toNat := by omega
  rw [a1, a2, v1, v2]
  rfl

theorem smag_cmp {b c : Nat} (hb : b < 18446744073709551616) (hc : c < 18446744073709551616) : (smag b < smag c ↔ key b < key c) ∧ (smag b = smag c ↔ key b = key c) := by
  have m1 := @mag_lt_iff (rung b) (rung c)
  have m2 := @mag_lt_iff (rung c) (rung b)
  have m3 := @mag_lt_iff 0 (rung b)
  have m4 := @mag_lt_iff 0 (rung c)
  rw [mag_zero] at m3 m4
  have r1 : rung b = b % 9223372036854775808 := rfl
  have r2 : rung c = c % 9223372036854775808 := rfl
  unfold smag key neg
  generalize mag (rung b) = x at *
  generalize mag (rung c) = y at *
  by_cases h1 : 9223372036854775808 ≤ b <;> by_cases h2 : 9223372036854775808 ≤ c <;> simp only [h1, h2, decide_true, decide_false, if_true, if_false, Bool.false_eq_true]
  · rw [if_neg (by omega), if_neg (by omega)]; omega
  · rw [if_neg (by omega), if_pos (by omega)]; omega
  · rw [if_pos (by omega), if_neg (by omega)]; omega
  · rw [if_pos (by omega), if_pos (by omega)]; omega

theorem compare_of {x y u v : Int} (h1 : x < y ↔ u < v) (h2 : x = y ↔ u = v) : compare x y = compare u v := by
  show compareOfLessAndEq x y = compareOfLessAndEq u v
  unfold compareOfLessAndEq
  simp only [h1, h2]

theorem isNan_true {b : Nat} : isNan b = true ↔ 9218868437227405312 < rung b := by unfold isNan rung; simp
theorem isNan_false {b : Nat} : isNan b = false ↔ rung b ≤ 9218868437227405312 := by unfold isNan rung; simp

theorem order_key {b c : Nat} (hb : b < 18446744073709551616) (hc : c < 18446744073709551616) (nb : isNan b = false) (nc : isNan c = false) :
    double.order b c = some (compare (key b) (key c)) := by
  rw [isNan_false] at nb nc
  by_cases eb : rung b = 9218868437227405312
  · have kb : key b = if neg b then -9218868437227405312 else 9218868437227405312 := by
      unfold rung at eb; unfold key neg
      by_cases h : b < 9223372036854775808
      · rw [if_pos h, decide_eq_false (by omega)]; simp; omega
      · rw [if_neg h, decide_eq_true (by omega)]; simp; omega
    by_cases ec : rung c = 9218868437227405312
    · have kc : key c = if neg c then -9218868437227405312 else 9218868437227405312 := by
        unfold rung at ec; unfold key neg
        by_cases h : c < 9223372036854775808
        · rw [if_pos h, decide_eq_false (by omega)]; simp; omega
        · rw [if_neg h, decide_eq_true (by omega)]; simp; omega
      unfold Format.order
      rw [read_inf hb eb, read_inf hc ec, kb, kc]
      cases neg b <;> cases neg c <;> decide
    · obtain ⟨n, q, e2, l2, v2⟩ := read_num hc (by omega)
      have kc : -9218868437227405312 < key c ∧ key c < 9218868437227405312 := by
        unfold rung at *; unfold key
        split <;> omega
      unfold Format.order
      rw [read_inf hb eb, e2, kb]
      show some (if neg b then Ordering.lt else .gt) = _
      congr 1
      show _ = compareOfLessAndEq _ _
      unfold compareOfLessAndEq
      cases neg b
      · simp only [Bool.false_eq_true, if_false]
        rw [if_neg (by omega), if_neg (by omega)]
      · simp only [if_true]
        rw [if_pos (by omega)]
  · obtain ⟨m, p, e1, l1, v1⟩ := read_num hb (by omega)
    by_cases ec : rung c = 9218868437227405312
    · have kc : key c = if neg c then -9218868437227405312 else 9218868437227405312 := by
        unfold rung at ec; unfold key neg
        by_cases h : c < 9223372036854775808
        · rw [if_pos h, decide_eq_false (by omega)]; simp; omega
        · rw [if_neg h, decide_eq_true (by omega)]; simp; omega
      have kb : -9218868437227405312 < key b ∧ key b < 9218868437227405312 := by
        unfold rung at *; unfold key
        split <;> omega
      unfold Format.order
      rw [e1, read_inf hc ec, kc]
      show some (if neg c then Ordering.gt else .lt) = _
      congr 1
      show _ = compareOfLessAndEq _ _
      unfold compareOfLessAndEq
      cases neg c
      · simp only [Bool.false_eq_true, if_false]
        rw [if_pos (by omega)]
      · simp only [if_true]
        rw [if_neg (by omega), if_neg (by omega)]
    · rw [order_num hb hc (by omega) (by omega)]
      have := smag_cmp hb hc
      rw [compare_of this.1 this.2]

theorem order_nan_left {b c : Nat} (hb : b < 18446744073709551616) (nb : isNan b = true) : double.order b c = none := by
  obtain ⟨n, f, e⟩ := read_nan hb (isNan_true.1 nb)
  unfold Format.order
  rw [e]
  rfl
theorem order_nan_right {b c : Nat} (hc : c < 18446744073709551616) (nc : isNan c = true) : double.order b c = none := by
  obtain ⟨n, f, e⟩ := read_nan hc (isNan_true.1 nc)
  unfold Format.order
  rw [e]
  cases double.read b <;> rfl

theorem compare_lt_iff (x y : Int) : (some (compare x y) == some Ordering.lt) = decide (x < y) := by
  show (some (compareOfLessAndEq x y) == some Ordering.lt) = _
  unfold compareOfLessAndEq
  by_cases h : x < y
  · simp [h]
  · by_cases h2 : x = y <;> simp [h, h2] <;> rfl
theorem compare_eq_iff (x y : Int) : (some (compare x y) == some Ordering.eq) = decide (x = y) := by
  show (some (compareOfLessAndEq x y) == some Ordering.eq) = _
  unfold compareOfLessAndEq
  by_cases h : x < y
  · have : ¬ x = y := by omega
    simp [h, this]
  · by_cases h2 : x = y
    · simp [h2]
    · simp [h, h2]

/-- 'a != a' -/
theorem neq_self {b : Nat} (hb : b < 18446744073709551616) : (FloatKind.f64.format.order b b != some .eq) = isNan b := by
  show (double.order b b != some .eq) = isNan b
  cases h : isNan b
  · rw [order_key hb hb h h]
    unfold bne; rw [compare_eq_iff]; simp
  · rw [order_nan_left hb h]; rfl
/-- 'a == 0' -/
theorem eql_zero {b : Nat} (hb : b < 18446744073709551616) : (FloatKind.f64.format.order b 0 == some .eq) = decide (rung b = 0) := by
  show (double.order b 0 == some .eq) = _
  cases h : isNan b
  · rw [order_key hb (by decide) h (by decide), compare_eq_iff]
    unfold key rung
    congr 1
    rw [if_pos (show 0 < 9223372036854775808 by decide)]
    split <;> simp <;> omega
  · rw [order_nan_left hb h]
    rw [isNan_true] at h
    rw [decide_eq_false (by omega)]; rfl
/-- 'a < b' of two numbers -/
theorem lss_num {b c : Nat} (hb : b < 18446744073709551616) (hc : c < 18446744073709551616) (nb : isNan b = false) (nc : isNan c = false) :
    (FloatKind.f64.format.order b c == some .lt) = decide (key b < key c) := by
  show (double.order b c == some .lt) = _
  rw [order_key hb hc nb nc, compare_lt_iff]

/-- Where it stands in the order. -/
def place (b : Nat) : Nat := if isNan b = true then 18446744073709551615 else if 9223372036854775808 ≤ b then 18446744073709551615 - b else b + 9223372036854775808
theorem place_le {b : Nat} (hb : b < 18446744073709551616) : place b ≤ 18446744073709551615 := by
  unfold place
  split
  · omega
  · split <;> omega
theorem place_key {b : Nat} (nb : isNan b = false) : place b = if 9223372036854775808 ≤ b then 18446744073709551615 - b else b + 9223372036854775808 := by
  unfold place; rw [nb]; simp
theorem place_nan {b : Nat} (nb : isNan b = true) : place b = 18446744073709551615 := by
  unfold place; rw [nb]; rfl
theorem place_lt_nan {b : Nat} (hb : b < 18446744073709551616) (nb : isNan b = false) : place b < 18446744073709551615 := by
  rw [place_key nb]
  rw [isNan_false] at nb
  unfold rung at nb
  split <;> omega
theorem place_lt {b c : Nat} (hb : b < 18446744073709551616) (hc : c < 18446744073709551616) (nb : isNan b = false) (nc : isNan c = false) (hz : ¬ (rung b = 0 ∧ rung c = 0)) :
    place b < place c ↔ key b < key c := by
  rw [place_key nb, place_key nc]
  unfold key rung at *
  split <;> split <;> split <;> split <;> omega
theorem place_zero {b c : Nat} (hb : b < 18446744073709551616) (hc : c < 18446744073709551616) (nb : isNan b = false) (nc : isNan c = false) (hz : rung b = 0 ∧ rung c = 0) :
    place b < place c ↔ neg b = true ∧ neg c = false := by
  rw [place_key nb, place_key nc]
  unfold neg rung at *
  simp only [decide_eq_true_eq, decide_eq_false_iff_not]
  split <;> split <;> omega
theorem place_eq {b c : Nat} (hb : b < 18446744073709551616) (hc : c < 18446744073709551616) :
    place b = place c ↔ (isNan b = true ∧ isNan c = true) ∨ b = c := by
  cases nb : isNan b <;> cases nc : isNan c
  · rw [place_key nb, place_key nc]
    simp
    split <;> split <;> omega
  · have := place_lt_nan hb nb
    rw [place_nan nc]
    constructor
    · intro h; omega
    · rintro (⟨h, _⟩ | rfl)
      · simp at h
      · rw [nb] at nc; simp at nc
  · have := place_lt_nan hc nc
    rw [place_nan nb]
    constructor
    · intro h; omega
    · rintro (⟨_, h⟩ | rfl)
      · simp at h
      · rw [nb] at nc; simp at nc
  · rw [place_nan nb, place_nan nc]; simp
end Go.Proofs.Ythjdcailnibeiaa
