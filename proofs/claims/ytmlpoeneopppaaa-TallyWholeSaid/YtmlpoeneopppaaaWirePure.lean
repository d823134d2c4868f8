/-
  Layer 6 (wire), what is of no program: a number's bytes, a whole number's, a text's; and how bytes are read.
-/
namespace Go.Proofs.Ytmlpoeneopppaaa

/-- A number's bytes: seven bits a byte, the lowest first. -/
def enc (n : Nat) : List UInt8 := if n < 128 then [n.toUInt8] else (n % 128 + 128).toUInt8 :: enc (n / 128)
termination_by n
decreasing_by omega
theorem enc_small {n : Nat} (h : n < 128) : enc n = [n.toUInt8] := by rw [enc, if_pos h]
theorem enc_great {n : Nat} (h : 128 ≤ n) : enc n = (n % 128 + 128).toUInt8 :: enc (n / 128) := by rw [enc, if_neg (by omega)]
theorem byte_toNat {n : Nat} (h : n < 256) : n.toUInt8.toNat = n := by
  rw [UInt8.toNat_ofNat']; omega

/-- The number that stands for a whole number; and back. -/
def foldN (n : Int) : Nat := if n < 0 then (2 * (-1 - n) + 1).toNat else (2 * n).toNat
def unfoldN (n : Nat) : Int := if n % 2 = 1 then -1 - (n / 2 : Nat) else (n / 2 : Nat)
theorem unfold_fold (n : Int) : unfoldN (foldN n) = n := by
  unfold unfoldN foldN
  split
  · rename_i h
    rw [if_pos (by omega)]; omega
  · rename_i h
    rw [if_neg (by omega)]; omega
theorem fold_lt {n : Int} (h0 : -9223372036854775808 ≤ n) (h1 : n ≤ 9223372036854775807) : foldN n < 18446744073709551616 := by
  unfold foldN; split <;> omega

/-- A number at the head of a row, from its byte i on; those ahead gave n. How many bytes it has, too. -/
def decF (i n : Nat) : List UInt8 → Option (Nat × Nat)
  | [] => none
  | c :: l =>
    if 10 ≤ i ∨ (i = 9 ∧ 1 < c.toNat) then none
    else if c.toNat < 128 then (if c.toNat = 0 ∧ 0 < i then none else some (n + c.toNat * 128 ^ i, i + 1))
    else decF (i + 1) (n + (c.toNat - 128) * 128 ^ i) l
def decStep (i n : Nat) (c : UInt8) (l : List UInt8) : Option (Nat × Nat) :=
  if 10 ≤ i ∨ (i = 9 ∧ 1 < c.toNat) then none
  else if c.toNat < 128 then (if c.toNat = 0 ∧ 0 < i then none else some (n + c.toNat * 128 ^ i, i + 1))
  else decF (i + 1) (n + (c.toNat - 128) * 128 ^ i) l
theorem dec_nil (i n : Nat) : decF i n [] = none := by rw [decF]
theorem dec_cons (i n : Nat) (c : UInt8) (l : List UInt8) : decF i n (c :: l) = decStep i n c l := by rw [decF, decStep]
theorem dec_at (i n : Nat) (l : List UInt8) (k : Nat) (c : UInt8) (h : l[k]? = some c) : decF i n (l.drop k) = decStep i n c (l.drop (k + 1)) := by
  obtain ⟨hk, hc⟩ := List.getElem?_eq_some_iff.1 h
  rw [List.drop_eq_getElem_cons hk, dec_cons, hc]

theorem pow_split (i : Nat) : 128 ^ (i + 1) = 128 ^ i * 128 := Nat.pow_succ ..
theorem dec_bound : ∀ (l : List UInt8) (i n a k : Nat), n < 128 ^ i → decF i n l = some (a, k) → a < 18446744073709551616 ∧ i < k ∧ k ≤ i + l.length ∧ k ≤ 10
  | [], i, n, a, k, _, h => by rw [dec_nil] at h; cases h
  | c :: l, i, n, a, k, hn, h => by
    rw [dec_cons] at h
    unfold decStep at h
    have hc := UInt8.toNat_lt c
    split at h
    · cases h
    rename_i h1
    have hi : i ≤ 9 := by omega
    split at h
    · rename_i h2
      split at h
      · cases h
      · cases h
        refine ⟨?_, by omega, by simp, by omega⟩
        rcases Nat.lt_or_ge i 9 with h9 | h9
        · have h128 : 128 ^ i ≤ 128 ^ 8 := Nat.pow_le_pow_right (by omega) (by omega)
          have : c.toNat * 128 ^ i ≤ 127 * 128 ^ i := Nat.mul_le_mul_right _ (by omega)
          have e8 : (128 : Nat) ^ 8 = 72057594037927936 := by decide
          omega
        · obtain rfl : i = 9 := by omega
          have e9 : (128 : Nat) ^ 9 = 9223372036854775808 := by decide
          rw [e9] at hn ⊢
          have : c.toNat ≤ 1 := by omega
          have : c.toNat * 9223372036854775808 ≤ 1 * 9223372036854775808 := Nat.mul_le_mul_right _ this
          omega
    · rename_i h2
      have hm : n + (c.toNat - 128) * 128 ^ i < 128 ^ (i + 1) := by
        have : (c.toNat - 128) * 128 ^ i ≤ 127 * 128 ^ i := Nat.mul_le_mul_right _ (by omega)
        rw [pow_split]; omega
      obtain ⟨b1, b2, b3, b4⟩ := dec_bound l (i + 1) _ a k hm h
      exact ⟨b1, by omega, by simp; omega, b4⟩

/-- What was written is read as it was. -/
theorem dec_enc (n : Nat) : ∀ (i a : Nat) (rest : List UInt8), i ≤ 9 → n * 128 ^ i < 18446744073709551616 → (0 < i → 0 < n) →
    decF i a (enc n ++ rest) = some (a + n * 128 ^ i, i + (enc n).length) := by
  induction n using Nat.strongRecOn with
  | ind n ih =>
    intro i a rest hi hn hp
    have e9 : (128 : Nat) ^ 9 = 9223372036854775808 := by decide
    rcases Nat.lt_or_ge n 128 with h | h
    · rw [enc_small h, List.singleton_append, dec_cons]
      unfold decStep
      rw [byte_toNat (by omega)]
      rw [if_neg, if_pos h, if_neg]
      · rfl
      · rintro ⟨h0, h1⟩
        have := hp h1
        omega
      · rintro (h1 | ⟨rfl, h1⟩)
        · omega
        · rw [e9] at hn
          omega
    · have hi8 : i ≤ 8 := by
        rcases Nat.lt_or_ge i 9 with h9 | h9
        · omega
        · obtain rfl : i = 9 := by omega
          rw [e9] at hn
          omega
      rw [enc_great h, List.cons_append, dec_cons]
      unfold decStep
      rw [byte_toNat (by omega), if_neg (by omega), if_neg (by omega)]
      have hs : n / 128 * 128 ^ (i + 1) ≤ n * 128 ^ i := by
        rw [pow_split, Nat.mul_comm (128 ^ i) 128, ← Nat.mul_assoc]
        exact Nat.mul_le_mul_right _ (by omega)
      rw [ih (n / 128) (by omega) (i + 1) _ rest (by omega) (by omega) (fun _ => by omega)]
      congr 1
      refine Prod.ext ?_ ?_
      · simp only
        have e1 : n / 128 * 128 ^ (i + 1) = (128 * (n / 128)) * 128 ^ i := by rw [pow_split, Nat.mul_comm (128 ^ i) 128, ← Nat.mul_assoc, Nat.mul_comm (n / 128) 128]
        rw [e1, show n % 128 + 128 - 128 = n % 128 by omega, Nat.add_assoc, ← Nat.add_mul, Nat.mod_add_div]
      · simp only [List.length_cons]; omega
theorem enc_length (n : Nat) (h : n < 18446744073709551616) : (enc n).length ≤ 10 := by
  have := dec_enc n 0 0 [] (by omega) (by simpa using h) (by omega)
  have := (dec_bound _ 0 0 _ _ (by omega) this).2.2.2
  omega
theorem enc_pos (n : Nat) : 0 < (enc n).length := by
  rcases Nat.lt_or_ge n 128 with h | h
  · rw [enc_small h]; simp
  · rw [enc_great h]; simp

/-- A text's bytes. -/
def encT (s : ByteArray) : List UInt8 := enc s.size ++ s.data.toList

/-- A reader of the row l: where it stands, and whether it is amiss. -/
structure Rs where
  at_ : Nat
  bad : Bool
def rsNum (l : List UInt8) (r : Rs) : Nat × Rs :=
  if r.bad then (0, r)
  else match decF 0 0 (l.drop r.at_) with
    | none => (0, ⟨r.at_, true⟩)
    | some (n, k) => (n, ⟨r.at_ + k, false⟩)
def rsText (l : List UInt8) (most : Int) (r : Rs) : List UInt8 × Rs :=
  if r.bad then ([], r)
  else match decF 0 0 (l.drop r.at_) with
    | none => ([], ⟨r.at_, true⟩)
    | some (n, k) => if most < 0 ∨ most < n ∨ l.length - (r.at_ + k) < n then ([], ⟨r.at_, true⟩) else ((l.drop (r.at_ + k)).take n, ⟨r.at_ + k + n, false⟩)
def rsEnd (l : List UInt8) (r : Rs) : Option Nat := if r.bad = false ∧ r.at_ = l.length then none else some r.at_
theorem rsNum_le {l : List UInt8} {r : Rs} (h : r.at_ ≤ l.length) : (rsNum l r).2.at_ ≤ l.length ∧ (rsNum l r).1 < 18446744073709551616 := by
  unfold rsNum
  split
  · exact ⟨h, by simp⟩
  · split
    · exact ⟨h, by simp⟩
    · rename_i n k hd
      obtain ⟨b1, _, b3, _⟩ := dec_bound _ 0 0 _ _ (by omega) hd
      rw [List.length_drop] at b3
      exact ⟨by simp only; omega, b1⟩
theorem rsText_le {l : List UInt8} {r : Rs} {most : Int} (h : r.at_ ≤ l.length) : (rsText l most r).2.at_ ≤ l.length := by
  unfold rsText
  split
  · exact h
  · split
    · exact h
    · rename_i n k hd
      obtain ⟨_, _, b3, _⟩ := dec_bound _ 0 0 _ _ (by omega) hd
      rw [List.length_drop] at b3
      split
      · exact h
      · simp only; omega
end Go.Proofs.Ytmlpoeneopppaaa
