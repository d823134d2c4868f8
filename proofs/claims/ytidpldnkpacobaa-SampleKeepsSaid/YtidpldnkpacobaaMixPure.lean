/-
  The mix of bytes (FNV-1a, of 32 bits) as a plain function on lists of whole numbers.
-/
import Derived.Laws.BitsAllLaws
namespace Go.Proofs.Ytidpldnkpacobaa

/-- One byte mixed in. -/
def mixStep (h n : Int) : Int := ((h.toNat ^^^ n.toNat : Nat) : Int) * 16777619 % 4294967296
/-- The mix of bytes. -/
def mixOf (zs : List Int) : Int := zs.foldl mixStep 2166136261
def Byte (zs : List Int) : Prop := ∀ n ∈ zs, 0 ≤ n ∧ n ≤ 255

theorem mixOf_snoc {zs : List Int} {k : Nat} {n h : Int} (hz : zs[k]? = some n) (hs : mixOf (zs.take k) = h) :
    mixOf (zs.take (k + 1)) = mixStep h n := by
  rw [List.take_add_one, hz]
  unfold mixOf at hs ⊢
  rw [List.foldl_append, hs]
  rfl
theorem mixOf_append (zs : List Int) (n : Int) : mixOf (zs ++ [n]) = mixStep (mixOf zs) n := by
  unfold mixOf; rw [List.foldl_append]; rfl
theorem mixStep_bd (h n : Int) : 0 ≤ mixStep h n ∧ mixStep h n ≤ 4294967295 := by
  unfold mixStep; omega
theorem mixOf_bd (zs : List Int) : 0 ≤ mixOf zs ∧ mixOf zs ≤ 4294967295 := by
  unfold mixOf
  suffices ∀ p : Int, 0 ≤ p ∧ p ≤ 4294967295 → 0 ≤ zs.foldl mixStep p ∧ zs.foldl mixStep p ≤ 4294967295 from this _ (by decide)
  induction zs with
  | nil => intro p hp; exact hp
  | cons z zs ih => intro p _; exact ih _ (mixStep_bd p z)

theorem xor_low (h x : Nat) (hx : x < 256) : h ^^^ x = h - h % 256 + (h % 256 ^^^ x) := by
  have h1 : (h ^^^ x) % 2 ^ 8 = h % 2 ^ 8 ^^^ x % 2 ^ 8 := Nat.xor_mod_two_pow
  have h2 : (h ^^^ x) / 2 ^ 8 = h / 2 ^ 8 ^^^ x / 2 ^ 8 := Nat.xor_div_two_pow
  have h3 : x / 2 ^ 8 = 0 := Nat.div_eq_of_lt hx
  have h4 : x % 2 ^ 8 = x := Nat.mod_eq_of_lt hx
  rw [h3, Nat.xor_zero] at h2
  rw [h4] at h1
  simp only [Nat.reducePow] at h1 h2
  omega
theorem xor_small (h n : Int) (h0 : 0 ≤ h) (h1 : h ≤ 4294967295) (n0 : 0 ≤ n) (n1 : n ≤ 255) :
    ((h.toNat ^^^ n.toNat : Nat) : Int) ≤ 4294967295 := by
  have : h.toNat ^^^ n.toNat < 2 ^ 32 := Nat.xor_lt_two_pow (by omega) (by omega)
  omega
theorem ref_step (h n : Int) (h0 : 0 ≤ h) (h1 : h ≤ 4294967295) (n0 : 0 ≤ n) (n1 : n ≤ 255) :
    h - h % 256 + (((h % 256).toNat ^^^ n.toNat : Nat) : Int) = ((h.toNat ^^^ n.toNat : Nat) : Int) := by
  have e := xor_low h.toNat n.toNat (by omega)
  have e2 : (h % 256).toNat = h.toNat % 256 := by omega
  rw [e2, e]
  omega
theorem xor_byte (h n : Int) (n0 : 0 ≤ n) (n1 : n ≤ 255) : (((h % 256).toNat ^^^ n.toNat : Nat) : Int) ≤ 255 := by
  have : (h % 256).toNat ^^^ n.toNat < 2 ^ 8 := Nat.xor_lt_two_pow (by omega) (by omega)
  omega
end Go.Proofs.Ytidpldnkpacobaa
