/-
  Layer 6 (wire): first: the number at the head of bytes, and how many bytes it has.
-/
import Derived.Test.YtgohgmihoggcpaaWirePut
import Derived.Deep.Cut
import Derived.Deep.CutRange
import Derived.Deep.DeepCutAuto
namespace Go.Proofs.Ytgohgmihoggcpaa
open Go.ChangeShapes Go.WideShapes Go.ChangeAt Go.RowKit
set_option linter.unusedVariables false

def decV (o : Option (Nat × Nat)) : Nat × Nat := o.getD (0, 0)
def Firsts (l : List UInt8) (w : World) (e : Ending) (w' : World) : Prop :=
  e = .returned (.tuple #[.int .u64 (decV (decF 0 0 l)).1, .int .i64 (decV (decF 0 0 l)).2]) ∧ w = w'

theorem andNot_fin : ∀ x : Fin 256, x.val &&& 127 = x.val % 128 := by decide +kernel
theorem andNot_byte {x : Nat} (hx : x < 256) : bits .andNot .u8 (x : Int) 128 = ((x % 128 : Nat) : Int) := by
  rw [u8_andNot _ _ (by omega) (by omega) (by omega) (by omega)]
  have h := andNot_fin ⟨x, hx⟩
  simp only at h
  rw [Int.toNat_natCast, show 255 - (128 : Int).toNat = 127 from rfl, h]
theorem two_pow (k : Nat) : (2 : Nat) ^ (7 * k) = 128 ^ k := by rw [Nat.pow_mul]
theorem two_pow_int (k : Nat) : (2 : Int) ^ (7 * k) = ((128 ^ k : Nat) : Int) := by rw [← two_pow]; simp
theorem pow_le {k : Nat} (h : k ≤ 8) : 128 ^ k ≤ 72057594037927936 := by
  have : 128 ^ k ≤ 128 ^ 8 := Nat.pow_le_pow_right (by omega) h
  have e8 : (128 : Nat) ^ 8 = 72057594037927936 := by decide
  omega
theorem pow_pos (k : Nat) : 0 < 128 ^ k := Nat.pow_pos (by omega)
theorem pow_nine : (128 : Nat) ^ 9 = 9223372036854775808 := by decide
/-- A byte whose bits fit. -/
theorem bits_fit {k acc s : Nat} (hk : k ≤ 9) (hs : s < 128) (hf : ¬ (k = 9 ∧ 1 < s)) (ha : acc < 128 ^ k) :
    IntKind.u64.wrap ((s : Int) * 2 ^ (7 * k)) = ((s * 128 ^ k : Nat) : Int) ∧ ((s * 128 ^ k : Nat) : Int) / 2 ^ (7 * k) = (s : Int) ∧
    bits .or .u64 (acc : Int) ((s * 128 ^ k : Nat) : Int) = ((acc + s * 128 ^ k : Nat) : Int) ∧ acc + s * 128 ^ k < 128 ^ (k + 1) := by
  have hlt : s * 128 ^ k + acc < 18446744073709551616 := by
    rcases Nat.lt_or_ge k 9 with h | h
    · have h1 := pow_le (k := k) (by omega)
      have : s * 128 ^ k ≤ 127 * 128 ^ k := Nat.mul_le_mul_right _ (by omega)
      omega
    · obtain rfl : k = 9 := by omega
      have h2 : s ≤ 1 := by omega
      rw [pow_nine] at ha ⊢
      omega
  refine ⟨?_, ?_, ?_, ?_⟩
  · rw [two_pow_int, ← Int.natCast_mul, IntKind.wrap_u64]
    omega
  · rw [two_pow_int, ← Int.natCast_ediv, Nat.mul_div_cancel _ (pow_pos k)]
  · rw [u64_or_nat _ _ (by omega) (by omega)]
    congr 1
    rw [Nat.or_comm, Nat.mul_comm s, ← two_pow, ← Nat.two_pow_add_eq_or_of_lt (by rw [two_pow]; exact ha), Nat.add_comm]
  · rw [pow_split]
    have : s * 128 ^ k ≤ 127 * 128 ^ k := Nat.mul_le_mul_right _ (by omega)
    omega
/-- A tenth byte whose bits don't. -/
theorem bits_over {k s : Nat} (hk : k = 9) (hs : s < 128) (h1 : 1 < s) :
    ∃ T Q : Nat, IntKind.u64.wrap ((s : Int) * 2 ^ (7 * k)) = (T : Int) ∧ (T : Int) / 2 ^ (7 * k) = (Q : Int) ∧ Q ≠ s := by
  subst hk
  refine ⟨s % 2 * 9223372036854775808, s % 2, ?_, ?_, by omega⟩
  · rw [two_pow_int, pow_nine, IntKind.wrap_u64]
    omega
  · rw [two_pow_int, pow_nine]
    omega

theorem dec_ten (i n : Nat) (l : List UInt8) (h : 10 ≤ i) : decF i n l = none := by
  cases l with
  | nil => exact dec_nil _ _
  | cons c r => rw [dec_cons]; unfold decStep; rw [if_pos (Or.inl h)]
theorem dec_next {k acc s T : Nat} {c : UInt8} {rest : List UInt8} (hx : 128 ≤ c.toNat) (hs : c.toNat % 128 = s) (hT : s * 128 ^ k = T) : decF (k + 1) (acc + T) rest = decStep k acc c rest := by
  unfold decStep
  have hc := UInt8.toNat_lt c
  by_cases h9 : 9 ≤ k
  · rw [if_pos (by omega), dec_ten _ _ _ (by omega)]
  · rw [if_neg (by omega), if_neg (by omega), ← hT, ← hs, show c.toNat % 128 = c.toNat - 128 by omega]
theorem dec_zero {k acc : Nat} {c : UInt8} {rest : List UInt8} (hx : c.toNat = 0) (hk : 0 < k) : decStep k acc c rest = none := by
  unfold decStep
  split
  · rfl
  · rw [if_pos (by omega), if_pos ⟨hx, hk⟩]
theorem dec_last {k acc s T : Nat} {c : UInt8} {rest : List UInt8} (hx : c.toNat < 128) (hs : c.toNat % 128 = s) (hT : s * 128 ^ k = T) (hk : k ≤ 9) (hf : ¬ (k = 9 ∧ 1 < s)) (h0 : ¬ (c.toNat = 0 ∧ 0 < k)) :
    decStep k acc c rest = some (acc + T, k + 1) := by
  unfold decStep
  have e : c.toNat = s := by omega
  rw [if_neg (by omega), if_pos hx, if_neg h0, e, hT]

structure FirstAt (l : List UInt8) (M k acc : Nat) : Prop where
  dec : decF k acc (l.drop k) = decF 0 0 l
  lt : acc < 128 ^ k
set_option maxRecDepth 100000 in
theorem wireFirst (A : Option Addr) (cap : Nat) (l : List UInt8) (w : World) (hr : RdS w A cap l) (hl : l.length ≤ 1000000) :
    Calls Try.prog 56 #[.slice A l.length cap] w (Firsts l w) := by
  have HR := Lib.hid hr
  have hle := hr.le
  obtain ⟨M, hM⟩ : ∃ M, M = min l.length 10 := ⟨_, rfl⟩
  have hs := slice_to A l.length cap M (by omega) hr.nn
  have hmin : min (l.length : Int) 10 = (M : Int) := by omega
  have F0 : Hid (FirstAt l M 0 0) := Lib.hid ⟨rfl, by simp⟩
  have hM10 : M ≤ 10 := by omega
  have HM := Lib.hid hM
  clear hr hM
  go_enter Try.func56, Try.ntmps56
  go_upto_region 2 with fail
  go_cut [13, 14, 15] from 9 to 15 (fun v13 v14 v15 wx => v13 = .slice A M cap ∧ v14 = .int .i64 (M : Int) ∧ v15 = .int .i64 0 ∧ w = wx)
  case first =>
    by_cases h10 : 10 < l.length
    · obtain rfl : M = 10 := by have := HM.out; omega
      have hgz : (10 : Int) < (l.length : Int) := by omega
      go_wp2_with fail
      go_meet
      case rel => exact ⟨rfl, rfl, rfl, rfl⟩
    · obtain rfl : M = l.length := by have := HM.out; omega
      have hgz : ¬ (10 : Int) < (l.length : Int) := by omega
      go_wp2_with fail
      go_meet
      case rel => exact ⟨rfl, rfl, rfl, rfl⟩
  case rest =>
    obtain ⟨rfl, rfl, rfl, rfl⟩ := hcut
    clear hs hmin
    go_wp2
    go_loopg [4, 15] M (fun g s4 s15 wx => ∃ (k acc : Nat), k + g = M ∧ s4 = .int .u64 (acc : Nat) ∧ s15 = .int .i64 (k : Nat) ∧ Hid (FirstAt l M k acc) ∧ Hid (w = wx))
    case atStart => exact ⟨0, 0, by omega, rfl, rfl, F0, Lib.hid rfl⟩
    case round =>
      obtain ⟨k, acc, hkg, rfl, rfl, HF, HW⟩ := hrel
      obtain rfl := HW.out
      cases gk with
      | zero =>
        obtain rfl : k = M := by omega
        have e0 : decF 0 0 l = none := by
          rw [← HF.out.dec]
          by_cases h10 : 10 < l.length
          · obtain rfl : k = 10 := by have := HM.out; omega
            cases l.drop 10 with
            | nil => exact dec_nil _ _
            | cons c r => rw [dec_cons]; unfold decStep; rw [if_pos (Or.inl (by omega))]
          · rw [List.drop_eq_nil_of_le (by have := HM.out; omega)]; exact dec_nil _ _
        have HE := Lib.hid e0
        clear e0
        go_wp2
        go_ret2
        refine ⟨?_, rfl⟩
        rw [HE.out]
        rfl
      | succ g =>
        have hkl : k < l.length := by have := HM.out; omega
        obtain ⟨ad, rfl⟩ := HR.out.some_of (by omega)
        have hc := HR.out.rd ad rfl k l[k] (List.getElem?_eq_getElem hkl)
        have hst := dec_at k acc l k l[k] (List.getElem?_eq_getElem hkl)
        have hx := UInt8.toNat_lt l[k]
        have HS := Lib.hid (hst.symm.trans HF.out.dec)
        have HL := Lib.hid HF.out.lt
        generalize l[k] = c at hc HS hx
        have hk9 : k ≤ 9 := by omega
        obtain ⟨x, hxe⟩ : ∃ x : Nat, x = c.toNat := ⟨_, rfl⟩
        rw [← hxe] at hc hx
        have HX := Lib.hid hxe
        have hx : x < 256 := hx
        have h1 := andNot_byte hx
        have hs7 : x % 128 < 128 := Nat.mod_lt _ (by omega)
        generalize hsv : x % 128 = s at h1 hs7
        have HSV := Lib.hid hsv
        clear hst HF HR F0 HM hle hxe hsv
        by_cases hov : k = 9 ∧ 1 < s
        · obtain ⟨T, Q, h2, h3, hq⟩ := bits_over hov.1 hs7 hov.2
          have hq1 : ((Q : Int) == (s : Int)) = false := beq_eq_false_iff_ne.2 (by omega)
          have hq2 : ((Q : Int) != (s : Int)) = true := bne_iff_ne.2 (by omega)
          have HO := Lib.hid hov
          clear hov hq
          go_wp2
          go_ret2
          refine ⟨?_, rfl⟩
          rw [← HS.out]
          unfold decStep
          rw [if_pos (by right; have := HO.out; have := HSV.out; have := HX.out; omega)]
          rfl
        · obtain ⟨h2, h3, h4, h5⟩ := bits_fit hk9 hs7 hov HL.out
          have HO := Lib.hid hov
          have H5 := Lib.hid h5
          clear hov h5
          generalize hT : s * 128 ^ k = T at h2 h3 h4 H5
          have HT := Lib.hid hT
          clear hT
          by_cases h128 : 128 ≤ x
          · have hxz : 128 ≤ (x : Int) := by omega
            go_wp2
            go_roundg g
            case rel => exact ⟨k + 1, acc + T, by omega, by go_num, by go_num, Lib.hid ⟨(dec_next (by have := HX.out; omega) (by rw [← HX.out]; exact HSV.out) HT.out).trans HS.out, H5.out⟩, Lib.hid rfl⟩
            case measure => omega
          · have hxz : ¬ 128 ≤ (x : Int) := by omega
            by_cases h0 : x = 0 ∧ 0 < k
            · obtain ⟨h0, hk0⟩ := h0
              have hz : ((x : Int) == 0) = true := beq_iff_eq.2 (by omega)
              have hkz : (0 : Int) < (k : Int) := by omega
              have HE := Lib.hid (HS.out.symm.trans (dec_zero (by rw [← HX.out]; exact h0) hk0))
              clear h0
              go_wp2
              go_ret2
              refine ⟨?_, rfl⟩
              rw [HE.out]
              rfl
            · have HE := Lib.hid (HS.out.symm.trans (dec_last (by rw [← HX.out]; omega) (by rw [← HX.out]; exact HSV.out) HT.out hk9 HO.out (by rw [← HX.out]; exact h0)))
              by_cases hz0 : x = 0
              · have hkz : ¬ (0 : Int) < (k : Int) := by omega
                have hz : ((x : Int) == 0) = true := beq_iff_eq.2 (by omega)
                clear h0 hz0
                go_wp2
                go_ret2
                refine ⟨?_, rfl⟩
                rw [HE.out]
                rfl
              · have hz : ((x : Int) == 0) = false := beq_eq_false_iff_ne.2 (by omega)
                clear h0 hz0
                go_wp2
                go_ret2
                refine ⟨?_, rfl⟩
                rw [HE.out]
                rfl
end Go.Proofs.Ytgohgmihoggcpaa
