/-
  Layer 6 (wire): the document's own Reader: its Number.
-/
import Derived.Test.YtcddgbllmobhdaaDoorWireRead
namespace Go.Proofs.YtcddgbllmobhdaaDoor
open Go.ChangeShapes Go.WideShapes Go.ChangeAt Go.RowKit
set_option linter.unusedVariables false

/-- The document's reader in block b reads the bytes l; where it stands, and its place where it is amiss. -/
structure Rfr (w : World) (b : Nat) (A : Option Addr) (cap : Nat) (l : List UInt8) (at_ : Nat) (bad : Bool) (pos : Nat) : Prop where
  blk : w.heap[b]? = some (.cells #[.slice A l.length cap, .int .i64 (at_ : Nat), .bool bad, .int .i64 (pos : Nat)] 37 (0, 0))
  rd : RdS w A cap l
  ne : ∀ ad, A = some ad → l ≠ [] → ad.block ≠ b
  le : at_ ≤ l.length
section
variable {w w' : World} {b : Nat} {A : Option Addr} {cap : Nat} {l : List UInt8} {k p : Nat} {bad : Bool}
theorem Rfr.c0 (h : Rfr w b A cap l k bad p) : w.cell? ⟨b, 0, none⟩ = some (.slice A l.length cap) := cell_of_block h.blk
theorem Rfr.c1 (h : Rfr w b A cap l k bad p) : w.cell? ⟨b, 1, none⟩ = some (.int .i64 (k : Nat)) := cell_of_block h.blk
theorem Rfr.c2 (h : Rfr w b A cap l k bad p) : w.cell? ⟨b, 2, none⟩ = some (.bool bad) := cell_of_block h.blk
theorem Rfr.c3 (h : Rfr w b A cap l k bad p) : w.cell? ⟨b, 3, none⟩ = some (.int .i64 (p : Nat)) := cell_of_block h.blk
theorem Rfr.fz (h : Rfr w b A cap l k bad p) (o : Nat) : w.frozen? ⟨b, o, none⟩ = false := frozen_of_block h.blk
theorem Rfr.lt (h : Rfr w b A cap l k bad p) : b < w.heap.size := lt_of_block h.blk
theorem Rfr.drew (h : Rfr w b A cap l k bad p) (n : Nat) : Rfr (w.drewN n) b A cap l k bad p := ⟨h.blk, h.rd.drew n, h.ne, h.le⟩
theorem Rfr.move (h : Rfr w b A cap l k bad p) (j : Nat) (hj : j ≤ l.length) : Rfr (w.setCell ⟨b, 1, none⟩ (.int .i64 (j : Nat))) b A cap l j bad p :=
  ⟨heap_set_same h.blk, h.rd.grown (grown_set (grown_refl _ _) _ _ (Or.inl rfl)) h.ne, h.ne, hj⟩
theorem Rfr.mark (h : Rfr w b A cap l k bad p) (x : Bool) : Rfr (w.setCell ⟨b, 2, none⟩ (.bool x)) b A cap l k x p :=
  ⟨heap_set_same h.blk, h.rd.grown (grown_set (grown_refl _ _) _ _ (Or.inl rfl)) h.ne, h.ne, h.le⟩
theorem Rfr.place (h : Rfr w b A cap l k bad p) (j : Nat) : Rfr (w.setCell ⟨b, 3, none⟩ (.int .i64 (j : Nat))) b A cap l k bad j :=
  ⟨heap_set_same h.blk, h.rd.grown (grown_set (grown_refl _ _) _ _ (Or.inl rfl)) h.ne, h.ne, h.le⟩
end
/-- The two readers say the same. -/
structure Tells (r : Rs) (k : Nat) (bad : Bool) (p : Nat) : Prop where
  bad : bad = r.bad
  good : r.bad = false → k = r.at_
  amiss : r.bad = true → p = r.at_
/-- What becomes of the world while a method of the document's reader runs. -/
def Mf (w : World) (b : Nat) (A : Option Addr) (cap : Nat) (l : List UInt8) (r : Rs) (w' : World) : Prop :=
  w.grownBy w' (some b) ∧ ∃ k p, Tells r k r.bad p ∧ Rfr w' b A cap l k r.bad p
def Numf (w : World) (b : Nat) (A : Option Addr) (cap : Nat) (l : List UInt8) (r : Rs) (e : Ending) (w' : World) : Prop :=
  e = .returned (.int .u64 ((rsNum l r).1 : Nat)) ∧ Mf w b A cap l (rsNum l r).2 w'

structure RefAt (l : List UInt8) (k0 i k acc P : Nat) : Prop where
  dec : decF k acc (l.drop i) = decF 0 0 (l.drop k0)
  lt : acc < 128 ^ k
  pow : P = 128 ^ k % 18446744073709551616
  at_ : i = k0 + k
theorem ref_amiss {w : World} {b : Nat} {A : Option Addr} {cap : Nat} {l : List UInt8} {k p : Nat} (h : Rfr w b A cap l k false p) (hd : decF 0 0 (l.drop k) = none) :
    Mf w b A cap l (rsNum l ⟨k, false⟩).2 ((w.setCell ⟨b, 2, none⟩ (.bool true)).setCell ⟨b, 3, none⟩ (.int .i64 (k : Nat))) := by
  have e : rsNum l ⟨k, false⟩ = (0, ⟨k, true⟩) := by unfold rsNum; simp only; rw [hd]; rfl
  rw [e]
  exact ⟨grown_set (grown_set (grown_refl _ _) _ _ (Or.inl rfl)) _ _ (Or.inl rfl), k, k, ⟨rfl, (fun h => by cases h), fun _ => rfl⟩, (h.mark true).place k⟩
theorem rsNum_none {l : List UInt8} {k : Nat} (hd : decF 0 0 (l.drop k) = none) : (rsNum l ⟨k, false⟩).1 = 0 := by unfold rsNum; simp only; rw [hd]; rfl
/-- A byte's part in the sum, as the document's reader reckons it. -/
theorem ref_fit {k acc s P : Nat} (hk : k ≤ 9) (hs : s < 128) (hf : ¬ (k = 9 ∧ 1 < s)) (ha : acc < 128 ^ k) (hP : P = 128 ^ k % 18446744073709551616) :
    IntKind.u64.wrap ((s : Int) * (P : Int)) = ((s * 128 ^ k : Nat) : Int) ∧ acc + s * 128 ^ k < 18446744073709551616 ∧ acc + s * 128 ^ k < 128 ^ (k + 1) ∧
      IntKind.u64.wrap ((P : Int) * 128) = ((128 ^ (k + 1) % 18446744073709551616 : Nat) : Int) := by
  obtain ⟨f1, f2, f3, f4⟩ := bits_fit hk hs hf ha
  have hpk : 128 ^ k < 18446744073709551616 := by
    rcases Nat.lt_or_ge k 9 with h | h
    · have := pow_le (k := k) (by omega); omega
    · obtain rfl : k = 9 := by omega
      rw [pow_nine]; omega
  have hPk : P = 128 ^ k := by rw [hP, Nat.mod_eq_of_lt hpk]
  refine ⟨?_, ?_, f4, ?_⟩
  · rw [hPk, ← two_pow_int]; exact f1
  · rcases Nat.lt_or_ge k 9 with h | h
    · have h1 := pow_le (k := k) (by omega)
      have : s * 128 ^ k ≤ 127 * 128 ^ k := Nat.mul_le_mul_right _ (by omega)
      omega
    · obtain rfl : k = 9 := by omega
      have h2 : s ≤ 1 := by omega
      rw [pow_nine] at ha ⊢
      omega
  · rw [hPk, pow_split, IntKind.wrap_u64]
    omega
theorem rsNum_some {l : List UInt8} {k n j : Nat} (hd : decF 0 0 (l.drop k) = some (n, j)) : rsNum l ⟨k, false⟩ = (n, ⟨k + j, false⟩) := by unfold rsNum; simp only; rw [hd]; rfl
theorem ref_good {w : World} {b : Nat} {A : Option Addr} {cap : Nat} {l : List UInt8} {k p n i j : Nat} (h : Rfr w b A cap l k false p) (hd : decF 0 0 (l.drop k) = some (n, j)) (hi : i + 1 = k + j) (hle : i + 1 ≤ l.length) :
    Mf w b A cap l (rsNum l ⟨k, false⟩).2 (w.setCell ⟨b, 1, none⟩ (.int .i64 ((i : Int) + 1))) := by
  rw [rsNum_some hd]
  have hm := h.move (i + 1) hle
  rw [Int.natCast_add] at hm
  exact ⟨grown_set (grown_refl _ _) _ _ (Or.inl rfl), i + 1, p, ⟨rfl, fun _ => hi, (fun e => by cases e)⟩, hm⟩
set_option maxRecDepth 100000 in
set_option maxHeartbeats 1000000 in
theorem refReadNumber (w : World) (b : Nat) (A : Option Addr) (cap : Nat) (l : List UInt8) (r : Rs) (k0 p : Nat) (h : Rfr w b A cap l k0 r.bad p) (ht : Tells r k0 r.bad p) (hl : l.length ≤ 100000) :
    Calls Tryd.prog 16 #[.pointer (some ⟨b, 0, none⟩)] w (Numf w b A cap l r) := by
  have c0 := h.c0
  have c1 := h.c1
  have c2 := h.c2
  have c3 := h.c3
  have HR := Lib.hid h
  obtain ⟨rk, bad⟩ := r
  cases bad with
  | true =>
    have HT := Lib.hid ht
    clear h ht
    go_enter Tryd.func16, Tryd.ntmps16
    go_wp2
    go_ret
    exact ⟨rfl, grown_refl _ _, k0, p, HT.out, HR.out⟩
  | false =>
    obtain rfl : k0 = rk := ht.good rfl
    have hk : k0 ≤ l.length := h.le
    have f1 := h.fz 1
    have f2 := h.fz 2
    have f3 := h.fz 3
    have hle := h.rd.le
    have F0 : Hid (RefAt l k0 k0 0 0 1) := Lib.hid ⟨rfl, by simp, by decide, rfl⟩
    obtain ⟨M, hM⟩ : ∃ M, M = min (l.length - k0) 10 := ⟨_, rfl⟩
    have HM := Lib.hid hM
    clear h ht hM
    unfold Numf
    go_enter Tryd.func16, Tryd.ntmps16
    go_wp2
    go_loopg [3, 4, 5] M (fun g s3 s4 s5 wx => ∃ (i k acc P : Nat), k + g = M ∧ k0 ≤ i ∧ s3 = .int .u64 (acc : Nat) ∧ s4 = .int .u64 (P : Nat) ∧ s5 = .int .i64 (i : Nat) ∧ Hid (RefAt l k0 i k acc P) ∧ Hid (w = wx))
    case atStart => exact ⟨k0, 0, 0, 1, by omega, Nat.le_refl _, rfl, rfl, rfl, F0, Lib.hid rfl⟩
    case round =>
      obtain ⟨i, k, acc, P, hkg, hki, rfl, rfl, rfl, HF, HW⟩ := hrel
      obtain rfl := HW.out
      cases gk with
      | zero =>
        obtain rfl : k = M := by omega
        have hd : decF 0 0 (l.drop k0) = none := by
          rw [← HF.out.dec]
          by_cases h10 : 10 ≤ k
          · exact dec_ten _ _ _ h10
          · rw [List.drop_eq_nil_of_le (by have := HM.out; have := HF.out.at_; omega)]; exact dec_nil _ _
        have HD := Lib.hid hd
        clear hd
        by_cases hil : l.length ≤ i
        · have hz : ¬ (i : Int) < (l.length : Int) := by omega
          go_wp2
          go_ret
          exact ⟨by rw [rsNum_none HD.out]; rfl, ref_amiss HR.out HD.out⟩
        · have hz : (i : Int) < (l.length : Int) := by omega
          have hz2 : ¬ (i : Int) < (k0 : Int) + 10 := by have := HM.out; have := HF.out.at_; omega
          go_wp2
          go_ret
          exact ⟨by rw [rsNum_none HD.out]; rfl, ref_amiss HR.out HD.out⟩
      | succ g =>
        have hat := HF.out.at_
        have hkM : k + 1 ≤ min (l.length - k0) 10 := by have := HM.out; omega
        have hil : i < l.length := by omega
        have hk9 : k ≤ 9 := by omega
        have hz : (i : Int) < (l.length : Int) := by omega
        have hz2 : (i : Int) < (k0 : Int) + 10 := by omega
        have hz0 : (0 : Int) ≤ (i : Int) := by omega
        obtain ⟨ad, rfl⟩ := HR.out.rd.some_of (by omega)
        have hc := HR.out.rd.rd ad rfl i l[i] (List.getElem?_eq_getElem hil)
        have hst := (dec_at k acc l i l[i] (List.getElem?_eq_getElem hil)).symm.trans HF.out.dec
        have hx := UInt8.toNat_lt l[i]
        have HA := Lib.hid hat
        have HP := Lib.hid HF.out.pow
        have HL := Lib.hid HF.out.lt
        have HS := Lib.hid hst
        generalize l[i] = c at hc HS hx
        obtain ⟨x, hxe⟩ : ∃ x : Nat, x = c.toNat := ⟨_, rfl⟩
        rw [← hxe] at hc hx
        have HX := Lib.hid hxe
        have hx : x < 256 := hx
        obtain ⟨s, hsv⟩ : ∃ s : Nat, s = x % 128 := ⟨_, rfl⟩
        have hs7 : s < 128 := by omega
        have hsx : (x : Int) % 128 = (s : Int) := by omega
        have HSV := Lib.hid hsv
        clear hst HF F0 HM hxe hkM hat hsv
        by_cases hov : k = 9 ∧ 1 < x
        · have hq : ((i : Int) == (k0 : Int) + 9) = true := beq_iff_eq.2 (by have := HA.out; omega)
          have hx1 : (1 : Int) < (x : Int) := by omega
          have HD : Hid (decF 0 0 (l.drop k0) = none) := Lib.hid (by
            rw [← HS.out]; unfold decStep; rw [if_pos (Or.inr ⟨hov.1, by rw [← HX.out]; exact hov.2⟩)])
          clear hov
          go_wp2
          go_ret
          exact ⟨by rw [rsNum_none HD.out]; rfl, ref_amiss HR.out HD.out⟩
        · have hf : ¬ (k = 9 ∧ 1 < s) := by have := HSV.out; omega
          obtain ⟨h2, h3, h5, h4⟩ := ref_fit hk9 hs7 hf HL.out HP.out
          have H5 := Lib.hid h5
          have HF9 := Lib.hid hf
          clear h5 hf
          generalize hT : s * 128 ^ k = T at h2 h3 H5
          generalize hP' : 128 ^ (k + 1) % 18446744073709551616 = P' at h4
          have HT := Lib.hid hT
          have HP' := Lib.hid hP'
          clear hT hP'
          have hor : (((i : Int) == (k0 : Int) + 9) = true ∧ ¬ (1 : Int) < (x : Int)) ∨ ((i : Int) == (k0 : Int) + 9) = false := by
            by_cases hk : k = 9
            · exact Or.inl ⟨beq_iff_eq.2 (by have := HA.out; omega), by omega⟩
            · exact Or.inr (beq_eq_false_iff_ne.2 (by have := HA.out; omega))
          clear hov
          by_cases h128 : x < 128
          · have hxz : (x : Int) < 128 := by omega
            by_cases h0 : x = 0 ∧ 0 < k
            · have hx0 : ((x : Int) == 0) = true := beq_iff_eq.2 (by omega)
              have hkz : (k0 : Int) < (i : Int) := by have := HA.out; omega
              have HD := Lib.hid (HS.out.symm.trans (dec_zero (by rw [← HX.out]; exact h0.1) h0.2))
              clear h0
              rcases hor with ⟨hq, hx1⟩ | hq
              all_goals
                go_wp2
                go_ret
                exact ⟨by rw [rsNum_none HD.out]; rfl, ref_amiss HR.out HD.out⟩
            · have HD := Lib.hid (HS.out.symm.trans (dec_last (by rw [← HX.out]; exact h128) (by rw [← HX.out]; exact HSV.out.symm) HT.out hk9 HF9.out (by rw [← HX.out]; exact h0)))
              have hor2 : ((k0 : Int) < (i : Int) ∧ ((x : Int) == 0) = false) ∨ ¬ (k0 : Int) < (i : Int) := by
                by_cases hk : 0 < k
                · exact Or.inl ⟨by have := HA.out; omega, beq_eq_false_iff_ne.2 (by omega)⟩
                · exact Or.inr (by have := HA.out; omega)
              clear h0
              rcases hor with ⟨hq, hx1⟩ | hq
              all_goals rcases hor2 with ⟨hkz, hx0⟩ | hkz
              all_goals
                go_wp2
                go_ret
                exact ⟨by rw [rsNum_some HD.out]; exact ret_int (by omega), ref_good HR.out HD.out (by have := HA.out; omega) (by omega)⟩
          · have hxz : ¬ (x : Int) < 128 := by omega
            have HD := Lib.hid ((dec_next (rest := l.drop (i + 1)) (acc := acc) (by rw [← HX.out]; omega) (by rw [← HX.out]; exact HSV.out.symm) HT.out).trans HS.out)
            rcases hor with ⟨hq, hx1⟩ | hq
            · exact absurd hx1 (by omega)
            · go_wp2
              go_roundg g
              case rel => exact ⟨i + 1, k + 1, acc + T, P', by omega, by omega, by go_num, rfl, by go_num, Lib.hid ⟨HD.out, H5.out, HP'.out.symm, by have := HA.out; omega⟩, Lib.hid rfl⟩
              case measure => omega
end Go.Proofs.YtcddgbllmobhdaaDoor
