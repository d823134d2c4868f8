/-
  Layer 6 (wire): the document's own Reader: its Number. Layer 6 (wire): the document's own Reader: its Whole, Text, End. Layer 6 (wire): the document's own Reader: its End.
-/
import Derived.Test.YtgeahpfdaehjaaaGreatDoorGrpC
import Derived.Test.YtgeahpfdaehjaaaGreatDoorQWireEnd
namespace Go.Proofs.YtgeahpfdaehjaaaGreatDoor
open Go.ChangeShapes Go.WideShapes Go.ChangeAt Go.RowKit
set_option linter.unusedVariables false

/-- The document's reader in block b reads the bytes l; where it stands, and its place where it is amiss. -/
structure Rfr (w : World) (b : Nat) (A : Option Addr) (cap : Nat) (l : List UInt8) (at_ : Nat) (bad : Bool) (pos : Nat) : Prop where
  blk : w.heap[b]? = some (.cells #[.slice A l.length cap, .int .i64 (at_ : Nat), .bool bad, .int .i64 (pos : Nat)] 161 (0, 0))
  rd : RdS w A cap l
  ne : ∀ ad, A = some ad → l ≠ [] → ad.block ≠ b
  le : at_ ≤ l.length
section
variable {w w' : World} {b : Nat} {A : Option Addr} {cap : Nat} {l : List UInt8} {k p : Nat} {bad : Bool}
theorem Rfr.c0 (h : Rfr w b A cap l k bad p) : w.cell? ⟨b, 0, none⟩ = some (.slice A l.length cap) := cell_of_block h.blk
theorem Rfr.c1 (h : Rfr w b A cap l k bad p) : w.cell? ⟨b, 1, none⟩ = some (.int .i64 (k : Nat)) := cell_of_block h.blk
theorem Rfr.c2 (h : Rfr w b A cap l k bad p) : w.cell? ⟨b, 2, none⟩ = some (.bool bad) := cell_of_block h.blk
theorem Rfr.c3 (h : Rfr w b A cap l k bad p) : w.cell? ⟨b, 3, none⟩ = some (.int .i64 (p : Nat)) := cell_of_block h.blk
theorem Rfr.fz (h : Rfr w b A cap l k bad p) (o : Nat) : w.frozen? ⟨b, o, none⟩ = false := frozen_of_block h.blk
theorem Rfr.lt (h : Rfr w b A cap l k bad p) : b < w.heap.size := lt_of_block h.blk
theorem Rfr.drew (h : Rfr w b A cap l k bad p) (n : Nat) : Rfr (w.drewN n) b A cap l k bad p := ⟨h.blk, h.rd.drew n, h.ne, h.le⟩
theorem Rfr.move (h : Rfr w b A cap l k bad p) (j : Nat) (hj : j ≤ l.length) : Rfr (w.setCell ⟨b, 1, none⟩ (.int .i64 (j : Nat))) b A cap l j bad p :=
  ⟨heap_set_same h.blk, h.rd.grown (grown_set (grown_refl _ _) _ _ (Or.inl rfl)) h.ne, h.ne, hj⟩
theorem Rfr.mark (h : Rfr w b A cap l k bad p) (x : Bool) : Rfr (w.setCell ⟨b, 2, none⟩ (.bool x)) b A cap l k x p :=
  ⟨heap_set_same h.blk, h.rd.grown (grown_set (grown_refl _ _) _ _ (Or.inl rfl)) h.ne, h.ne, h.le⟩
theorem Rfr.place (h : Rfr w b A cap l k bad p) (j : Nat) : Rfr (w.setCell ⟨b, 3, none⟩ (.int .i64 (j : Nat))) b A cap l k bad j :=
  ⟨heap_set_same h.blk, h.rd.grown (grown_set (grown_refl _ _) _ _ (Or.inl rfl)) h.ne, h.ne, h.le⟩
end
/-- The two readers say the same. -/
structure Tells (r : Rs) (k : Nat) (bad : Bool) (p : Nat) : Prop where
  bad : bad = r.bad
  good : r.bad = false → k = r.at_
  amiss : r.bad = true → p = r.at_
/-- What becomes of the world while a method of the document's reader runs. -/
def Mf (w : World) (b : Nat) (A : Option Addr) (cap : Nat) (l : List UInt8) (r : Rs) (w' : World) : Prop :=
  w.grownBy w' (some b) ∧ ∃ k p, Tells r k r.bad p ∧ Rfr w' b A cap l k r.bad p
def Numf (w : World) (b : Nat) (A : Option Addr) (cap : Nat) (l : List UInt8) (r : Rs) (e : Ending) (w' : World) : Prop :=
  e = .returned (.int .u64 ((rsNum l r).1 : Nat)) ∧ Mf w b A cap l (rsNum l r).2 w'

structure RefAt (l : List UInt8) (k0 i k acc P : Nat) : Prop where
  dec : decF k acc (l.drop i) = decF 0 0 (l.drop k0)
  lt : acc < 128 ^ k
  pow : P = 128 ^ k % 18446744073709551616
  at_ : i = k0 + k
theorem ref_amiss {w : World} {b : Nat} {A : Option Addr} {cap : Nat} {l : List UInt8} {k p : Nat} (h : Rfr w b A cap l k false p) (hd : decF 0 0 (l.drop k) = none) :
    Mf w b A cap l (rsNum l ⟨k, false⟩).2 ((w.setCell ⟨b, 2, none⟩ (.bool true)).setCell ⟨b, 3, none⟩ (.int .i64 (k : Nat))) := by
  have e : rsNum l ⟨k, false⟩ = (0, ⟨k, true⟩) := by unfold rsNum; simp only; rw [hd]; rfl
  rw [e]
  exact ⟨grown_set (grown_set (grown_refl _ _) _ _ (Or.inl rfl)) _ _ (Or.inl rfl), k, k, ⟨rfl, (fun h => by cases h), fun _ => rfl⟩, (h.mark true).place k⟩
theorem rsNum_none {l : List UInt8} {k : Nat} (hd : decF 0 0 (l.drop k) = none) : (rsNum l ⟨k, false⟩).1 = 0 := by unfold rsNum; simp only; rw [hd]; rfl
/-- A byte's part in the sum, as the document's reader reckons it. -/
theorem ref_fit {k acc s P : Nat} (hk : k ≤ 9) (hs : s < 128) (hf : ¬ (k = 9 ∧ 1 < s)) (ha : acc < 128 ^ k) (hP : P = 128 ^ k % 18446744073709551616) :
    IntKind.u64.wrap ((s : Int) * (P : Int)) = ((s * 128 ^ k : Nat) : Int) ∧ acc + s * 128 ^ k < 18446744073709551616 ∧ acc + s * 128 ^ k < 128 ^ (k + 1) ∧
      IntKind.u64.wrap ((P : Int) * 128) = ((128 ^ (k + 1) % 18446744073709551616 : Nat) : Int) := by
  obtain ⟨f1, f2, f3, f4⟩ := bits_fit hk hs hf ha
  have hpk : 128 ^ k < 18446744073709551616 := by
    rcases Nat.lt_or_ge k 9 with h | h
    · have := pow_le (k := k) (by omega); omega
    · obtain rfl : k = 9 := by omega
      rw [pow_nine]; omega
  have hPk : P = 128 ^ k := by rw [hP, Nat.mod_eq_of_lt hpk]
  refine ⟨?_, ?_, f4, ?_⟩
  · rw [hPk, ← two_pow_int]; exact f1
  · rcases Nat.lt_or_ge k 9 with h | h
    · have h1 := pow_le (k := k) (by omega)
      have : s * 128 ^ k ≤ 127 * 128 ^ k := Nat.mul_le_mul_right _ (by omega)
      omega
    · obtain rfl : k = 9 := by omega
      have h2 : s ≤ 1 := by omega
      rw [pow_nine] at ha ⊢
      omega
  · rw [hPk, pow_split, IntKind.wrap_u64]
    omega
theorem rsNum_some {l : List UInt8} {k n j : Nat} (hd : decF 0 0 (l.drop k) = some (n, j)) : rsNum l ⟨k, false⟩ = (n, ⟨k + j, false⟩) := by unfold rsNum; simp only; rw [hd]; rfl
theorem ref_good {w : World} {b : Nat} {A : Option Addr} {cap : Nat} {l : List UInt8} {k p n i j : Nat} (h : Rfr w b A cap l k false p) (hd : decF 0 0 (l.drop k) = some (n, j)) (hi : i + 1 = k + j) (hle : i + 1 ≤ l.length) :
    Mf w b A cap l (rsNum l ⟨k, false⟩).2 (w.setCell ⟨b, 1, none⟩ (.int .i64 ((i : Int) + 1))) := by
  rw [rsNum_some hd]
  have hm := h.move (i + 1) hle
  rw [Int.natCast_add] at hm
  exact ⟨grown_set (grown_refl _ _) _ _ (Or.inl rfl), i + 1, p, ⟨rfl, fun _ => hi, (fun e => by cases e)⟩, hm⟩
set_option maxRecDepth 100000 in
set_option maxHeartbeats 1000000 in
theorem refReadNumber (w : World) (b : Nat) (A : Option Addr) (cap : Nat) (l : List UInt8) (r : Rs) (k0 p : Nat) (h : Rfr w b A cap l k0 r.bad p) (ht : Tells r k0 r.bad p) (hl : l.length ≤ 1000000) :
    Calls Tryz.prog 113 #[.pointer (some ⟨b, 0, none⟩)] w (Numf w b A cap l r) := by
  have c0 := h.c0
  have c1 := h.c1
  have c2 := h.c2
  have c3 := h.c3
  have HR := Lib.hid h
  obtain ⟨rk, bad⟩ := r
  cases bad with
  | true =>
    have HT := Lib.hid ht
    clear h ht
    go_enter Tryz.func113, Tryz.ntmps113
    go_wp2
    go_ret
    exact ⟨rfl, grown_refl _ _, k0, p, HT.out, HR.out⟩
  | false =>
    obtain rfl : k0 = rk := ht.good rfl
    have hk : k0 ≤ l.length := h.le
    have f1 := h.fz 1
    have f2 := h.fz 2
    have f3 := h.fz 3
    have hle := h.rd.le
    have F0 : Hid (RefAt l k0 k0 0 0 1) := Lib.hid ⟨rfl, by simp, by decide, rfl⟩
    obtain ⟨M, hM⟩ : ∃ M, M = min (l.length - k0) 10 := ⟨_, rfl⟩
    have HM := Lib.hid hM
    clear h ht hM
    unfold Numf
    go_enter Tryz.func113, Tryz.ntmps113
    go_wp2
    go_loopg [3, 4, 5] M (fun g s3 s4 s5 wx => ∃ (i k acc P : Nat), k + g = M ∧ k0 ≤ i ∧ s3 = .int .u64 (acc : Nat) ∧ s4 = .int .u64 (P : Nat) ∧ s5 = .int .i64 (i : Nat) ∧ Hid (RefAt l k0 i k acc P) ∧ Hid (w = wx))
    case atStart => exact ⟨k0, 0, 0, 1, by omega, Nat.le_refl _, rfl, rfl, rfl, F0, Lib.hid rfl⟩
    case round =>
      obtain ⟨i, k, acc, P, hkg, hki, rfl, rfl, rfl, HF, HW⟩ := hrel
      obtain rfl := HW.out
      cases gk with
      | zero =>
        obtain rfl : k = M := by omega
        have hd : decF 0 0 (l.drop k0) = none := by
          rw [← HF.out.dec]
          by_cases h10 : 10 ≤ k
          · exact dec_ten _ _ _ h10
          · rw [List.drop_eq_nil_of_le (by have := HM.out; have := HF.out.at_; omega)]; exact dec_nil _ _
        have HD := Lib.hid hd
        clear hd
        by_cases hil : l.length ≤ i
        · have hz : ¬ (i : Int) < (l.length : Int) := by omega
          go_wp2
          go_ret
          exact ⟨by rw [rsNum_none HD.out]; rfl, ref_amiss HR.out HD.out⟩
        · have hz : (i : Int) < (l.length : Int) := by omega
          have hz2 : ¬ (i : Int) < (k0 : Int) + 10 := by have := HM.out; have := HF.out.at_; omega
          go_wp2
          go_ret
          exact ⟨by rw [rsNum_none HD.out]; rfl, ref_amiss HR.out HD.out⟩
      | succ g =>
        have hat := HF.out.at_
        have hkM : k + 1 ≤ min (l.length - k0) 10 := by have := HM.out; omega
        have hil : i < l.length := by omega
        have hk9 : k ≤ 9 := by omega
        have hz : (i : Int) < (l.length : Int) := by omega
        have hz2 : (i : Int) < (k0 : Int) + 10 := by omega
        have hz0 : (0 : Int) ≤ (i : Int) := by omega
        obtain ⟨ad, rfl⟩ := HR.out.rd.some_of (by omega)
        have hc := HR.out.rd.rd ad rfl i l[i] (List.getElem?_eq_getElem hil)
        have hst := (dec_at k acc l i l[i] (List.getElem?_eq_getElem hil)).symm.trans HF.out.dec
        have hx := UInt8.toNat_lt l[i]
        have HA := Lib.hid hat
        have HP := Lib.hid HF.out.pow
        have HL := Lib.hid HF.out.lt
        have HS := Lib.hid hst
        generalize l[i] = c at hc HS hx
        obtain ⟨x, hxe⟩ : ∃ x : Nat, x = c.toNat := ⟨_, rfl⟩
        rw [← hxe] at hc hx
        have HX := Lib.hid hxe
        have hx : x < 256 := hx
        obtain ⟨s, hsv⟩ : ∃ s : Nat, s = x % 128 := ⟨_, rfl⟩
        have hs7 : s < 128 := by omega
        have hsx : (x : Int) % 128 = (s : Int) := by omega
        have HSV := Lib.hid hsv
        clear hst HF F0 HM hxe hkM hat hsv
        by_cases hov : k = 9 ∧ 1 < x
        · have hq : ((i : Int) == (k0 : Int) + 9) = true := beq_iff_eq.2 (by have := HA.out; omega)
          have hx1 : (1 : Int) < (x : Int) := by omega
          have HD : Hid (decF 0 0 (l.drop k0) = none) := Lib.hid (by
            rw [← HS.out]; unfold decStep; rw [if_pos (Or.inr ⟨hov.1, by rw [← HX.out]; exact hov.2⟩)])
          clear hov
          go_wp2
          go_ret
          exact ⟨by rw [rsNum_none HD.out]; rfl, ref_amiss HR.out HD.out⟩
        · have hf : ¬ (k = 9 ∧ 1 < s) := by have := HSV.out; omega
          obtain ⟨h2, h3, h5, h4⟩ := ref_fit hk9 hs7 hf HL.out HP.out
          have H5 := Lib.hid h5
          have HF9 := Lib.hid hf
          clear h5 hf
          generalize hT : s * 128 ^ k = T at h2 h3 H5
          generalize hP' : 128 ^ (k + 1) % 18446744073709551616 = P' at h4
          have HT := Lib.hid hT
          have HP' := Lib.hid hP'
          clear hT hP'
          have hor : (((i : Int) == (k0 : Int) + 9) = true ∧ ¬ (1 : Int) < (x : Int)) ∨ ((i : Int) == (k0 : Int) + 9) = false := by
            by_cases hk : k = 9
            · exact Or.inl ⟨beq_iff_eq.2 (by have := HA.out; omega), by omega⟩
            · exact Or.inr (beq_eq_false_iff_ne.2 (by have := HA.out; omega))
          clear hov
          by_cases h128 : x < 128
          · have hxz : (x : Int) < 128 := by omega
            by_cases h0 : x = 0 ∧ 0 < k
            · have hx0 : ((x : Int) == 0) = true := beq_iff_eq.2 (by omega)
              have hkz : (k0 : Int) < (i : Int) := by have := HA.out; omega
              have HD := Lib.hid (HS.out.symm.trans (dec_zero (by rw [← HX.out]; exact h0.1) h0.2))
              clear h0
              rcases hor with ⟨hq, hx1⟩ | hq
              all_goals
                go_wp2
                go_ret
                exact ⟨by rw [rsNum_none HD.out]; rfl, ref_amiss HR.out HD.out⟩
            · have HD := Lib.hid (HS.out.symm.trans (dec_last (by rw [← HX.out]; exact h128) (by rw [← HX.out]; exact HSV.out.symm) HT.out hk9 HF9.out (by rw [← HX.out]; exact h0)))
              have hor2 : ((k0 : Int) < (i : Int) ∧ ((x : Int) == 0) = false) ∨ ¬ (k0 : Int) < (i : Int) := by
                by_cases hk : 0 < k
                · exact Or.inl ⟨by have := HA.out; omega, beq_eq_false_iff_ne.2 (by omega)⟩
                · exact Or.inr (by have := HA.out; omega)
              clear h0
              rcases hor with ⟨hq, hx1⟩ | hq
              all_goals rcases hor2 with ⟨hkz, hx0⟩ | hkz
              all_goals
                go_wp2
                go_ret
                exact ⟨by rw [rsNum_some HD.out]; exact ret_ik (by omega), ref_good HR.out HD.out (by have := HA.out; omega) (by omega)⟩
          · have hxz : ¬ (x : Int) < 128 := by omega
            have HD := Lib.hid ((dec_next (rest := l.drop (i + 1)) (acc := acc) (by rw [← HX.out]; omega) (by rw [← HX.out]; exact HSV.out.symm) HT.out).trans HS.out)
            rcases hor with ⟨hq, hx1⟩ | hq
            · exact absurd hx1 (by omega)
            · go_wp2
              go_roundg g
              case rel => exact ⟨i + 1, k + 1, acc + T, P', by omega, by omega, by go_num, rfl, by go_num, Lib.hid ⟨HD.out, H5.out, HP'.out.symm, by have := HA.out; omega⟩, Lib.hid rfl⟩
              case measure => omega
end Go.Proofs.YtgeahpfdaehjaaaGreatDoor
namespace Go.Proofs.YtgeahpfdaehjaaaGreatDoor
open Go.ChangeShapes Go.WideShapes Go.ChangeAt Go.RowKit
set_option linter.unusedVariables false

def Wholef (w : World) (b : Nat) (A : Option Addr) (cap : Nat) (l : List UInt8) (r : Rs) (e : Ending) (w' : World) : Prop :=
  e = .returned (.int .i64 (unfoldN (rsNum l r).1)) ∧ Mf w b A cap l (rsNum l r).2 w'
theorem rsText_num_bad (l : List UInt8) (r : Rs) (most : Int) (h : (rsNum l r).2.bad = true) : rsText l most r = ([], (rsNum l r).2) := by
  unfold rsText
  unfold rsNum at h ⊢
  obtain ⟨k, bad⟩ := r
  cases bad with
  | true => rfl
  | false =>
    simp only at h ⊢
    cases hd : decF 0 0 (l.drop k) with
    | none => rfl
    | some p => rw [hd] at h; cases h
theorem rsNum_bad_false (l : List UInt8) (r : Rs) (h : (rsNum l r).2.bad = false) : ∃ n k, r.bad = false ∧ decF 0 0 (l.drop r.at_) = some (n, k) ∧ rsNum l r = (n, ⟨r.at_ + k, false⟩) := by
  unfold rsNum at h ⊢
  obtain ⟨k, bad⟩ := r
  cases bad with
  | true => cases h
  | false =>
    simp only at h ⊢
    cases hd : decF 0 0 (l.drop k) with
    | none => rw [hd] at h; cases h
    | some p => exact ⟨p.1, p.2, trivial, rfl, rfl⟩
def Textf (w : World) (b : Nat) (A : Option Addr) (cap : Nat) (l : List UInt8) (r : Rs) (most : Int) (e : Ending) (w' : World) : Prop :=
  e = .returned (.string ⟨(rsText l most r).1.toArray⟩) ∧ Mf w b A cap l (rsText l most r).2 w'
set_option maxRecDepth 100000 in
set_option maxHeartbeats 1000000 in
theorem refReadText (w : World) (b : Nat) (A : Option Addr) (cap : Nat) (l : List UInt8) (r : Rs) (most : Int) (k0 p : Nat) (h : Rfr w b A cap l k0 r.bad p) (ht : Tells r k0 r.bad p) (hl : l.length ≤ 1000000) (hat : r.at_ ≤ l.length)
    (m0 : -9223372036854775808 ≤ most) (m1 : most ≤ 9223372036854775807) :
    Calls Tryz.prog 93 #[.pointer (some ⟨b, 0, none⟩), .int .i64 most] w (Textf w b A cap l r most) := by
  have C := refReadNumber w b A cap l r k0 p h ht hl
  have c1 := h.c1
  cases hb : (rsNum l r).2.bad with
  | true =>
    have HE := Lib.hid (rsText_num_bad l r most hb)
    have C := Lib.hid C
    clear h ht
    go_enter Tryz.func93, Tryz.ntmps93
    go_wp2_with fail
    refine C.out.mono ?_
    rintro e w1 ⟨rfl, g1, k1, p1, t1, r1⟩
    have G1 := Lib.hid g1
    have T1 := Lib.hid t1
    have R1 := Lib.hid r1
    have c2 := r1.c2
    rw [hb] at c2
    clear g1 t1 r1 C hb c1
    go_wp2_with fail
    go_ret
    unfold Textf
    rw [HE.out]
    exact ⟨rfl, G1.out, k1, p1, T1.out, R1.out⟩
  | false =>
    obtain ⟨n, k, hrb, hd, hN⟩ := rsNum_bad_false l r hb
    have hT := rsText_ok l r most hrb hd
    obtain ⟨d1, d2, d3, d4⟩ := dec_bound _ 0 0 n k (by omega) hd
    rw [List.length_drop] at d3
    obtain ⟨q, rb⟩ := r
    obtain rfl : rb = false := hrb
    obtain rfl : k0 = q := ht.good rfl
    have hat : k0 ≤ l.length := hat
    have d3 : k ≤ l.length - k0 := by have : k ≤ 0 + (l.length - k0) := d3; omega
    unfold Numf at C
    rw [hN] at C
    have C := Lib.hid C
    have HRLE := Lib.hid h.rd.le
    have HRNN := Lib.hid h.rd.nn
    clear h ht hb hN hd
    unfold Textf
    by_cases hm : most < 0 ∨ most < n ∨ l.length - (k0 + k) < n
    · rw [if_pos hm] at hT
      rw [hT]
      have hor : most < 0 ∨ (¬ most < 0 ∧ most < (n : Int)) ∨ (¬ most < 0 ∧ ¬ most < (n : Int) ∧ (l.length : Int) - ((k0 : Int) + (k : Int)) < (n : Int)) := by omega
      obtain ⟨z, hz⟩ : ∃ z : Nat, (l.length : Int) - ((k0 : Int) + (k : Int)) = (z : Int) := ⟨l.length - (k0 + k), by omega⟩
      have wz : Hid (IntKind.i64.wrap ((l.length : Int) - ((k0 : Int) + (k : Int))) = (z : Int)) := Lib.hid (by rw [hz, IntKind.wrap_i64]; omega)
      have wz2 : Hid (IntKind.u64.wrap (z : Int) = (z : Int)) := Lib.hid (by rw [IntKind.wrap_u64]; omega)
      rw [hz] at hor
      clear hm hT hz
      rcases hor with hc1 | hor
      · go_enter Tryz.func93, Tryz.ntmps93
        go_wp2_with fail
        refine C.out.mono ?_
        rintro e w1 ⟨rfl, g1, k1, p1, t1, r1⟩
        obtain rfl : k1 = k0 + k := t1.good rfl
        have G1 := Lib.hid g1
        have R1 := Lib.hid r1
        have c0' := r1.c0
        have c1' := r1.c1
        have c2' := r1.c2
        have c3' := r1.c3
        have f2 := r1.fz 2
        have f3 := r1.fz 3
        rw [Int.natCast_add] at c1'
        clear g1 t1 r1 C c1
        go_wp2_with fail
        go_quiet (fail)
        all_goals go_wp2
        all_goals
          go_ret
          exact ⟨rfl, grown_set (grown_set (grown_drew G1.out _) _ _ (Or.inl rfl)) _ _ (Or.inl rfl), k0 + k, k0, ⟨rfl, (fun e => by cases e), fun _ => rfl⟩, ((R1.out.drew _).mark true).place k0⟩
      · have hc1 : ¬ most < 0 := by omega
        have e1 : decide (most < 0) = false := decide_eq_false hc1
        have wm : Hid (IntKind.u64.wrap most = most) := Lib.hid (by rw [IntKind.wrap_u64]; omega)
        have hor2 : decide (most < (n : Int)) = true ∨ (decide (most < (n : Int)) = false ∧ decide (z < n) = true) := by
          rcases hor with h | h
          · exact Or.inl (decide_eq_true h.2)
          · exact Or.inr ⟨decide_eq_false h.2.1, decide_eq_true (by omega)⟩
        clear hor
        go_enter Tryz.func93, Tryz.ntmps93
        go_wp2_with fail
        refine C.out.mono ?_
        rintro e w1 ⟨rfl, g1, k1, p1, t1, r1⟩
        obtain rfl : k1 = k0 + k := t1.good rfl
        have G1 := Lib.hid g1
        have R1 := Lib.hid r1
        have c0' := r1.c0
        have c1' := r1.c1
        have c2' := r1.c2
        have c3' := r1.c3
        have f2 := r1.fz 2
        have f3 := r1.fz 3
        rw [Int.natCast_add] at c1'
        clear g1 t1 r1 C c1
        go_wp2_with fail
        have wz := wz.out
        have wz2 := wz2.out
        have wm := wm.out
        rcases hor2 with e2 | ⟨e2, e3⟩
        all_goals
          go_quiet (fail)
          all_goals clear wz wz2 wm
          all_goals go_wp2
          all_goals
            go_ret
            exact ⟨rfl, grown_set (grown_set (grown_drew G1.out _) _ _ (Or.inl rfl)) _ _ (Or.inl rfl), k0 + k, k0, ⟨rfl, (fun e => by cases e), fun _ => rfl⟩, ((R1.out.drew _).mark true).place k0⟩
    · rw [if_neg hm] at hT
      rw [hT]
      obtain ⟨z, hz⟩ : ∃ z : Nat, (l.length : Int) - ((k0 : Int) + (k : Int)) = (z : Int) := ⟨l.length - (k0 + k), by omega⟩
      have wz : Hid (IntKind.i64.wrap ((l.length : Int) - ((k0 : Int) + (k : Int))) = (z : Int)) := Lib.hid (by rw [hz, IntKind.wrap_i64]; omega)
      have wz2 : Hid (IntKind.u64.wrap (z : Int) = (z : Int)) := Lib.hid (by rw [IntKind.wrap_u64]; omega)
      have wm : Hid (IntKind.u64.wrap most = most) := Lib.hid (by rw [IntKind.wrap_u64]; omega)
      have e1 : decide (most < 0) = false := decide_eq_false (by omega)
      have e2 : decide (most < (n : Int)) = false := decide_eq_false (by omega)
      have e3 : decide (z < n) = false := decide_eq_false (by omega)
      have hfit : k0 + k + n ≤ l.length := by omega
      obtain ⟨A', hsl, hrd⟩ := slice_mid A cap l (k0 + k) n hfit HRLE.out HRNN.out
      have HRD := Lib.hid hrd
      have HSL := Lib.hid (fun w' : World => hsl w' ((k0 : Int) + (k : Int)) ((k0 : Int) + (k : Int) + (n : Int)) (by omega) (by omega))
      have wn : Hid (IntKind.i64.wrap (n : Int) = (n : Int)) := Lib.hid (by rw [IntKind.wrap_i64]; omega)
      have wn2 : Hid (IntKind.i64.wrap ((k0 : Int) + (k : Int) + (n : Int)) = (k0 : Int) + (k : Int) + (n : Int)) := Lib.hid (by rw [IntKind.wrap_i64]; omega)
      have hlen : Hid (((l.drop (k0 + k)).take n).length = n) := Lib.hid (by rw [List.length_take, List.length_drop]; omega)
      clear hm hsl hrd hz hT
      go_enter Tryz.func93, Tryz.ntmps93
      go_wp2_with fail
      refine C.out.mono ?_
      rintro e w1 ⟨rfl, g1, k1, p1, t1, r1⟩
      obtain rfl : k1 = k0 + k := t1.good rfl
      have G1 := Lib.hid g1
      have R1 := Lib.hid r1
      have c0' := r1.c0
      have c1' := r1.c1
      have c2' := r1.c2
      have f1 := r1.fz 1
      rw [Int.natCast_add] at c1'
      clear g1 t1 r1 C c1
      go_wp2_with fail
      have xz := wz.out
      have xz2 := wz2.out
      have xm := wm.out
      go_quiet (fail)
      all_goals clear xz xz2 xm
      all_goals go_wp2
      have R2 := R1.out.drew nq
      have G2 := grown_drew G1.out nq
      clear c0' c1' c2' f1
      generalize w1.drewN nq = w2 at R2 G2 ⊢
      have HR2 := Lib.hid R2
      have HG2 := Lib.hid G2
      have c0' := R2.c0
      have c1' := R2.c1
      have f1 := R2.fz 1
      rw [Int.natCast_add] at c1'
      have sl := HSL.out
      have hcv := fun q : Nat => rd_conv (HRD.out _ (HR2.out.rd.drew q))
      rw [hlen.out] at hcv
      have xn := wn.out
      have xn2 := wn2.out
      clear R2 G2
      go_quiet (fail)
      all_goals clear xn xn2
      all_goals go_wp2
      all_goals
        go_ret
        refine ⟨rfl, grown_set (grown_drew HG2.out _) _ _ (Or.inl rfl), k0 + k + n, p1, ⟨rfl, fun _ => rfl, (fun e => by cases e)⟩, ?_⟩
        have hmv := (HR2.out.drew nq).move (k0 + k + n) hfit
        rw [Int.natCast_add, Int.natCast_add] at hmv
        exact hmv
end Go.Proofs.YtgeahpfdaehjaaaGreatDoor
namespace Go.Proofs.YtgeahpfdaehjaaaGreatDoor
open Go.ChangeShapes Go.WideShapes Go.ChangeAt Go.RowKit
set_option linter.unusedVariables false

/-- Where it is amiss; below 0: it isn't. -/
def endZ (o : Option Nat) : Int := match o with | none => -1 | some p => p
def Endf (o : Option Nat) (w : World) (b : Nat) (e : Ending) (w' : World) : Prop := e = .returned (.int .i64 (endZ o)) ∧ w.grownBy w' (some b)
end Go.Proofs.YtgeahpfdaehjaaaGreatDoor
