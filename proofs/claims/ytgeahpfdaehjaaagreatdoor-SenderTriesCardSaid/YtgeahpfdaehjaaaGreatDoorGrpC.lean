/-
  Layer 6 (wire): first: the number at the head of bytes, and how many bytes it has.
  Layer 6 (wire): a Reader's methods: ahead, Number, Whole, Text, End.
  Layer 6 (wire): a Reader's Text.
-/
import Derived.Test.YtgeahpfdaehjaaaGreatDoorGrpA
import Derived.Deep.Cut
import Derived.Deep.CutRange
import Derived.Deep.DeepCutAuto
namespace Go.Proofs.YtgeahpfdaehjaaaGreatDoor
open Go.ChangeShapes Go.WideShapes Go.ChangeAt Go.RowKit
set_option linter.unusedVariables false

def decV (o : Option (Nat × Nat)) : Nat × Nat := o.getD (0, 0)
def Firsts (l : List UInt8) (w : World) (e : Ending) (w' : World) : Prop :=
  e = .returned (.tuple #[.int .u64 (decV (decF 0 0 l)).1, .int .i64 (decV (decF 0 0 l)).2]) ∧ w = w'

theorem andNot_fin : ∀ x : Fin 256, x.val &&& 127 = x.val % 128 := by decide +kernel
theorem andNot_byte {x : Nat} (hx : x < 256) : bits .andNot .u8 (x : Int) 128 = ((x % 128 : Nat) : Int) := by
  rw [u8_andNot _ _ (by omega) (by omega) (by omega) (by omega)]
  have h := andNot_fin ⟨x, hx⟩
  simp only at h
  rw [Int.toNat_natCast, show 255 - (128 : Int).toNat = 127 from rfl, h]
theorem two_pow (k : Nat) : (2 : Nat) ^ (7 * k) = 128 ^ k := by rw [Nat.pow_mul]
theorem two_pow_int (k : Nat) : (2 : Int) ^ (7 * k) = ((128 ^ k : Nat) : Int) := by rw [← two_pow]; simp
theorem pow_le {k : Nat} (h : k ≤ 8) : 128 ^ k ≤ 72057594037927936 := by
  have : 128 ^ k ≤ 128 ^ 8 := Nat.pow_le_pow_right (by omega) h
  have e8 : (128 : Nat) ^ 8 = 72057594037927936 := by decide
  omega
theorem pow_pos (k : Nat) : 0 < 128 ^ k := Nat.pow_pos (by omega)
theorem pow_nine : (128 : Nat) ^ 9 = 9223372036854775808 := by decide
/-- A byte whose bits fit. -/
theorem bits_fit {k acc s : Nat} (hk : k ≤ 9) (hs : s < 128) (hf : ¬ (k = 9 ∧ 1 < s)) (ha : acc < 128 ^ k) :
    IntKind.u64.wrap ((s : Int) * 2 ^ (7 * k)) = ((s * 128 ^ k : Nat) : Int) ∧ ((s * 128 ^ k : Nat) : Int) / 2 ^ (7 * k) = (s : Int) ∧
    bits .or .u64 (acc : Int) ((s * 128 ^ k : Nat) : Int) = ((acc + s * 128 ^ k : Nat) : Int) ∧ acc + s * 128 ^ k < 128 ^ (k + 1) := by
  have hlt : s * 128 ^ k + acc < 18446744073709551616 := by
    rcases Nat.lt_or_ge k 9 with h | h
    · have h1 := pow_le (k := k) (by omega)
      have : s * 128 ^ k ≤ 127 * 128 ^ k := Nat.mul_le_mul_right _ (by omega)
      omega
    · obtain rfl : k = 9 := by omega
      have h2 : s ≤ 1 := by omega
      rw [pow_nine] at ha ⊢
      omega
  refine ⟨?_, ?_, ?_, ?_⟩
  · rw [two_pow_int, ← Int.natCast_mul, IntKind.wrap_u64]
    omega
  · rw [two_pow_int, ← Int.natCast_ediv, Nat.mul_div_cancel _ (pow_pos k)]
  · rw [u64_or_nat _ _ (by omega) (by omega)]
    congr 1
    rw [Nat.or_comm, Nat.mul_comm s, ← two_pow, ← Nat.two_pow_add_eq_or_of_lt (by rw [two_pow]; exact ha), Nat.add_comm]
  · rw [pow_split]
    have : s * 128 ^ k ≤ 127 * 128 ^ k := Nat.mul_le_mul_right _ (by omega)
    omega
/-- A tenth byte whose bits don't. -/
theorem bits_over {k s : Nat} (hk : k = 9) (hs : s < 128) (h1 : 1 < s) :
    ∃ T Q : Nat, IntKind.u64.wrap ((s : Int) * 2 ^ (7 * k)) = (T : Int) ∧ (T : Int) / 2 ^ (7 * k) = (Q : Int) ∧ Q ≠ s := by
  subst hk
  refine ⟨s % 2 * 9223372036854775808, s % 2, ?_, ?_, by omega⟩
  · rw [two_pow_int, pow_nine, IntKind.wrap_u64]
    omega
  · rw [two_pow_int, pow_nine]
    omega

theorem dec_ten (i n : Nat) (l : List UInt8) (h : 10 ≤ i) : decF i n l = none := by
  cases l with
  | nil => exact dec_nil _ _
  | cons c r => rw [dec_cons]; unfold decStep; rw [if_pos (Or.inl h)]
theorem dec_next {k acc s T : Nat} {c : UInt8} {rest : List UInt8} (hx : 128 ≤ c.toNat) (hs : c.toNat % 128 = s) (hT : s * 128 ^ k = T) : decF (k + 1) (acc + T) rest = decStep k acc c rest := by
  unfold decStep
  have hc := UInt8.toNat_lt c
  by_cases h9 : 9 ≤ k
  · rw [if_pos (by omega), dec_ten _ _ _ (by omega)]
  · rw [if_neg (by omega), if_neg (by omega), ← hT, ← hs, show c.toNat % 128 = c.toNat - 128 by omega]
theorem dec_zero {k acc : Nat} {c : UInt8} {rest : List UInt8} (hx : c.toNat = 0) (hk : 0 < k) : decStep k acc c rest = none := by
  unfold decStep
  split
  · rfl
  · rw [if_pos (by omega), if_pos ⟨hx, hk⟩]
theorem dec_last {k acc s T : Nat} {c : UInt8} {rest : List UInt8} (hx : c.toNat < 128) (hs : c.toNat % 128 = s) (hT : s * 128 ^ k = T) (hk : k ≤ 9) (hf : ¬ (k = 9 ∧ 1 < s)) (h0 : ¬ (c.toNat = 0 ∧ 0 < k)) :
    decStep k acc c rest = some (acc + T, k + 1) := by
  unfold decStep
  have e : c.toNat = s := by omega
  rw [if_neg (by omega), if_pos hx, if_neg h0, e, hT]

structure FirstAt (l : List UInt8) (M k acc : Nat) : Prop where
  dec : decF k acc (l.drop k) = decF 0 0 l
  lt : acc < 128 ^ k
set_option maxRecDepth 100000 in
theorem wireFirst (A : Option Addr) (cap : Nat) (l : List UInt8) (w : World) (hr : RdS w A cap l) (hl : l.length ≤ 1000000) :
    Calls Tryz.prog 146 #[.slice A l.length cap] w (Firsts l w) := by
  have HR := Lib.hid hr
  have hle := hr.le
  obtain ⟨M, hM⟩ : ∃ M, M = min l.length 10 := ⟨_, rfl⟩
  have hs := slice_to A l.length cap M (by omega) hr.nn
  have hmin : min (l.length : Int) 10 = (M : Int) := by omega
  have F0 : Hid (FirstAt l M 0 0) := Lib.hid ⟨rfl, by simp⟩
  have hM10 : M ≤ 10 := by omega
  have HM := Lib.hid hM
  clear hr hM
  go_enter Tryz.func146, Tryz.ntmps146
  go_upto_region 2 with fail
  go_cut [13, 14, 15] from 9 to 15 (fun v13 v14 v15 wx => v13 = .slice A M cap ∧ v14 = .int .i64 (M : Int) ∧ v15 = .int .i64 0 ∧ w = wx)
  case first =>
    by_cases h10 : 10 < l.length
    · obtain rfl : M = 10 := by have := HM.out; omega
      have hgz : (10 : Int) < (l.length : Int) := by omega
      go_wp2_with fail
      go_meet
      case rel => exact ⟨rfl, rfl, rfl, rfl⟩
    · obtain rfl : M = l.length := by have := HM.out; omega
      have hgz : ¬ (10 : Int) < (l.length : Int) := by omega
      go_wp2_with fail
      go_meet
      case rel => exact ⟨rfl, rfl, rfl, rfl⟩
  case rest =>
    obtain ⟨rfl, rfl, rfl, rfl⟩ := hcut
    clear hs hmin
    go_wp2
    go_loopg [4, 15] M (fun g s4 s15 wx => ∃ (k acc : Nat), k + g = M ∧ s4 = .int .u64 (acc : Nat) ∧ s15 = .int .i64 (k : Nat) ∧ Hid (FirstAt l M k acc) ∧ Hid (w = wx))
    case atStart => exact ⟨0, 0, by omega, rfl, rfl, F0, Lib.hid rfl⟩
    case round =>
      obtain ⟨k, acc, hkg, rfl, rfl, HF, HW⟩ := hrel
      obtain rfl := HW.out
      cases gk with
      | zero =>
        obtain rfl : k = M := by omega
        have e0 : decF 0 0 l = none := by
          rw [← HF.out.dec]
          by_cases h10 : 10 < l.length
          · obtain rfl : k = 10 := by have := HM.out; omega
            cases l.drop 10 with
            | nil => exact dec_nil _ _
            | cons c r => rw [dec_cons]; unfold decStep; rw [if_pos (Or.inl (by omega))]
          · rw [List.drop_eq_nil_of_le (by have := HM.out; omega)]; exact dec_nil _ _
        have HE := Lib.hid e0
        clear e0
        go_wp2
        go_ret2
        refine ⟨?_, rfl⟩
        rw [HE.out]
        rfl
      | succ g =>
        have hkl : k < l.length := by have := HM.out; omega
        obtain ⟨ad, rfl⟩ := HR.out.some_of (by omega)
        have hc := HR.out.rd ad rfl k l[k] (List.getElem?_eq_getElem hkl)
        have hst := dec_at k acc l k l[k] (List.getElem?_eq_getElem hkl)
        have hx := UInt8.toNat_lt l[k]
        have HS := Lib.hid (hst.symm.trans HF.out.dec)
        have HL := Lib.hid HF.out.lt
        generalize l[k] = c at hc HS hx
        have hk9 : k ≤ 9 := by omega
        obtain ⟨x, hxe⟩ : ∃ x : Nat, x = c.toNat := ⟨_, rfl⟩
        rw [← hxe] at hc hx
        have HX := Lib.hid hxe
        have hx : x < 256 := hx
        have h1 := andNot_byte hx
        have hs7 : x % 128 < 128 := Nat.mod_lt _ (by omega)
        generalize hsv : x % 128 = s at h1 hs7
        have HSV := Lib.hid hsv
        clear hst HF HR F0 HM hle hxe hsv
        by_cases hov : k = 9 ∧ 1 < s
        · obtain ⟨T, Q, h2, h3, hq⟩ := bits_over hov.1 hs7 hov.2
          have hq1 : ((Q : Int) == (s : Int)) = false := beq_eq_false_iff_ne.2 (by omega)
          have hq2 : ((Q : Int) != (s : Int)) = true := bne_iff_ne.2 (by omega)
          have HO := Lib.hid hov
          clear hov hq
          go_wp2
          go_ret2
          refine ⟨?_, rfl⟩
          rw [← HS.out]
          unfold decStep
          rw [if_pos (by right; have := HO.out; have := HSV.out; have := HX.out; omega)]
          rfl
        · obtain ⟨h2, h3, h4, h5⟩ := bits_fit hk9 hs7 hov HL.out
          have HO := Lib.hid hov
          have H5 := Lib.hid h5
          clear hov h5
          generalize hT : s * 128 ^ k = T at h2 h3 h4 H5
          have HT := Lib.hid hT
          clear hT
          by_cases h128 : 128 ≤ x
          · have hxz : 128 ≤ (x : Int) := by omega
            go_wp2
            go_roundg g
            case rel => exact ⟨k + 1, acc + T, by omega, by go_num, by go_num, Lib.hid ⟨(dec_next (by have := HX.out; omega) (by rw [← HX.out]; exact HSV.out) HT.out).trans HS.out, H5.out⟩, Lib.hid rfl⟩
            case measure => omega
          · have hxz : ¬ 128 ≤ (x : Int) := by omega
            by_cases h0 : x = 0 ∧ 0 < k
            · obtain ⟨h0, hk0⟩ := h0
              have hz : ((x : Int) == 0) = true := beq_iff_eq.2 (by omega)
              have hkz : (0 : Int) < (k : Int) := by omega
              have HE := Lib.hid (HS.out.symm.trans (dec_zero (by rw [← HX.out]; exact h0) hk0))
              clear h0
              go_wp2
              go_ret2
              refine ⟨?_, rfl⟩
              rw [HE.out]
              rfl
            · have HE := Lib.hid (HS.out.symm.trans (dec_last (by rw [← HX.out]; omega) (by rw [← HX.out]; exact HSV.out) HT.out hk9 HO.out (by rw [← HX.out]; exact h0)))
              by_cases hz0 : x = 0
              · have hkz : ¬ (0 : Int) < (k : Int) := by omega
                have hz : ((x : Int) == 0) = true := beq_iff_eq.2 (by omega)
                clear h0 hz0
                go_wp2
                go_ret2
                refine ⟨?_, rfl⟩
                rw [HE.out]
                rfl
              · have hz : ((x : Int) == 0) = false := beq_eq_false_iff_ne.2 (by omega)
                clear h0 hz0
                go_wp2
                go_ret2
                refine ⟨?_, rfl⟩
                rw [HE.out]
                rfl
end Go.Proofs.YtgeahpfdaehjaaaGreatDoor
namespace Go.Proofs.YtgeahpfdaehjaaaGreatDoor
open Go.ChangeShapes Go.WideShapes Go.ChangeAt Go.RowKit
set_option linter.unusedVariables false

/-- The reader in block b reads the bytes l, and stands as r says. -/
structure Rdr (w : World) (b : Nat) (A : Option Addr) (cap : Nat) (l : List UInt8) (r : Rs) : Prop where
  blk : w.heap[b]? = some (.cells #[.slice A l.length cap, .int .i64 (r.at_ : Nat), .bool r.bad] 185 (0, 0))
  rd : RdS w A cap l
  ne : ∀ ad, A = some ad → l ≠ [] → ad.block ≠ b
  le : r.at_ ≤ l.length
theorem RdS.grown {w w' : World} {b : Nat} {A : Option Addr} {cap : Nat} {l : List UInt8} (h : RdS w A cap l) (g : w.grownBy w' (some b)) (ne : ∀ ad, A = some ad → l ≠ [] → ad.block ≠ b) : RdS w' A cap l :=
  ⟨h.le, h.nn, fun ad ha i c hc => by
    have h1 := h.rd ad ha i c hc
    have h2 := World.block_lt_of_cell? w _ h1
    have h3 : (ad.add i).block = ad.block := by unfold Addr.add; split <;> rfl
    have h4 := ne ad ha (fun e => by rw [e] at hc; cases hc)
    rw [World.cell?_of_block (g.block _ h2 (fun e => h4 (by rw [← h3]; exact Option.some.inj e)))]
    exact h1⟩
section
variable {w w' : World} {b : Nat} {A : Option Addr} {cap : Nat} {l : List UInt8} {r : Rs}
theorem Rdr.c0 (h : Rdr w b A cap l r) : w.cell? ⟨b, 0, none⟩ = some (.slice A l.length cap) := cell_of_block h.blk
theorem Rdr.c1 (h : Rdr w b A cap l r) : w.cell? ⟨b, 1, none⟩ = some (.int .i64 (r.at_ : Nat)) := cell_of_block h.blk
theorem Rdr.c2 (h : Rdr w b A cap l r) : w.cell? ⟨b, 2, none⟩ = some (.bool r.bad) := cell_of_block h.blk
theorem Rdr.f1 (h : Rdr w b A cap l r) : w.frozen? ⟨b, 1, none⟩ = false := frozen_of_block h.blk
theorem Rdr.f2 (h : Rdr w b A cap l r) : w.frozen? ⟨b, 2, none⟩ = false := frozen_of_block h.blk
theorem Rdr.lt (h : Rdr w b A cap l r) : b < w.heap.size := lt_of_block h.blk
theorem Rdr.drew (h : Rdr w b A cap l r) (n : Nat) : Rdr (w.drewN n) b A cap l r := ⟨h.blk, h.rd.drew n, h.ne, h.le⟩
theorem Rdr.move (h : Rdr w b A cap l r) (k : Nat) (hk : k ≤ l.length) : Rdr (w.setCell ⟨b, 1, none⟩ (.int .i64 (k : Nat))) b A cap l ⟨k, r.bad⟩ :=
  ⟨heap_set_same h.blk, h.rd.grown (grown_set (grown_refl _ _) _ _ (Or.inl rfl)) h.ne, h.ne, hk⟩
theorem Rdr.mark (h : Rdr w b A cap l r) (x : Bool) : Rdr (w.setCell ⟨b, 2, none⟩ (.bool x)) b A cap l ⟨r.at_, x⟩ :=
  ⟨heap_set_same h.blk, h.rd.grown (grown_set (grown_refl _ _) _ _ (Or.inl rfl)) h.ne, h.ne, h.le⟩
end

/-- What becomes of the world while a method of the reader in block b runs. -/
structure Mr (w : World) (b : Nat) (A : Option Addr) (cap : Nat) (l : List UInt8) (r : Rs) (w' : World) : Prop where
  grown : w.grownBy w' (some b)
  rdr : Rdr w' b A cap l r
theorem Mr.trans {w w1 w2 : World} {b : Nat} {A : Option Addr} {cap : Nat} {l : List UInt8} {r r' : Rs} (h : Mr w b A cap l r w1) (g : Mr w1 b A cap l r' w2) : Mr w b A cap l r' w2 := ⟨grown_trans h.grown g.grown, g.rdr⟩
theorem Mr.drew {w w1 : World} {b : Nat} {A : Option Addr} {cap : Nat} {l : List UInt8} {r : Rs} (h : Mr w b A cap l r w1) (n : Nat) : Mr w b A cap l r (w1.drewN n) := ⟨grown_drew h.grown n, h.rdr.drew n⟩
theorem Mr.start {w : World} {b : Nat} {A : Option Addr} {cap : Nat} {l : List UInt8} {r : Rs} (h : Rdr w b A cap l r) : Mr w b A cap l r w := ⟨grown_refl _ _, h⟩

/-- What ahead tells, and whether it is amiss then. -/
def aheadV (l : List UInt8) (r : Rs) : Nat × Nat := if r.bad then (0, 0) else decV (decF 0 0 (l.drop r.at_))
def aheadR (l : List UInt8) (r : Rs) : Rs := if r.bad then r else ⟨r.at_, (decF 0 0 (l.drop r.at_)).isNone⟩
def Aheads (w : World) (b : Nat) (A : Option Addr) (cap : Nat) (l : List UInt8) (r : Rs) (e : Ending) (w' : World) : Prop :=
  e = .returned (.tuple #[.int .u64 (aheadV l r).1, .int .i64 (aheadV l r).2]) ∧ Mr w b A cap l (aheadR l r) w'
theorem dec_isNone (l : List UInt8) : (((decV (decF 0 0 l)).2 : Int) == 0) = (decF 0 0 l).isNone := by
  cases h : decF 0 0 l with
  | none => rfl
  | some p =>
    obtain ⟨n, k⟩ := p
    have := (dec_bound l 0 0 n k (by omega) h).2.1
    rw [Option.isNone_some]
    exact beq_eq_false_iff_ne.2 (by simp [decV]; omega)
set_option maxRecDepth 100000 in
theorem wireAhead (w : World) (b : Nat) (A : Option Addr) (cap : Nat) (l : List UInt8) (r : Rs) (h : Rdr w b A cap l r) (hl : l.length ≤ 1000000) :
    Calls Tryz.prog 128 #[.pointer (some ⟨b, 0, none⟩)] w (Aheads w b A cap l r) := by
  have HR := Lib.hid h
  have c0 := h.c0
  have c1 := h.c1
  have c2 := h.c2
  have f2 := h.f2
  obtain ⟨k, bad⟩ := r
  have hk : k ≤ l.length := h.le
  cases bad with
  | true =>
    clear h
    go_enter Tryz.func128, Tryz.ntmps128
    go_wp2
    go_ret2
    exact ⟨rfl, Mr.start HR.out⟩
  | false =>
    obtain ⟨A', hs, hrd⟩ := slice_from A cap l k hk h.rd.le h.rd.nn
    have C : ∀ n : Nat, Calls Tryz.prog 146 #[.slice A' (l.length - k) (cap - k)] (w.drewN n) (Firsts (l.drop k) (w.drewN n)) := fun n => by
      have := wireFirst A' (cap - k) (l.drop k) (w.drewN n) (hrd _ (h.rd.drew n)) (by rw [List.length_drop]; omega)
      rw [List.length_drop] at this
      exact this
    have HC := Lib.hid C
    have HN := Lib.hid (dec_isNone (l.drop k))
    clear h C hrd
    go_enter Tryz.func128, Tryz.ntmps128
    go_wp2
    go_quiet ((go_at_call 146; exact Calls.quiet_of_same ((HC.out _).mono fun _ _ ⟨he, hw⟩ => ⟨he, hw.symm⟩)))
    all_goals go_wp2
    go_ret2
    refine ⟨rfl, grown_drew (grown_set (grown_refl _ _) _ _ (Or.inl rfl)) _, ?_⟩
    show Rdr _ b A cap l ⟨k, (decF 0 0 (l.drop k)).isNone⟩
    rw [← HN.out]
    exact (HR.out.mark _).drew _

theorem rsNum_ahead (l : List UInt8) (r : Rs) : rsNum l r = ((aheadV l r).1, ⟨r.at_ + (aheadV l r).2, (aheadR l r).bad⟩) := by
  unfold rsNum aheadV aheadR
  obtain ⟨k, bad⟩ := r
  cases bad with
  | true => rfl
  | false =>
    simp only
    cases h : decF 0 0 (l.drop k) with
    | none => rfl
    | some p => rfl
theorem ahead_at (l : List UInt8) (r : Rs) : (aheadR l r).at_ = r.at_ := by
  unfold aheadR; split <;> rfl
def Nums (w : World) (b : Nat) (A : Option Addr) (cap : Nat) (l : List UInt8) (r : Rs) (e : Ending) (w' : World) : Prop :=
  e = .returned (.int .u64 ((rsNum l r).1 : Nat)) ∧ Mr w b A cap l (rsNum l r).2 w'
theorem wireReadNumber (w : World) (b : Nat) (A : Option Addr) (cap : Nat) (l : List UInt8) (r : Rs) (h : Rdr w b A cap l r) (hl : l.length ≤ 1000000) :
    Calls Tryz.prog 140 #[.pointer (some ⟨b, 0, none⟩)] w (Nums w b A cap l r) := by
  have C := wireAhead w b A cap l r h hl
  have hle := (rsNum_le h.le).1
  have hE := rsNum_ahead l r
  rw [hE] at hle
  have hat := ahead_at l r
  have hr := h.le
  unfold Nums
  rw [hE]
  unfold Aheads at C
  generalize aheadV l r = v at C hle ⊢
  obtain ⟨n, k⟩ := v
  have hle : r.at_ + k ≤ l.length := hle
  have C := Lib.hid C
  clear h hE
  go_enter Tryz.func140, Tryz.ntmps140
  go_wp2_with fail
  refine C.out.mono ?_
  rintro e w1 ⟨rfl, m1⟩
  have M1 := Lib.hid m1
  have c1 := m1.rdr.c1
  have f1 := m1.rdr.f1
  rw [hat] at c1
  have HA := Lib.hid hat
  clear m1 C hat
  go_wp2_with fail
  go_ret
  refine ⟨rfl, grown_set M1.out.grown _ _ (Or.inl rfl), ?_⟩
  have := M1.out.rdr.move (r.at_ + k) hle
  rw [Int.natCast_add] at this
  exact this
def Wholes (w : World) (b : Nat) (A : Option Addr) (cap : Nat) (l : List UInt8) (r : Rs) (e : Ending) (w' : World) : Prop :=
  e = .returned (.int .i64 (unfoldN (rsNum l r).1)) ∧ Mr w b A cap l (rsNum l r).2 w'
theorem wireReadWhole (w : World) (b : Nat) (A : Option Addr) (cap : Nat) (l : List UInt8) (r : Rs) (h : Rdr w b A cap l r) (hl : l.length ≤ 1000000) :
    Calls Tryz.prog 141 #[.pointer (some ⟨b, 0, none⟩)] w (Wholes w b A cap l r) := by
  have C := Lib.hid (wireReadNumber w b A cap l r h hl)
  have U := Lib.hid (fun w' => wireUnfold (rsNum l r).1 w' (rsNum_le h.le).2)
  clear h
  go_enter Tryz.func141, Tryz.ntmps141
  go_wp2_with (first
    | ((go_at_call 140; refine C.out.mono ?_); rintro e w1 ⟨rfl, hm⟩)
    | ((go_at_call 153; refine (U.out _).mono ?_); rintro e w2 ⟨rfl, rfl⟩))
  go_ret
  exact ⟨rfl, hm⟩
end Go.Proofs.YtgeahpfdaehjaaaGreatDoor
namespace Go.Proofs.YtgeahpfdaehjaaaGreatDoor
open Go.ChangeShapes Go.WideShapes Go.ChangeAt Go.RowKit
set_option linter.unusedVariables false

/-- 's[lo:hi]'. -/
theorem slice_mid (A : Option Addr) (cap : Nat) (l : List UInt8) (lo n : Nat) (hn : lo + n ≤ l.length) (hle : l.length ≤ cap) (hnone : A = none → cap = 0) :
    ∃ A', (∀ (w : World) (x y : Int), x = lo → y = (lo + n : Nat) → (Instr.slice 64 (.slice A l.length cap) (some (.int .i64 x)) (some (.int .i64 y)) none).run Tryz.prog w = .ok (.slice A' n (cap - lo)) w) ∧
      ∀ w, RdS w A cap l → RdS w A' (cap - lo) ((l.drop lo).take n) := by
  refine ⟨if cap = lo then A else A.map (·.add lo), fun w x y hx hy => ?_, fun w h => ?_⟩
  · subst hx
    subst hy
    obtain ⟨i, hi, hz0, hz1, hz2⟩ := info_parts infoB
    rw [run_slice_lh w 64 A l.length cap underB _ _ _ _ (by omega) (by omega) (by omega)]
    have hs : (sizeOf (Tryz.prog.elem 64)).run Tryz.prog w = .ok 1 w := by
      rw [elemB]
      simp [sizeOf, typeInfo, hi, hz1, Result.andThen]
    rw [hs]
    simp [Result.andThen, sliced]
    omega
  · refine ⟨by rw [List.length_take, List.length_drop]; have := h.le; omega, fun e => ?_, fun ad ha i c hi => ?_⟩
    · split at e
      · omega
      · cases A with
        | none => have := h.nn rfl; omega
        | some a => cases e
    · rw [List.getElem?_take] at hi
      split at hi
      · rw [List.getElem?_drop] at hi
        have hlt := (List.getElem?_eq_some_iff.1 hi).1
        split at ha
        · have := h.le; omega
        · cases A with
          | none => cases ha
          | some a =>
            cases ha
            rw [Addr.add_add]
            exact h.rd a rfl (lo + i) c hi
      · cases hi

theorem aheadR_bad (l : List UInt8) (r : Rs) : (aheadR l r).bad = false → ∃ n k, r.bad = false ∧ decF 0 0 (l.drop r.at_) = some (n, k) ∧ aheadV l r = (n, k) ∧ aheadR l r = ⟨r.at_, false⟩ := by
  unfold aheadR aheadV
  obtain ⟨k, bad⟩ := r
  cases bad with
  | true => intro h; cases h
  | false =>
    intro h
    cases hd : decF 0 0 (l.drop k) with
    | none => rw [if_neg (by simp), hd] at h; cases h
    | some p => exact ⟨p.1, p.2, rfl, rfl, rfl, rfl⟩
theorem rsText_bad (l : List UInt8) (r : Rs) (most : Int) (h : (aheadR l r).bad = true) : rsText l most r = ([], aheadR l r) := by
  unfold rsText
  obtain ⟨k, bad⟩ := r
  cases bad with
  | true => rfl
  | false =>
    unfold aheadR at h ⊢
    simp only at h ⊢
    cases hd : decF 0 0 (l.drop k) with
    | none => rfl
    | some p => rw [hd] at h; cases h
theorem rsText_ok (l : List UInt8) (r : Rs) (most : Int) {n k : Nat} (h : r.bad = false) (hd : decF 0 0 (l.drop r.at_) = some (n, k)) :
    rsText l most r = if most < 0 ∨ most < n ∨ l.length - (r.at_ + k) < n then ([], ⟨r.at_, true⟩) else ((l.drop (r.at_ + k)).take n, ⟨r.at_ + k + n, false⟩) := by
  unfold rsText
  rw [h, hd]
  rfl

def Texts (w : World) (b : Nat) (A : Option Addr) (cap : Nat) (l : List UInt8) (r : Rs) (most : Int) (e : Ending) (w' : World) : Prop :=
  e = .returned (.string ⟨(rsText l most r).1.toArray⟩) ∧ Mr w b A cap l (rsText l most r).2 w'
set_option maxRecDepth 100000 in
theorem wireReadText (w : World) (b : Nat) (A : Option Addr) (cap : Nat) (l : List UInt8) (r : Rs) (most : Int) (h : Rdr w b A cap l r) (hl : l.length ≤ 1000000)
    (m0 : -9223372036854775808 ≤ most) (m1 : most ≤ 9223372036854775807) :
    Calls Tryz.prog 114 #[.pointer (some ⟨b, 0, none⟩), .int .i64 most] w (Texts w b A cap l r most) := by
  have C := wireAhead w b A cap l r h hl
  cases hb : (aheadR l r).bad with
  | true =>
    have HE := Lib.hid (rsText_bad l r most hb)
    have C := Lib.hid C
    clear h
    go_enter Tryz.func114, Tryz.ntmps114
    go_wp2_with fail
    refine C.out.mono ?_
    rintro e w1 ⟨rfl, m1⟩
    have M1 := Lib.hid m1
    have c2 := m1.rdr.c2
    rw [hb] at c2
    clear m1 C hb
    go_wp2_with fail
    go_ret
    unfold Texts
    rw [HE.out]
    exact ⟨rfl, M1.out⟩
  | false =>
    obtain ⟨n, k, hrb, hd, hv, hR⟩ := aheadR_bad l r hb
    have hT := rsText_ok l r most hrb hd
    obtain ⟨d1, d2, d3, d4⟩ := dec_bound _ 0 0 n k (by omega) hd
    rw [List.length_drop] at d3
    have hat := h.le
    unfold Aheads at C
    rw [hv, hR] at C
    have C := Lib.hid C
    obtain ⟨p, rb⟩ := r
    have hat : p ≤ l.length := hat
    have d3 : k ≤ 0 + (l.length - p) := d3
    have HRLE := Lib.hid h.rd.le
    have HRNN := Lib.hid h.rd.nn
    clear h hb hv hR hd hrb
    unfold Texts
    by_cases hm : most < 0 ∨ most < n ∨ l.length - (p + k) < n
    · rw [if_pos hm] at hT
      rw [hT]
      by_cases hneg : most < 0
      · clear hm
        go_enter Tryz.func114, Tryz.ntmps114
        go_wp2_with fail
        refine C.out.mono ?_
        rintro e w1 ⟨rfl, m1⟩
        have M1 := Lib.hid m1
        have c0 := m1.rdr.c0
        have c1 := m1.rdr.c1
        have c2 := m1.rdr.c2
        have f2 := m1.rdr.f2
        clear m1 C
        go_wp2_with fail
        go_ret
        exact ⟨rfl, grown_set M1.out.grown _ _ (Or.inl rfl), M1.out.rdr.mark true⟩
      · have hor : ((l.length : Int) - ((p : Int) + (k : Int)) < most ∧ (l.length : Int) - ((p : Int) + (k : Int)) < (n : Int)) ∨ (¬ (l.length : Int) - ((p : Int) + (k : Int)) < most ∧ most < (n : Int)) := by omega
        clear hm
        rcases hor with ⟨hc1, hc2⟩ | ⟨hc1, hc2⟩
        all_goals
          go_enter Tryz.func114, Tryz.ntmps114
          go_wp2_with fail
          refine C.out.mono ?_
          rintro e w1 ⟨rfl, m1⟩
          have M1 := Lib.hid m1
          have c0 := m1.rdr.c0
          have c1 := m1.rdr.c1
          have c2 := m1.rdr.c2
          have f2 := m1.rdr.f2
          clear m1 C
          go_wp2_with fail
          go_ret
          exact ⟨rfl, grown_set M1.out.grown _ _ (Or.inl rfl), M1.out.rdr.mark true⟩
    · rw [if_neg hm] at hT
      rw [hT]
      have hneg : ¬ most < 0 := by omega
      have hor : ((l.length : Int) - ((p : Int) + (k : Int)) < most ∧ ¬ (l.length : Int) - ((p : Int) + (k : Int)) < (n : Int)) ∨ (¬ (l.length : Int) - ((p : Int) + (k : Int)) < most ∧ ¬ most < (n : Int)) := by omega
      have hfit : p + k + n ≤ l.length := by omega
      obtain ⟨A', hsl, hrd⟩ := slice_mid A cap l (p + k) n hfit HRLE.out HRNN.out
      have HRD := Lib.hid hrd
      have sl := fun w' : World => hsl w' ((p : Int) + (k : Int)) ((p : Int) + (k : Int) + (n : Int)) (by omega) (by omega)
      clear hm hsl hrd
      rcases hor with ⟨hc1, hc2⟩ | ⟨hc1, hc2⟩
      all_goals
        go_enter Tryz.func114, Tryz.ntmps114
        go_wp2_with fail
        refine C.out.mono ?_
        rintro e w1 ⟨rfl, m1⟩
        have M1 := Lib.hid m1
        have c0 := m1.rdr.c0
        have c1 := m1.rdr.c1
        have c2 := m1.rdr.c2
        have f1 := m1.rdr.f1
        clear m1 C
        go_wp2_with fail
        have MV := M1.out.rdr.move (p + k + n) hfit
        have GV := grown_set M1.out.grown ⟨b, 1, none⟩ (.int .i64 ((p : Int) + (k : Int) + (n : Int))) (Or.inl rfl)
        rw [Int.natCast_add, Int.natCast_add] at MV
        clear c0 c1 c2 f1 M1
        generalize w1.setCell ⟨b, 1, none⟩ (.int .i64 ((p : Int) + (k : Int) + (n : Int))) = w2 at MV GV ⊢
        have c0 := MV.c0
        have c1 := MV.c1
        rw [Int.natCast_add, Int.natCast_add] at c1
        have hcv := fun q : Nat => rd_conv (HRD.out _ (MV.rd.drew q))
        have hlen : ((l.drop (p + k)).take n).length = n := by rw [List.length_take, List.length_drop]; omega
        rw [hlen] at hcv
        have HV := Lib.hid MV
        have HG := Lib.hid GV
        clear MV GV hlen
        go_quiet (fail)
        all_goals go_wp2
        all_goals
          go_ret
          exact ⟨rfl, grown_drew HG.out _, HV.out.drew _⟩
end Go.Proofs.YtgeahpfdaehjaaaGreatDoor
