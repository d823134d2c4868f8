/-
  Layer 4 (line): the reader's method number.
-/
import Derived.Test.YtahmcelkfbigkaaDoorLineWordAt
import Derived.Test.YtahmcelkfbigkaaDoorLineLaid
import Derived.Lib.AppendIntMem
import Derived.Lib.AtoiErrMem
namespace Go.Proofs.YtahmcelkfbigkaaDoor
open Go.ChangeShapes Go.WideShapes Go.ChangeAt Go.RowKit
set_option linter.unusedVariables false

theorem parseIntB_bd {l : List UInt8} {v : Int} (h : Lib.parseIntB 64 l = .ok v) : -9223372036854775808 ≤ v ∧ v ≤ 9223372036854775807 := by
  unfold Lib.parseIntB at h
  split at h
  · cases h
  · simp only at h
    split at h
    · cases h
    · cases h
    · rename_i u hu
      split at h
      · cases h
      · split at h
        · cases h
        · rename_i h1 h2
          injection h with h
          subst h
          split
          · rename_i hn
            simp only [hn, not_true_eq_false, false_and, not_false_eq_true, true_and, Nat.not_lt] at h1 h2
            have : (2 : Nat) ^ (64 - 1) = 9223372036854775808 := by decide
            omega
          · rename_i hn
            simp only [hn, not_false_eq_true, true_and, Nat.not_le] at h1 h2
            have : (2 : Nat) ^ (64 - 1) = 9223372036854775808 := by decide
            omega

def POk (v : Int) (w : World) (e : Ending) (w' : World) : Prop := e = .returned (.tuple #[.int .i64 v, .nilIface]) ∧ Below w.heap.size w w'
theorem parseOk (s : ByteArray) (v : Int) (w : World) (hs : s.size ≤ 300) (h : Lib.parseIntB 64 s.data.toList = .ok v) :
    Calls Tryd.prog 76 #[.string s, .int .i64 10, .int .i64 64] w (POk v w) :=
  (Tryd.strconv_ParseInt_10_at64_ok s (by omega) v h w).mono fun e w' ⟨he, hw⟩ => ⟨he, by
    rcases hw with rfl | ⟨t, rfl⟩
    · exact Below.refl _ _
    · exact Lib.bytesWorld_below _ _ _⟩
def PErr (w : World) (e : Ending) (w' : World) : Prop := ∃ x N, e = .returned (.tuple #[.int .i64 x, .iface 130 (.pointer (some ⟨N, 0, none⟩))]) ∧ Below w.heap.size w w'
theorem parseErr (s : ByteArray) (w : World) (hL : Laid w) (hs : s.size ≤ 300) (h : ∀ v, Lib.parseIntB 64 s.data.toList ≠ .ok v) :
    Calls Tryd.prog 76 #[.string s, .int .i64 10, .int .i64 64] w (PErr w) := by
  rcases hp : Lib.parseIntB 64 s.data.toList with v | _ | _
  · exact absurd hp (h v)
  · obtain ⟨tp, p, hv⟩ := hL.es
    exact (Any.strconv_ParseInt_10_at64_syntax_var Tryd.laysC174 s (by omega) hp tp p w hv).mono fun e w' ⟨N, he, _, _, hb⟩ => ⟨_, N, he, hb⟩
  · obtain ⟨tp, p, hv⟩ := hL.er
    exact (Tryd.strconv_ParseInt_10_at64_range_var s (by omega) hp tp p w hv).mono fun e w' ⟨N, he, _, _, hb⟩ => ⟨_, N, he, hb⟩
def Strs (t : ByteArray) (w : World) (e : Ending) (w' : World) : Prop := e = .returned (.string t) ∧ Below w.heap.size w w'
theorem formatInt (n : Int) (w : World) (hL : Laid w) (h0 : -9223372036854775808 ≤ n) (h1 : n ≤ 9223372036854775807) :
    Calls Tryd.prog 77 #[.int .i64 n, .int .i64 10] w (Strs ⟨(Lib.itoa n).toArray⟩ w) :=
  (Tryd.strconv_FormatInt_10 n h0 h1 w hL.tab).mono fun e w' ⟨he, k, os, hw⟩ => ⟨he, by rw [hw]; exact Lib.below_grow _ _ (Nat.le_refl _) _ _⟩

theorem ba_ext {x y : ByteArray} (h : x.data.toList = y.data.toList) : x = y := by
  cases x; cases y; simp only [ByteArray.mk.injEq]; exact Array.ext' h

theorem ba_ne {x y : ByteArray} (h : x ≠ y) : x.toList ≠ y.toList := fun e => h (ba_ext (by rw [← Lib.toList_data, ← Lib.toList_data]; exact e))

/-- What a text of digits comes to, by the library. -/
inductive NumIs (t : ByteArray) (lo hi : Int) : Option Int → Prop where
  | err : (∀ v, Lib.parseIntB 64 t.data.toList ≠ .ok v) → NumIs t lo hi none
  | low (v : Int) : Lib.parseIntB 64 t.data.toList = .ok v → v < lo → NumIs t lo hi none
  | high (v : Int) : Lib.parseIntB 64 t.data.toList = .ok v → lo ≤ v → hi < v → NumIs t lo hi none
  | odd (v : Int) : Lib.parseIntB 64 t.data.toList = .ok v → lo ≤ v → v ≤ hi → (⟨(Lib.itoa v).toArray⟩ : ByteArray) ≠ t → NumIs t lo hi none
  | ok (v : Int) : Lib.parseIntB 64 t.data.toList = .ok v → lo ≤ v → v ≤ hi → (⟨(Lib.itoa v).toArray⟩ : ByteArray) = t → NumIs t lo hi (some v)
theorem numIs (s : ByteArray) (k : Nat) (lo hi : Int) : NumIs (s.extract k (numEnd s k)) lo hi (numAt s k lo hi) := by
  generalize ht : s.extract k (numEnd s k) = t
  unfold numAt
  rw [ht]
  unfold valOf
  rcases hp : Lib.parseIntB 64 t.data.toList with v | _ | _
  rotate_left
  · exact .err (by rw [hp]; intro v h; cases h)
  · exact .err (by rw [hp]; intro v h; cases h)
  · simp only
    have hi' : (⟨(Lib.itoa v).toArray⟩ : ByteArray) = t ↔ Lib.itoa v = t.data.toList := ⟨fun h => by rw [← h], fun h => ba_ext (by simpa using h)⟩
    by_cases he : Lib.itoa v = t.data.toList
    · rw [if_pos he]
      simp only
      by_cases hr : lo ≤ v ∧ v ≤ hi
      · rw [if_pos hr]
        exact .ok v hp hr.1 hr.2 (hi'.2 he)
      · rw [if_neg hr]
        by_cases h1 : v < lo
        · exact .low v hp h1
        · exact .high v hp (by omega) (by omega)
    · rw [if_neg he]
      by_cases h1 : v < lo
      · exact .low v hp h1
      by_cases h2 : hi < v
      · exact .high v hp (by omega) h2
      · exact .odd v hp (by omega) (by omega) (fun h => he (hi'.1 h))

def NumOk (v : Int) (y : Bool) (w : World) (b : Nat) (s : ByteArray) (k : Nat) (e : Ending) (w' : World) : Prop := e = .returned (.tuple #[.int .i64 v, .bool y]) ∧ Mv w b s k w'
def NumPost (w : World) (b : Nat) (s : ByteArray) (k j : Nat) (r : Option Int) (e : Ending) (w' : World) : Prop :=
  match r with
  | some v => NumOk v true w b s j e w'
  | none => NumOk 0 false w b s k e w'

/-- What follows the loop: the digits from k to m. -/
theorem numEnd_le {s : ByteArray} {k : Nat} (h : k ≤ s.size) : k ≤ numEnd s k ∧ numEnd s k ≤ s.size := by
  unfold numEnd
  split
  · rename_i hc
    have := chr_lt_size (s := s) (k := k) (by omega)
    have := runEnd_ge isD s (k + 1)
    exact ⟨by omega, runEnd_le (by omega)⟩
  · exact ⟨runEnd_ge _ _ _, runEnd_le h⟩

set_option maxHeartbeats 2000000 in
theorem readNum (w : World) (b : Nat) (s : ByteArray) (k : Nat) (lo hi : Int) (h : Rd w b s k) (hL : Laid w) (hb7 : 6 ≤ b) (hs : s.size ≤ 300) (hk : k ≤ s.size)
    (l0 : -9223372036854775808 ≤ lo) (l1 : lo ≤ 9223372036854775807) (h0 : -9223372036854775808 ≤ hi) (h1 : hi ≤ 9223372036854775807) :
    Calls Tryd.prog 67 #[.pointer (some ⟨b, 0, none⟩), .int .i64 lo, .int .i64 hi] w (NumPost w b s k (numEnd s k) (numAt s k lo hi)) := by
  have hN := numIs s k lo hi
  obtain ⟨hkj, hjs⟩ := numEnd_le hk
  obtain ⟨j, hj⟩ : ∃ j, j = numEnd s k := ⟨_, rfl⟩
  rw [← hj] at hN hkj hjs ⊢
  have C := Lib.hid (readNext w b s k h hs hk)
  have HR := Lib.hid h
  have HJ := Lib.hid hj
  have HN := Lib.hid hN
  have HL := Lib.hid hL
  clear h hj hN hL
  have c0 := HR.out.c0
  have c1 := HR.out.c1
  have f1 := HR.out.f1
  obtain ⟨y, k1, e45, hk1, hk1s, ha1⟩ : ∃ y k1, ((chr s k : Int) == 45) = y ∧ k1 = (if y = true then k + 1 else k) ∧ k1 ≤ s.size ∧ runEnd isD s k1 = j := by
    by_cases h45 : chr s k = 45
    · refine ⟨true, k + 1, ?_, rfl, ?_, ?_⟩
      · rw [beq_iff_eq]; omega
      · have := chr_lt_size (s := s) (k := k) (by omega); omega
      · rw [HJ.out, numEnd, if_pos h45]
    · refine ⟨false, k, ?_, rfl, hk, ?_⟩
      · rw [beq_eq_false_iff_ne]; omega
      · rw [HJ.out, numEnd, if_neg h45]
  have HA1 := Lib.hid ha1
  clear ha1 HJ
  generalize chr s k = x at C e45
  generalize numAt s k lo hi = r at HN ⊢
  cases y
  all_goals
    simp only [Bool.false_eq_true, if_false, if_true] at hk1
    go_enter Tryd.func67, Tryd.ntmps67
    go_wp2_with ((go_at_call 72; refine C.out.mono ?_); rintro e w' ⟨rfl, n, rfl⟩)
    clear C e45
    go_loop [8] (fun i => ∃ m : Nat, k ≤ m ∧ m ≤ s.size ∧ i = .int .i64 m ∧ Hid (runEnd isD s m = j)) (fun i => s.size - (intOf i).toNat)
    case atStart => exact ⟨k1, by omega, hk1s, by subst hk1; first | rfl | go_num, HA1⟩
    case round =>
      clear hk1 HA1
      obtain ⟨m, hkm, hm, rfl, HA⟩ := hrel
      by_cases hgo : ∃ hlt : m < s.size, isD s[m] = true
      · obtain ⟨hlt, hb⟩ := hgo
        go_wp2_with ((go_at_call 75; refine (lineIsDigit _ _).mono ?_); rintro e w' ⟨rfl, rfl⟩)
        go_round
        case rel => exact ⟨m + 1, by omega, by omega, by go_num, Lib.hid ((runEnd_step hlt hb).symm.trans HA.out)⟩
        case measure => simp [intOf]; omega
      · have hex : s.size ≤ m ∨ ∃ hlt : m < s.size, isD s[m] = false := by
          rcases Nat.lt_or_ge m s.size with hlt | hge
          · exact .inr ⟨hlt, by cases hb : isD s[m] with | false => rfl | true => exact absurd ⟨hlt, hb⟩ hgo⟩
          · exact .inl hge
        clear hgo
        have hmj : m = j := by
          rcases hex with hge | ⟨hlt, hb⟩
          · rw [← HA.out, runEnd_end hge]
          · rw [← HA.out, runEnd_stop hlt hb]
        subst hmj
        have hts : (s.extract k m).size ≤ 300 := by rw [extract_size s k m hm]; omega
        have hr : ∃ r', r = r' ∧ NumIs (s.extract k m) lo hi r' := ⟨r, rfl, HN.out⟩
        obtain ⟨r', hr, hn⟩ := hr
        subst hr
        clear HN
        have fin : ∀ (e : Ending) (w' : World), NumOk 0 false w b s k e w' → NumPost w b s k m none e w' := fun e w' h => h
        have fin2 : ∀ (v : Int) (e : Ending) (w' : World), NumOk v true w b s m e w' → NumPost w b s k m (some v) e w' := fun v e w' h => h
        have FIN := Lib.hid fin
        have FIN2 := Lib.hid fin2
        clear fin fin2
        rcases hex with hge | ⟨hlt, hb⟩
        all_goals
          go_wp2_with ((go_at_call 75; refine (lineIsDigit _ _).mono ?_); rintro e w' ⟨rfl, rfl⟩)
          go_quiet (fail)
          go_wp2_with fail
          cases hn with
          | err hp =>
            have HP := Lib.hid hp
            clear hp
            refine (parseErr _ _ (HL.out.drew _) hts HP.out).mono ?_
            rintro e w2 ⟨x2, N2, rfl, b2⟩
            have B2 := Lib.hid b2
            clear b2
            go_wp2_with fail
            go_ret2
            exact FIN.out _ _ ⟨rfl, grown_of_below (grown_drew (grown_refl _ _) _) B2.out (Nat.le_refl _), Rd.below (HR.out.drew _) B2.out⟩
          | low v hp hv =>
            obtain ⟨v0, v1⟩ := parseIntB_bd hp
            have HP := Lib.hid hp
            clear hp
            refine (parseOk _ v _ hts HP.out).mono ?_
            rintro e w2 ⟨rfl, b2⟩
            have B2 := Lib.hid b2
            clear b2
            go_wp2_with fail
            go_ret2
            exact FIN.out _ _ ⟨rfl, grown_of_below (grown_drew (grown_refl _ _) _) B2.out (Nat.le_refl _), Rd.below (HR.out.drew _) B2.out⟩
          | high v hp hv hv2 =>
            obtain ⟨v0, v1⟩ := parseIntB_bd hp
            have HP := Lib.hid hp
            clear hp
            refine (parseOk _ v _ hts HP.out).mono ?_
            rintro e w2 ⟨rfl, b2⟩
            have B2 := Lib.hid b2
            clear b2
            have i1 : decide (v < lo) = false := decide_eq_false (by omega)
            go_wp2_with fail
            go_ret2
            exact FIN.out _ _ ⟨rfl, grown_of_below (grown_drew (grown_refl _ _) _) B2.out (Nat.le_refl _), Rd.below (HR.out.drew _) B2.out⟩
          | odd v hp hv hv2 hne =>
            obtain ⟨v0, v1⟩ := parseIntB_bd hp
            have HP := Lib.hid hp
            clear hp
            refine (parseOk _ v _ hts HP.out).mono ?_
            rintro e w2 ⟨rfl, b2⟩
            have B2 := Lib.hid b2
            clear b2
            have i1 : decide (v < lo) = false := decide_eq_false (by omega)
            have i2 : decide (hi < v) = false := decide_eq_false (by omega)
            have j1 : ((⟨(Lib.itoa v).toArray⟩ : ByteArray).toList == (s.extract k m).toList) = false := beq_eq_false_iff_ne.2 (ba_ne hne)
            have j2 : ((⟨(Lib.itoa v).toArray⟩ : ByteArray).toList != (s.extract k m).toList) = true := bne_iff_ne.2 (ba_ne hne)
            clear hne
            have CF := Lib.hid (formatInt v w2 ((HL.out.drew _).below B2.out) v0 v1)
            generalize (⟨(Lib.itoa v).toArray⟩ : ByteArray) = t at CF j1 j2
            go_wp2_with fail
            refine CF.out.mono ?_
            rintro e w3 ⟨rfl, b3⟩
            have B3 := Lib.hid b3
            clear b3
            go_wp2_with fail
            go_ret2
            exact FIN.out _ _ ⟨rfl, grown_of_below (grown_of_below (grown_drew (grown_refl _ _) _) B2.out (Nat.le_refl _)) B3.out B2.out.size, Rd.below (Rd.below (HR.out.drew _) B2.out) B3.out⟩
          | ok v hp hv hv2 he =>
            obtain ⟨v0, v1⟩ := parseIntB_bd hp
            have HP := Lib.hid hp
            clear hp
            refine (parseOk _ v _ hts HP.out).mono ?_
            rintro e w2 ⟨rfl, b2⟩
            have B2 := Lib.hid b2
            clear b2
            have i1 : decide (v < lo) = false := decide_eq_false (by omega)
            have i2 : decide (hi < v) = false := decide_eq_false (by omega)
            have CF := Lib.hid (formatInt v w2 ((HL.out.drew _).below B2.out) v0 v1)
            rw [he] at CF
            clear he
            go_wp2_with fail
            refine CF.out.mono ?_
            rintro e w3 ⟨rfl, b3⟩
            have B3 := Lib.hid b3
            clear b3
            have R3 := Lib.hid (Rd.below (Rd.below (HR.out.drew _) B2.out) B3.out)
            have k1 := R3.out.c1
            have g1 := R3.out.f1
            go_wp2_with fail
            go_ret2
            exact FIN2.out v _ _ ⟨rfl, grown_set (grown_of_below (grown_of_below (grown_drew (grown_refl _ _) _) B2.out (Nat.le_refl _)) B3.out B2.out.size) _ _ (Or.inl rfl), R3.out.set m⟩
end Go.Proofs.YtahmcelkfbigkaaDoor
