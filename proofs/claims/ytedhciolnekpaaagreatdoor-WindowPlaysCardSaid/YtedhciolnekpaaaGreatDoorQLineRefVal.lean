/-
  Layer 4: the document's own value: the number of a sign and digits.
-/
import Derived.Test.YtedhciolnekpaaaGreatDoorGrpD
import Derived.Test.YtedhciolnekpaaaGreatDoorGrpC
namespace Go.Proofs.YtedhciolnekpaaaGreatDoor
open Go.ChangeShapes Go.WideShapes Go.ChangeAt Go.RowKit
set_option linter.unusedVariables false

def RV (r : Option Int) (w : World) (e : Ending) (w' : World) : Prop :=
  match r with
  | some v => e = .returned (.tuple #[.int .i64 v, .bool true]) ∧ w = w'
  | none => ∃ x, e = .returned (.tuple #[.int .i64 x, .bool false]) ∧ w = w'
def within (lo hi : Int) (r : Option Int) : Option Int := match r with | some v => if lo ≤ v ∧ v ≤ hi then some v else none | none => none

/-- The number so far. -/
structure Sum (l : List UInt8) (i : Nat) (n : Int) : Prop where
  eq : n = natOf (l.take i)
  lt : natOf (l.take i) < 10 ^ i
theorem Sum.next {d : ByteArray} {i : Nat} {n : Int} (h : Sum d.data.toList i n) (hi : i < d.size) (hd : isD d[i] = true) : Sum d.data.toList (i + 1) (10 * n + d[i].toNat - 48) := by
  have hb := (isD_iff d[i]).1 hd
  have e : natOf (d.data.toList.take (i + 1)) = 10 * natOf (d.data.toList.take i) + (d[i].toNat - 48) := by rw [take_snoc d i hi, natOf_snoc]
  refine ⟨?_, ?_⟩
  · rw [e, h.eq]; omega
  · rw [e, Nat.pow_succ]; have := h.lt; omega
theorem Sum.bd {l : List UInt8} {i : Nat} {n : Int} (h : Sum l i n) (hi : i ≤ 18) : 0 ≤ n ∧ n ≤ 999999999999999999 := by
  have := h.lt
  have hp : 10 ^ i ≤ 10 ^ 18 := Nat.pow_le_pow_right (by omega) hi
  have : (10 : Nat) ^ 18 = 1000000000000000000 := by decide
  rw [h.eq]; omega

set_option maxHeartbeats 2000000 in
set_option maxRecDepth 100000 in
theorem value0N (t d : ByteArray) (lo hi : Int) (w : World) (hs : t.size ≤ 300) (hds : d.size ≤ 300) (hts : 0 < t.size) (hdd : t.extract 1 t.size = d) (ht0 : ((t[0].toNat : Int) == 45) = true) (h0 : d.size = 0) :
    Calls Tryz.prog 60 #[.string t, .int .i64 lo, .int .i64 hi] w (RV none w) := by
  have e0 : ((d.size : Int) == 0) = true := by rw [beq_iff_eq]; omega
  clear h0
  go_enter Tryz.func60, Tryz.ntmps60
  go_wp2
  all_goals
    go_ret2
    exact ⟨0, rfl, rfl⟩
set_option maxHeartbeats 2000000 in
set_option maxRecDepth 100000 in
theorem value19N (t d : ByteArray) (lo hi : Int) (w : World) (hs : t.size ≤ 300) (hds : d.size ≤ 300) (hts : 0 < t.size) (hdd : t.extract 1 t.size = d) (ht0 : ((t[0].toNat : Int) == 45) = true) (h0 : 19 < d.size) :
    Calls Tryz.prog 60 #[.string t, .int .i64 lo, .int .i64 hi] w (RV none w) := by
  have e0 : ((d.size : Int) == 0) = false := by rw [beq_eq_false_iff_ne]; omega
  have e1 : decide ((19 : Int) < d.size) = true := decide_eq_true (by omega)
  go_enter Tryz.func60, Tryz.ntmps60
  go_wp2
  all_goals
    go_ret2
    exact ⟨0, rfl, rfl⟩
set_option maxHeartbeats 2000000 in
set_option maxRecDepth 100000 in
theorem valueZN (t d : ByteArray) (lo hi : Int) (w : World) (hs : t.size ≤ 300) (hds : d.size ≤ 300) (hts : 0 < t.size) (hdd : t.extract 1 t.size = d) (ht0 : ((t[0].toNat : Int) == 45) = true) (h0 : 1 < d.size) (h1 : d.size ≤ 19) (h48 : ((d[0].toNat : Int) == 48) = true) :
    Calls Tryz.prog 60 #[.string t, .int .i64 lo, .int .i64 hi] w (RV none w) := by
  have e0 : ((d.size : Int) == 0) = false := by rw [beq_eq_false_iff_ne]; omega
  have e1 : decide ((19 : Int) < d.size) = false := decide_eq_false (by omega)
  have e2 : decide ((1 : Int) < d.size) = true := decide_eq_true (by omega)
  go_enter Tryz.func60, Tryz.ntmps60
  go_wp2
  all_goals
    go_ret2
    exact ⟨0, rfl, rfl⟩
set_option maxHeartbeats 2000000 in
set_option maxRecDepth 100000 in
theorem value0P (d : ByteArray) (lo hi : Int) (w : World) (hds : d.size ≤ 300) (ht0 : ∀ h : 0 < d.size, ((d[0].toNat : Int) == 45) = false) (h0 : d.size = 0) :
    Calls Tryz.prog 60 #[.string d, .int .i64 lo, .int .i64 hi] w (RV none w) := by
  have e0 : ((d.size : Int) == 0) = true := by rw [beq_iff_eq]; omega
  have z0 : ¬ 0 < d.size := by omega
  clear ht0
  clear h0
  go_enter Tryz.func60, Tryz.ntmps60
  go_wp2
  all_goals
    go_ret2
    exact ⟨0, rfl, rfl⟩
set_option maxHeartbeats 2000000 in
set_option maxRecDepth 100000 in
theorem value19P (d : ByteArray) (lo hi : Int) (w : World) (hds : d.size ≤ 300) (ht0 : ∀ h : 0 < d.size, ((d[0].toNat : Int) == 45) = false) (h0 : 19 < d.size) :
    Calls Tryz.prog 60 #[.string d, .int .i64 lo, .int .i64 hi] w (RV none w) := by
  have t0 := ht0 (by omega)
  clear ht0
  have e0 : ((d.size : Int) == 0) = false := by rw [beq_eq_false_iff_ne]; omega
  have e1 : decide ((19 : Int) < d.size) = true := decide_eq_true (by omega)
  have z0 : 0 < d.size := by omega
  go_enter Tryz.func60, Tryz.ntmps60
  go_wp2
  all_goals
    go_ret2
    exact ⟨0, rfl, rfl⟩
set_option maxHeartbeats 2000000 in
set_option maxRecDepth 100000 in
theorem valueZP (d : ByteArray) (lo hi : Int) (w : World) (hds : d.size ≤ 300) (ht0 : ∀ h : 0 < d.size, ((d[0].toNat : Int) == 45) = false) (h0 : 1 < d.size) (h1 : d.size ≤ 19) (h48 : ((d[0].toNat : Int) == 48) = true) :
    Calls Tryz.prog 60 #[.string d, .int .i64 lo, .int .i64 hi] w (RV none w) := by
  have t0 := ht0 (by omega)
  clear ht0
  have e0 : ((d.size : Int) == 0) = false := by rw [beq_eq_false_iff_ne]; omega
  have e1 : decide ((19 : Int) < d.size) = false := decide_eq_false (by omega)
  have e2 : decide ((1 : Int) < d.size) = true := decide_eq_true (by omega)
  have z0 : 0 < d.size := by omega
  go_enter Tryz.func60, Tryz.ntmps60
  go_wp2
  all_goals
    go_ret2
    exact ⟨0, rfl, rfl⟩
set_option maxHeartbeats 2000000 in
set_option maxRecDepth 100000 in
theorem valueM (t d : ByteArray) (lo hi : Int) (w : World) (hs : t.size ≤ 300) (hds : d.size ≤ 300) (hts : 0 < t.size) (hdd : t.extract 1 t.size = d) (ht0 : ((t[0].toNat : Int) == 45) = true) (h1 : d.size = 1) (h48 : (d.toList == [48]) = true) :
    Calls Tryz.prog 60 #[.string t, .int .i64 lo, .int .i64 hi] w (RV none w) := by
  have e0 : ((d.size : Int) == 0) = false := by rw [beq_eq_false_iff_ne]; omega
  have e1 : decide ((19 : Int) < d.size) = false := decide_eq_false (by omega)
  have e2 : decide ((1 : Int) < d.size) = false := decide_eq_false (by omega)
  clear h1
  go_enter Tryz.func60, Tryz.ntmps60
  go_wp2
  all_goals
    go_ret2
    exact ⟨0, rfl, rfl⟩

def refE (neg : Bool) (n : Nat) : Option Int := if 9223372036854775808 < n ∨ (n = 9223372036854775808 ∧ neg = false) then none else some (if neg then -(n : Int) else n)
theorem u64_neg (n : Int) (h1 : 1 ≤ n) (h2 : n ≤ 9223372036854775808) : wrap64 (IntKind.u64.wrap (-n)) = -n := by
  rw [IntKind.wrap_u64]; unfold wrap64; omega
set_option maxHeartbeats 2000000 in
set_option maxRecDepth 100000 in
theorem valueEN (t d : ByteArray) (lo hi : Int) (w : World) (hs : t.size ≤ 300) (hds : d.size ≤ 300) (hts : 0 < t.size) (hdd : t.extract 1 t.size = d) (ht0 : ((t[0].toNat : Int) == 45) = true) (hg : ∀ i (h : i < d.size), isD d[i] = true) (h1 : 1 ≤ d.size) (h19 : d.size ≤ 19) (hz : decide ((1 : Int) < d.size) = false ∨ (decide ((1 : Int) < d.size) = true ∧ ((d[0].toNat : Int) == 48) = false)) (hm : (d.toList == [48]) = false) (hp : 1 ≤ natOf d.data.toList) (l0 : -9223372036854775808 ≤ lo) (l1 : lo ≤ 9223372036854775807) (h0 : -9223372036854775808 ≤ hi) (h2 : hi ≤ 9223372036854775807) :
    Calls Tryz.prog 60 #[.string t, .int .i64 lo, .int .i64 hi] w (RV (within lo hi (refE true (natOf d.data.toList))) w) := by
  have e0 : ((d.size : Int) == 0) = false := by rw [beq_eq_false_iff_ne]; omega
  have e1 : decide ((19 : Int) < d.size) = false := decide_eq_false (by omega)
  have HG := Lib.hid hg
  clear hg
  obtain ⟨m, hm0⟩ : ∃ m, m = natOf d.data.toList := ⟨_, rfl⟩
  rw [← hm0] at hp ⊢
  have HM := Lib.hid hm0
  clear hm0
  rcases hz with e2 | ⟨e2, e3⟩
  all_goals
    go_enter Tryz.func60, Tryz.ntmps60
    go_wp2
    go_loop [9, 10] (fun a i => ∃ (k : Nat) (n : Int), k ≤ d.size ∧ i = .int .i64 k ∧ a = .int .u64 n ∧ Hid (Sum d.data.toList k n)) (fun _ i => d.size - (intOf i).toNat)
    case atStart => exact ⟨0, 0, Nat.zero_le _, rfl, rfl, Lib.hid ⟨by rw [List.take_zero, natOf_nil]; rfl, by rw [List.take_zero, natOf_nil]; decide⟩⟩
    case round =>
      obtain ⟨k, n, hk, rfl, rfl, HS⟩ := hrel
      by_cases hlt : k < d.size
      · obtain ⟨n0, n1⟩ := HS.out.bd (by omega)
        have hb := (isD_iff d[k]).1 (HG.out k hlt)
        obtain ⟨b0, b1⟩ := hb
        have HN := Lib.hid (HS.out.next hlt (HG.out k hlt))
        generalize hc : d[k].toNat = c at HN b0 b1
        go_wp2
        go_round
        case rel => exact ⟨k + 1, _, by omega, by go_num, rfl, HN⟩
        case measure => simp [intOf]; omega
      · have hn : n = (m : Int) := by
          have := HS.out.eq
          rw [List.take_of_length_le (by simp; omega), ← HM.out] at this
          exact this
        clear HS
        subst hn
        by_cases hbig : 9223372036854775808 < m
        · have HP : Hid (within lo hi (refE true m) = none) := Lib.hid (by unfold refE; rw [if_pos (.inl hbig)]; rfl)
          have g1 : decide ((9223372036854775808 : Int) < m) = true := decide_eq_true (by omega)
          clear hbig
          go_wp2
          go_ret2
          rw [HP.out]
          exact ⟨0, rfl, rfl⟩
        have g1 : decide ((9223372036854775808 : Int) < m) = false := decide_eq_false (by omega)
        have hV : refE true m = some (-(m : Int)) := by unfold refE; rw [if_neg (by simp; omega)]; rfl
        have HV := Lib.hid hV
        clear hV
        have u1 := u64_neg m (by omega) (by omega)
        obtain ⟨q, g2⟩ : ∃ q, ((m : Int) == 9223372036854775808) = q := ⟨_, rfl⟩
        cases q
        all_goals
          by_cases hlo : (-(m : Int)) < lo
          · have HP : Hid (within lo hi (refE true m) = none) := Lib.hid (by rw [HV.out]; unfold within; simp only; rw [if_neg (by omega)])
            have g3 : decide (lo ≤ (-(m : Int))) = false := decide_eq_false (by omega)
            go_wp2
            go_ret2
            rw [HP.out]
            exact ⟨_, rfl, rfl⟩
          have g3 : decide (lo ≤ (-(m : Int))) = true := decide_eq_true (by omega)
          by_cases hhi : hi < (-(m : Int))
          · have HP : Hid (within lo hi (refE true m) = none) := Lib.hid (by rw [HV.out]; unfold within; simp only; rw [if_neg (by omega)])
            have g4 : decide ((-(m : Int)) ≤ hi) = false := decide_eq_false (by omega)
            go_wp2
            go_ret2
            rw [HP.out]
            exact ⟨_, rfl, rfl⟩
          · have HP : Hid (within lo hi (refE true m) = some (-(m : Int))) := Lib.hid (by rw [HV.out]; unfold within; simp only; rw [if_pos (by omega)])
            have g4 : decide ((-(m : Int)) ≤ hi) = true := decide_eq_true (by omega)
            go_wp2
            go_ret2
            rw [HP.out]
            exact ⟨rfl, rfl⟩
set_option maxHeartbeats 2000000 in
set_option maxRecDepth 100000 in
theorem valueEP (d : ByteArray) (lo hi : Int) (w : World) (hds : d.size ≤ 300) (ht0 : ∀ h : 0 < d.size, ((d[0].toNat : Int) == 45) = false) (hg : ∀ i (h : i < d.size), isD d[i] = true) (h1 : 1 ≤ d.size) (h19 : d.size ≤ 19) (hz : decide ((1 : Int) < d.size) = false ∨ (decide ((1 : Int) < d.size) = true ∧ ((d[0].toNat : Int) == 48) = false)) (l0 : -9223372036854775808 ≤ lo) (l1 : lo ≤ 9223372036854775807) (h0 : -9223372036854775808 ≤ hi) (h2 : hi ≤ 9223372036854775807) :
    Calls Tryz.prog 60 #[.string d, .int .i64 lo, .int .i64 hi] w (RV (within lo hi (refE false (natOf d.data.toList))) w) := by
  have t0 := ht0 (by omega)
  clear ht0
  have z0 : 0 < d.size := by omega
  have e0 : ((d.size : Int) == 0) = false := by rw [beq_eq_false_iff_ne]; omega
  have e1 : decide ((19 : Int) < d.size) = false := decide_eq_false (by omega)
  have HG := Lib.hid hg
  clear hg
  obtain ⟨m, hm0⟩ : ∃ m, m = natOf d.data.toList := ⟨_, rfl⟩
  rw [← hm0]
  have HM := Lib.hid hm0
  clear hm0
  rcases hz with e2 | ⟨e2, e3⟩
  all_goals
    go_enter Tryz.func60, Tryz.ntmps60
    go_wp2
    go_loop [9, 10] (fun a i => ∃ (k : Nat) (n : Int), k ≤ d.size ∧ i = .int .i64 k ∧ a = .int .u64 n ∧ Hid (Sum d.data.toList k n)) (fun _ i => d.size - (intOf i).toNat)
    case atStart => exact ⟨0, 0, Nat.zero_le _, rfl, rfl, Lib.hid ⟨by rw [List.take_zero, natOf_nil]; rfl, by rw [List.take_zero, natOf_nil]; decide⟩⟩
    case round =>
      obtain ⟨k, n, hk, rfl, rfl, HS⟩ := hrel
      by_cases hlt : k < d.size
      · obtain ⟨n0, n1⟩ := HS.out.bd (by omega)
        have hb := (isD_iff d[k]).1 (HG.out k hlt)
        obtain ⟨b0, b1⟩ := hb
        have HN := Lib.hid (HS.out.next hlt (HG.out k hlt))
        generalize hc : d[k].toNat = c at HN b0 b1
        go_wp2
        go_round
        case rel => exact ⟨k + 1, _, by omega, by go_num, rfl, HN⟩
        case measure => simp [intOf]; omega
      · have hn : n = (m : Int) := by
          have := HS.out.eq
          rw [List.take_of_length_le (by simp; omega), ← HM.out] at this
          exact this
        clear HS
        subst hn
        by_cases hbig : 9223372036854775808 < m
        · have HP : Hid (within lo hi (refE false m) = none) := Lib.hid (by unfold refE; rw [if_pos (.inl hbig)]; rfl)
          have g1 : decide ((9223372036854775808 : Int) < m) = true := decide_eq_true (by omega)
          clear hbig
          go_wp2
          go_ret2
          rw [HP.out]
          exact ⟨0, rfl, rfl⟩
        have g1 : decide ((9223372036854775808 : Int) < m) = false := decide_eq_false (by omega)
        by_cases heq : m = 9223372036854775808
        · have HP : Hid (within lo hi (refE false m) = none) := Lib.hid (by unfold refE; rw [if_pos (.inr ⟨heq, rfl⟩)]; rfl)
          have g2 : ((m : Int) == 9223372036854775808) = true := by rw [beq_iff_eq]; omega
          clear heq
          go_wp2
          go_ret2
          rw [HP.out]
          exact ⟨0, rfl, rfl⟩
        have g2 : ((m : Int) == 9223372036854775808) = false := by rw [beq_eq_false_iff_ne]; omega
        have hle : m ≤ 9223372036854775807 := by omega
        have hV : refE false m = some (m : Int) := by unfold refE; rw [if_neg (by omega)]; rfl
        have HV := Lib.hid hV
        clear hV
        by_cases hlo : (m : Int) < lo
        · have HP : Hid (within lo hi (refE false m) = none) := Lib.hid (by rw [HV.out]; unfold within; simp only; rw [if_neg (by omega)])
          have g3 : decide (lo ≤ (m : Int)) = false := decide_eq_false (by omega)
          go_wp2
          go_ret2
          rw [HP.out]
          exact ⟨_, rfl, rfl⟩
        have g3 : decide (lo ≤ (m : Int)) = true := decide_eq_true (by omega)
        by_cases hhi : hi < (m : Int)
        · have HP : Hid (within lo hi (refE false m) = none) := Lib.hid (by rw [HV.out]; unfold within; simp only; rw [if_neg (by omega)])
          have g4 : decide ((m : Int) ≤ hi) = false := decide_eq_false (by omega)
          go_wp2
          go_ret2
          rw [HP.out]
          exact ⟨_, rfl, rfl⟩
        · have HP : Hid (within lo hi (refE false m) = some (m : Int)) := Lib.hid (by rw [HV.out]; unfold within; simp only; rw [if_pos (by omega)])
          have g4 : decide ((m : Int) ≤ hi) = true := decide_eq_true (by omega)
          go_wp2
          go_ret2
          rw [HP.out]
          exact ⟨rfl, rfl⟩

theorem refVal_eq (neg : Bool) (d : ByteArray) (hd : d.size ≠ 0) (h19 : d.size ≤ 19) (h1 : ¬ (1 < d.size ∧ d.data.toList.head? = some 48)) (h2 : ¬ (neg = true ∧ d.data.toList = [48])) : refVal neg d.data.toList = refE neg (natOf d.data.toList) := by
  have hl : d.data.toList.length = d.size := by simp
  unfold refVal
  rw [if_neg, refE]
  rw [hl]
  simp only [not_or]
  exact ⟨fun e => hd (by rw [← hl, e]; rfl), by omega, h1, h2⟩
theorem head_of {d : ByteArray} (h : 0 < d.size) : d.data.toList.head? = some d[0] := by
  have hl : 0 < d.data.toList.length := by simpa using h
  rw [List.head?_eq_getElem?, List.getElem?_eq_getElem hl]; rfl
theorem c48 (c : UInt8) : (c = 48) ↔ c.toNat = 48 := ⟨fun e => by rw [e]; rfl, fun e => UInt8.toNat_inj.1 (by rw [e]; rfl)⟩
theorem refVal_none {neg : Bool} {d : ByteArray} (h : d.size = 0 ∨ 19 < d.size ∨ (1 < d.size ∧ d.data.toList.head? = some 48) ∨ (neg = true ∧ d.data.toList = [48])) : refVal neg d.data.toList = none := by
  have hl : d.data.toList.length = d.size := by simp
  unfold refVal
  rw [if_pos]
  rw [hl]
  rcases h with h | h
  · exact .inl (List.eq_nil_of_length_eq_zero (by rw [hl, h]))
  · exact .inr h

theorem refValue (t d : ByteArray) (neg : Bool) (lo hi : Int) (w : World) (hs : t.size ≤ 300) (ht : t.data.toList = signed neg d.data.toList) (hd : ∀ c ∈ d.data.toList, isD c = true)
    (l0 : -9223372036854775808 ≤ lo) (l1 : lo ≤ 9223372036854775807) (h0 : -9223372036854775808 ≤ hi) (h1 : hi ≤ 9223372036854775807) :
    Calls Tryz.prog 60 #[.string t, .int .i64 lo, .int .i64 hi] w (RV (within lo hi (refVal neg d.data.toList)) w) := by
  have hdl : d.data.toList.length = d.size := by simp
  have htl : t.data.toList.length = t.size := by simp
  have hget : ∀ i (h : i < d.size), isD d[i] = true := fun i h => hd _ (Array.getElem_mem_toList (xs := d.data) (i := i) h)
  have hnone : ∀ {r}, r = none → Calls Tryz.prog 60 #[.string t, .int .i64 lo, .int .i64 hi] w (RV none w) → Calls Tryz.prog 60 #[.string t, .int .i64 lo, .int .i64 hi] w (RV (within lo hi r) w) := fun e h => by subst e; exact h
  cases neg with
  | true =>
    have hsz : t.size = d.size + 1 := by rw [← htl, ht, ← hdl]; rfl
    have hex : t.extract 1 t.size = d := ba_ext (by
      rw [ByteArray.data_extract, Array.toList_extract, ht]
      simp only [signed, if_true, List.extract]
      rw [hsz]
      simp
      exact List.take_of_length_le (by omega))
    have h45 : ∀ h : 0 < t.size, ((t[0].toNat : Int) == 45) = true := fun h => by
      have e := head_of h
      rw [ht] at e
      have : (45 : UInt8) = t[0] := Option.some.inj e
      rw [← this]; rfl
    have hts : 0 < t.size := by omega
    by_cases g0 : d.size = 0
    · exact hnone (refVal_none (.inl g0)) (value0N t d lo hi w hs (by omega) hts hex (h45 hts) g0)
    by_cases g19 : 19 < d.size
    · exact hnone (refVal_none (.inr (.inl g19))) (value19N t d lo hi w hs (by omega) hts hex (h45 hts) g19)
    by_cases gz : 1 < d.size ∧ d.data.toList.head? = some 48
    · exact hnone (refVal_none (.inr (.inr (.inl gz)))) (valueZN t d lo hi w hs (by omega) hts hex (h45 hts) gz.1 (by omega) (by
        have e := head_of (d := d) (by omega)
        rw [gz.2] at e
        rw [← Option.some.inj e]; rfl))
    by_cases gm : d.data.toList = [48]
    · exact hnone (refVal_none (.inr (.inr (.inr ⟨rfl, gm⟩)))) (valueM t d lo hi w hs (by omega) hts hex (h45 hts) (by rw [← hdl, gm]; rfl) (by rw [Lib.toList_data, gm]; rfl))
    rw [refVal_eq true d g0 (by omega) gz (fun h => gm h.2)]
    refine valueEN t d lo hi w hs (by omega) hts hex (h45 hts) hget (by omega) (by omega) ?_ (by rw [Lib.toList_data]; exact beq_eq_false_iff_ne.2 gm) ?_ l0 l1 h0 h1
    · by_cases g1 : 1 < d.size
      · refine .inr ⟨decide_eq_true (by omega), ?_⟩
        rw [beq_eq_false_iff_ne]
        intro e
        exact gz ⟨g1, by rw [head_of (by omega)]; exact congrArg some ((c48 _).2 (by omega))⟩
      · exact .inl (decide_eq_false (by omega))
    · have ho : ¬ oddD true d.data.toList := by
        rintro (h | h | h)
        · exact g0 (by rw [← hdl, h]; rfl)
        · exact gz ⟨by rw [hdl] at h; exact h.1, h.2⟩
        · exact gm h.2
      rcases Nat.eq_zero_or_pos (natOf d.data.toList) with e | e
      · have := itoa_signed true d.data.toList (fun h => g0 (by rw [← hdl, h]; rfl)) hd ho
        rw [e] at this
        simp only [if_true, signed] at this
        rw [show (-((0 : Nat) : Int)) = ((0 : Nat) : Int) from rfl, Lib.itoa_nonneg, Lib.decDigits_one (by omega)] at this
        exact absurd (List.cons.inj this).1 (by decide)
      · exact e
  | false =>
    obtain rfl : t = d := ba_ext ht
    have h45 : ∀ h : 0 < t.size, ((t[0].toNat : Int) == 45) = false := fun h => by
      have := (isD_iff t[0]).1 (hget 0 h)
      rw [beq_eq_false_iff_ne]; omega
    by_cases g0 : t.size = 0
    · exact hnone (refVal_none (.inl g0)) (value0P t lo hi w hs h45 g0)
    by_cases g19 : 19 < t.size
    · exact hnone (refVal_none (.inr (.inl g19))) (value19P t lo hi w hs h45 g19)
    by_cases gz : 1 < t.size ∧ t.data.toList.head? = some 48
    · exact hnone (refVal_none (.inr (.inr (.inl gz)))) (valueZP t lo hi w hs h45 gz.1 (by omega) (by
        have e := head_of (d := t) (by omega)
        rw [gz.2] at e
        rw [← Option.some.inj e]; rfl))
    rw [refVal_eq false t g0 (by omega) gz (fun h => by cases h.1)]
    refine valueEP t lo hi w hs h45 hget (by omega) (by omega) ?_ l0 l1 h0 h1
    by_cases g1 : 1 < t.size
    · refine .inr ⟨decide_eq_true (by omega), ?_⟩
      rw [beq_eq_false_iff_ne]
      intro e
      exact gz ⟨g1, by rw [head_of (by omega)]; exact congrArg some ((c48 _).2 (by omega))⟩
    · exact .inl (decide_eq_false (by omega))
end Go.Proofs.YtedhciolnekpaaaGreatDoor
