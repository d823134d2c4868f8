/-
  Layer 14 (rule): rule.May, rule.Class.
-/
import Derived.Test.YtfbccngbgkddlaaDoorRuleBase
namespace Go.Proofs.YtfbccngbgkddlaaDoor
open Go.ChangeShapes Go.WideShapes Go.ChangeAt Go.RowKit
set_option linter.unusedVariables false

set_option maxHeartbeats 1000000 in
theorem may_rules (A : Option Addr) (k : Nat) (l : List Ru) (c : Int) (w : World) (hr : RdRu w A l) (hl : l.length ≤ 9223372036854775807) (hf : FitRu l) (hc : InZ c) :
    Calls Tryd.prog 10 #[.slice A l.length k, .int .i64 c] w (Tells (.bool (mayR l c)) w) := by
  have HR := Lib.hid hr
  have HF := Lib.hid hf
  obtain ⟨c0, c1⟩ := hc
  obtain ⟨N, hN⟩ : ∃ N, l.length = N := ⟨_, rfl⟩
  have HN := Lib.hid hN
  rw [hN] at hl ⊢
  by_cases h1 : 1 ≤ c
  case neg =>
    have HM : Hid (mayR l c = false) := Lib.hid (by unfold mayR; rw [decide_eq_false h1]; simp)
    have y1 : c < 1 := by omega
    clear hr hf hN
    go_enter Tryd.func10, Tryd.ntmps10
    go_wp2_with fail
    go_ret
    exact ⟨ret_bool HM.out.symm, Below.refl _ _⟩
  by_cases h4 : c ≤ 4
  case neg =>
    have HM : Hid (mayR l c = false) := Lib.hid (by unfold mayR; rw [decide_eq_false h4]; simp)
    have y1 : ¬ c < 1 := by omega
    have y2 : 4 < c := by omega
    clear hr hf hN
    go_enter Tryd.func10, Tryd.ntmps10
    go_wp2_with fail
    go_ret
    exact ⟨ret_bool HM.out.symm, Below.refl _ _⟩
  by_cases hn : N ≤ 10
  case neg =>
    have HM : Hid (mayR l c = false) := Lib.hid (by unfold mayR; rw [HN.out, decide_eq_false hn]; simp)
    have y1 : ¬ c < 1 := by omega
    have y2 : ¬ 4 < c := by omega
    have y3 : (10 : Int) < N := by omega
    clear hr hf hN
    go_enter Tryd.func10, Tryd.ntmps10
    go_wp2_with fail
    go_ret
    exact ⟨ret_bool HM.out.symm, Below.refl _ _⟩
  have HM : Hid (mayR l c = l.all (goodR c)) := Lib.hid (by unfold mayR; rw [HN.out, decide_eq_true h1, decide_eq_true h4, decide_eq_true hn]; simp)
  have y1 : ¬ c < 1 := by omega
  have y2 : ¬ 4 < c := by omega
  have y3 : ¬ (10 : Int) < N := by omega
  clear hr hf hN
  go_enter Tryd.func10, Tryd.ntmps10
  go_wp2_with fail
  clear y1 y2 y3
  go_loopg [20] N (fun g s20 wx => ∃ i : Nat, i + g = N ∧ s20 = .int .i64 i ∧ Hid (AllF (goodR c) l i ∧ Below w.heap.size w wx))
  case atStart => exact ⟨0, by omega, rfl, Lib.hid ⟨rfl, Below.refl _ _⟩⟩
  case round =>
    obtain ⟨i, hi, rfl, HG⟩ := hrel
    cases gk with
    | zero =>
      obtain rfl : i = N := by omega
      have HA := Lib.hid (HG.out.1.whole (by rw [HN.out]; exact Nat.le_refl _))
      go_wp2_with fail
      go_ret
      exact ⟨ret_bool (by rw [HM.out, HA.out]), HG.out.2⟩
    | succ g =>
      have x1 : (i : Int) < N := by omega
      obtain ⟨⟨p, z⟩, hpz⟩ : ∃ q, l[i]? = some q := ⟨l[i]'(by rw [HN.out]; omega), List.getElem?_eq_getElem _⟩
      obtain ⟨b, o, rfl, hat⟩ := HR.out.at hpz
      obtain ⟨p0, p1⟩ := hat wr HG.out.2
      have hsz := (HF.out p z (List.mem_of_getElem? hpz)).1
      obtain ⟨z0, z1⟩ := (HF.out p z (List.mem_of_getElem? hpz)).2
      have HP := Lib.hid hpz
      have HB2 := Lib.hid (HG.out.2.alloc HG.out.2.size (.cells #[.string p, .int .i64 z] 42))
      clear hat hpz
      by_cases h : p.size ≤ 300
      case neg =>
        have HB : Hid (goodR c (p, z) = false) := Lib.hid (by unfold goodR; rw [decide_eq_false h]; rfl)
        have y1 : (300 : Int) < p.size := by omega
        go_wp2_with fail
        go_ret
        exact ⟨ret_bool (by rw [HM.out, allF_no HP.out HB.out]), HB2.out⟩
      by_cases hz : 0 ≤ z
      case neg =>
        have HB : Hid (goodR c (p, z) = false) := Lib.hid (by unfold goodR; rw [decide_eq_false hz]; simp)
        have y1 : ¬ (300 : Int) < p.size := by omega
        have y2 : z < 0 := by omega
        go_wp2_with fail
        go_ret
        exact ⟨ret_bool (by rw [HM.out, allF_no HP.out HB.out]), HB2.out⟩
      by_cases hc : z < c
      case neg =>
        have HB : Hid (goodR c (p, z) = false) := Lib.hid (by unfold goodR; rw [decide_eq_false hc]; simp)
        have y1 : ¬ (300 : Int) < p.size := by omega
        have y2 : ¬ z < 0 := by omega
        have y3 : c ≤ z := by omega
        go_wp2_with fail
        go_ret
        exact ⟨ret_bool (by rw [HM.out, allF_no HP.out HB.out]), HB2.out⟩
      have HB : Hid (goodR c (p, z) = true) := Lib.hid (by unfold goodR; rw [decide_eq_true h, decide_eq_true hz, decide_eq_true hc]; rfl)
      have y1 : ¬ (300 : Int) < p.size := by omega
      have y2 : ¬ z < 0 := by omega
      have y3 : ¬ c ≤ z := by omega
      go_wp2_with fail
      go_roundg g
      case rel => exact ⟨i + 1, by omega, by go_num, Lib.hid ⟨HG.out.1.next HP.out HB.out, HB2.out⟩⟩
      case measure => omega

def errV (c : Nat) : Value := .iface 35 (.int .i64 (c : Nat))
def clsV (l : List Ru) (c : Int) (key : ByteArray) : Value := if mayR l c = true then .tuple #[.int .i64 (classOf l c key), .nilIface] else .tuple #[.int .i64 0, .iface 35 (.int .i64 1)]
theorem may_class {l : List Ru} {c : Int} (h : mayR l c = true) : 1 ≤ c ∧ c ≤ 4 ∧ l.length ≤ 10 ∧ ∀ p z, (p, z) ∈ l → 0 ≤ z ∧ z < c := by
  unfold mayR at h
  simp only [Bool.and_eq_true, decide_eq_true_eq, List.all_eq_true] at h
  refine ⟨h.1.1.1, h.1.1.2, h.1.2, fun p z hm => ?_⟩
  have := h.2 _ hm
  unfold goodR at this
  simp only [Bool.and_eq_true, decide_eq_true_eq] at this
  exact ⟨this.1.2, this.2⟩
set_option maxHeartbeats 1000000 in
theorem class_walk (A : Option Addr) (k : Nat) (l : List Ru) (c : Int) (key : ByteArray) (w : World) (hr : RdRu w A l) (hl : l.length ≤ 9223372036854775807) (hf : FitRu l) (hc : InZ c) :
    Calls Tryd.prog 7 #[.slice A l.length k, .int .i64 c, .string key] w (Tells (clsV l c key) w) := by
  have CM := Lib.hid (may_rules A k l c w hr hl hf hc)
  have HR := Lib.hid hr
  obtain ⟨N, hN⟩ : ∃ N, l.length = N := ⟨_, rfl⟩
  have HN := Lib.hid hN
  rw [hN] at hl CM ⊢
  clear hr hf hN hl
  cases hm : mayR l c with
  | false =>
    have HV : Hid (clsV l c key = .tuple #[.int .i64 0, .iface 35 (.int .i64 1)]) := Lib.hid (by unfold clsV; rw [hm]; rfl)
    rw [hm] at CM
    clear hm hc
    go_enter Tryd.func7, Tryd.ntmps7
    go_wp2_with fail
    refine CM.out.mono ?_
    rintro e w1 ⟨rfl, b1⟩
    have B1 := Lib.hid b1
    clear b1 CM
    go_wp2_with fail
    go_ret2
    exact ⟨by rw [HV.out]; rfl, B1.out⟩
  | true =>
    have HV : Hid (clsV l c key = .tuple #[.int .i64 (classOf l c key), .nilIface]) := Lib.hid (by unfold clsV; rw [hm]; rfl)
    obtain ⟨c1, c4, n10, _⟩ := may_class hm
    rw [HN.out] at n10
    rw [hm] at CM
    clear hm hc
    go_enter Tryd.func7, Tryd.ntmps7
    go_wp2_with fail
    refine CM.out.mono ?_
    rintro e w1 ⟨rfl, b1⟩
    have B1 := Lib.hid b1
    clear b1 CM
    go_wp2_with fail
    go_loopg [17] N (fun g s17 wx => ∃ i : Nat, i + g = N ∧ s17 = .int .i64 i ∧ Hid (classOf l c key = classOf (l.drop i) c key ∧ Below w.heap.size w wx))
    case atStart => exact ⟨0, by omega, rfl, Lib.hid ⟨rfl, B1.out⟩⟩
    case round =>
      obtain ⟨i, hi, rfl, HG⟩ := hrel
      cases gk with
      | zero =>
        obtain rfl : i = N := by omega
        have HE : Hid (classOf l c key = c - 1) := Lib.hid (by rw [HG.out.1, ← HN.out]; exact class_end)
        have z1 : IntKind.i64.wrap (c - 1) = c - 1 := by rw [IntKind.wrap_i64]; omega
        go_wp2_with fail
        go_ret2
        exact ⟨by rw [HV.out, HE.out]; rfl, HG.out.2⟩
      | succ g =>
        have x1 : (i : Int) < N := by omega
        obtain ⟨⟨p, z⟩, hpz⟩ : ∃ q, l[i]? = some q := ⟨l[i]'(by rw [HN.out]; omega), List.getElem?_eq_getElem _⟩
        obtain ⟨b, o, rfl, hat⟩ := HR.out.at hpz
        obtain ⟨p0, p1⟩ := hat wr HG.out.2
        have HP := Lib.hid hpz
        have HB2 := Lib.hid (HG.out.2.alloc HG.out.2.size (.cells #[.string p, .int .i64 z] 42))
        have CP := Lib.hid (fun wx => has_prefix key p wx)
        clear hat hpz
        cases hb : begB key p with
        | false =>
          have HB := Lib.hid hb
          rw [hb] at CP
          clear hb
          go_wp2_with fail
          refine (CP.out _).mono ?_
          rintro e w2 ⟨rfl, rfl⟩
          go_wp2_with fail
          go_roundg g
          case rel => exact ⟨i + 1, by omega, by go_num, Lib.hid ⟨HG.out.1.trans (class_on HP.out HB.out), HB2.out⟩⟩
          case measure => omega
        | true =>
          have HB : Hid (classOf l c key = z) := Lib.hid (HG.out.1.trans (class_at HP.out hb))
          rw [hb] at CP
          clear hb
          go_wp2_with fail
          refine (CP.out _).mono ?_
          rintro e w2 ⟨rfl, rfl⟩
          go_wp2_with fail
          go_ret2
          exact ⟨by rw [HV.out, HB.out]; rfl, HB2.out⟩
theorem class_in {l : List Ru} {c : Int} (key : ByteArray) (h : mayR l c = true) : 0 ≤ classOf l c key ∧ classOf l c key < c := by
  obtain ⟨h1, _, _, hz⟩ := may_class h
  have : ∀ m : List Ru, (∀ p z, (p, z) ∈ m → 0 ≤ z ∧ z < c) → 0 ≤ classOf m c key ∧ classOf m c key < c := by
    intro m
    induction m with
    | nil => intro _; show 0 ≤ c - 1 ∧ c - 1 < c; omega
    | cons r m ih =>
      intro hm
      show 0 ≤ (if begB key r.1 = true then r.2 else classOf m c key) ∧ (if begB key r.1 = true then r.2 else classOf m c key) < c
      split
      · exact hm r.1 r.2 (by simp)
      · exact ih (fun p z h => hm p z (by simp [h]))
  exact this l hz
end Go.Proofs.YtfbccngbgkddlaaDoor
