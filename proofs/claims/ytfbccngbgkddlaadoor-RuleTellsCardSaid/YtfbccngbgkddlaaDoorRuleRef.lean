/-
  Layer 14 (rule): the document's own Rules and Class; an error's number.
-/
import Derived.Test.YtfbccngbgkddlaaDoorRuleClass
import Derived.BigQuiet
namespace Go.Proofs.YtfbccngbgkddlaaDoor
open Go.ChangeShapes Go.WideShapes Go.ChangeAt Go.RowKit
set_option linter.unusedVariables false

theorem ret_i64R {a b : Int} (h : a = b) : Ending.returned (.int .i64 a) = .returned (.int .i64 b) := by rw [h]
set_option maxHeartbeats 1000000 in
theorem ref_rules (A : Option Addr) (k : Nat) (l : List Ru) (c : Int) (w : World) (hr : RdRu w A l) (hl : l.length ≤ 9223372036854775807) (hf : FitRu l) (hc : InZ c) :
    Calls Tryd.prog 9 #[.slice A l.length k, .int .i64 c] w fun e w' => e = .returned (.bool (mayR l c)) ∧ w' = w := by
  have HR := Lib.hid hr
  have HF := Lib.hid hf
  obtain ⟨c0, c1⟩ := hc
  obtain ⟨N, hN⟩ : ∃ N, l.length = N := ⟨_, rfl⟩
  have HN := Lib.hid hN
  rw [hN] at hl ⊢
  clear hr hf hN
  go_enter Tryd.func9, Tryd.ntmps9
  go_wp2_with fail
  go_loopg [5] N (fun g s5 wx => ∃ i : Nat, i + g = N ∧ s5 = .int .i64 i ∧ Hid (AllF (goodR c) l i ∧ wx = w))
  case atStart => exact ⟨0, by omega, rfl, Lib.hid ⟨rfl, rfl⟩⟩
  case round =>
    obtain ⟨i, hi, rfl, HG⟩ := hrel
    obtain rfl := HG.out.2
    cases gk with
    | zero =>
      obtain rfl : i = N := by omega
      have HA := Lib.hid (HG.out.1.whole (by rw [HN.out]; exact Nat.le_refl _))
      have HM : Hid (mayR l c = (decide (1 ≤ c) && decide (c ≤ 4) && decide (i ≤ 10))) := Lib.hid (by unfold mayR; rw [HN.out, HA.out, Bool.and_true])
      by_cases h1 : i ≤ 10
      case neg =>
        have y1 : ¬ (i : Int) ≤ 10 := by omega
        have HB : Hid (mayR l c = false) := Lib.hid (by rw [HM.out, decide_eq_false h1]; simp)
        go_wp2_with fail
        go_ret
        exact ⟨ret_bool HB.out.symm, rfl⟩
      have y1 : (i : Int) ≤ 10 := by omega
      by_cases h2 : 1 ≤ c
      case neg =>
        have HB : Hid (mayR l c = false) := Lib.hid (by rw [HM.out, decide_eq_false h2]; simp)
        go_wp2_with fail
        go_ret
        exact ⟨ret_bool HB.out.symm, rfl⟩
      by_cases h4 : c ≤ 4
      case neg =>
        have HB : Hid (mayR l c = false) := Lib.hid (by rw [HM.out, decide_eq_false h4]; simp)
        go_wp2_with fail
        go_ret
        exact ⟨ret_bool HB.out.symm, rfl⟩
      have HB : Hid (mayR l c = true) := Lib.hid (by rw [HM.out, decide_eq_true h1, decide_eq_true h2, decide_eq_true h4]; rfl)
      go_wp2_with fail
      go_ret
      exact ⟨ret_bool HB.out.symm, rfl⟩
    | succ g =>
      have x1 : (i : Int) < N := by omega
      obtain ⟨⟨p, z⟩, hpz⟩ : ∃ q, l[i]? = some q := ⟨l[i]'(by rw [HN.out]; omega), List.getElem?_eq_getElem _⟩
      obtain ⟨b, o, rfl, hat⟩ := HR.out.at hpz
      obtain ⟨p0, p1⟩ := hat wr (Below.refl _ _)
      have hsz := (HF.out p z (List.mem_of_getElem? hpz)).1
      obtain ⟨z0, z1⟩ := (HF.out p z (List.mem_of_getElem? hpz)).2
      have HP := Lib.hid hpz
      clear hat hpz
      have HNO : Hid (goodR c (p, z) = false → mayR l c = false) := Lib.hid (fun h => by unfold mayR; rw [allF_no HP.out h]; simp)
      by_cases h : p.size ≤ 300
      case neg =>
        have HB := Lib.hid (HNO.out (by unfold goodR; rw [decide_eq_false h]; rfl))
        have y1 : (300 : Int) < p.size := by omega
        go_wp2_with fail
        go_ret
        exact ⟨ret_bool HB.out.symm, rfl⟩
      have y1 : ¬ (300 : Int) < p.size := by omega
      by_cases hz : 0 ≤ z
      case neg =>
        have HB := Lib.hid (HNO.out (by unfold goodR; rw [decide_eq_false hz]; simp))
        have y2 : z < 0 := by omega
        go_wp2_with fail
        go_ret
        exact ⟨ret_bool HB.out.symm, rfl⟩
      have y2 : ¬ z < 0 := by omega
      by_cases hc : z < c
      case neg =>
        have HB := Lib.hid (HNO.out (by unfold goodR; rw [decide_eq_false hc]; simp))
        have y3 : c ≤ z := by omega
        go_wp2_with fail
        go_ret
        exact ⟨ret_bool HB.out.symm, rfl⟩
      have HB : Hid (goodR c (p, z) = true) := Lib.hid (by unfold goodR; rw [decide_eq_true h, decide_eq_true hz, decide_eq_true hc]; rfl)
      have y3 : ¬ c ≤ z := by omega
      go_wp2_with fail
      go_roundg g
      case rel => exact ⟨i + 1, by omega, by go_num, Lib.hid ⟨HG.out.1.next HP.out HB.out, rfl⟩⟩
      case measure => omega
theorem below_drewNM (w : World) (n : Nat) : Below w.heap.size w (w.drewN n) := ⟨rfl, rfl, rfl, Nat.le_refl _, fun _ _ => rfl⟩
set_option maxHeartbeats 1000000 in
theorem ref_class (A : Option Addr) (k : Nat) (l : List Ru) (c : Int) (key : ByteArray) (w : World) (hr : RdRu w A l) (hl : l.length ≤ 9223372036854775807) (h1 : 1 ≤ c) (h4 : c ≤ 4) :
    Calls Tryd.prog 12 #[.slice A l.length k, .int .i64 c, .string key] w (Tells (.int .i64 (classOf l c key)) w) := by
  have HR := Lib.hid hr
  obtain ⟨N, hN⟩ : ∃ N, l.length = N := ⟨_, rfl⟩
  have HN := Lib.hid hN
  rw [hN] at hl ⊢
  clear hr hN
  go_enter Tryd.func12, Tryd.ntmps12
  go_wp2_with fail
  go_loopg [7, 8] N (fun g s7 s8 wx => ∃ i : Nat, i + g = N ∧ s7 = .int .i64 i ∧ Hid (classOf l c key = classOf (l.drop i) c key ∧ Below w.heap.size w wx))
  case atStart => exact ⟨0, by omega, rfl, Lib.hid ⟨rfl, Below.refl _ _⟩⟩
  case round =>
    obtain ⟨i, hi, rfl, HG⟩ := hrel
    cases gk with
    | zero =>
      obtain rfl : i = N := by omega
      have HE : Hid (classOf l c key = c - 1) := Lib.hid (by rw [HG.out.1, ← HN.out]; exact class_end)
      have z1 : IntKind.i64.wrap (c - 1) = c - 1 := by rw [IntKind.wrap_i64]; omega
      go_wp2_with fail
      go_ret
      exact ⟨ret_i64R HE.out.symm, HG.out.2⟩
    | succ g =>
      have x1 : (i : Int) < N := by omega
      obtain ⟨⟨p, z⟩, hpz⟩ : ∃ q, l[i]? = some q := ⟨l[i]'(by rw [HN.out]; omega), List.getElem?_eq_getElem _⟩
      obtain ⟨b, o, rfl, hat⟩ := HR.out.at hpz
      obtain ⟨p0, p1⟩ := hat wr HG.out.2
      have HAT := Lib.hid hat
      have HP := Lib.hid hpz
      clear hat hpz
      by_cases hpk : p.size ≤ key.size
      case neg =>
        have HY : Hid (decide (p.size ≤ key.size) = false) := Lib.hid (decide_eq_false (by omega))
        have HC := Lib.hid (class_on (c := c) HP.out (begB_short (key := key) (p := p) (by omega)))
        clear hpk
        go_wp2_with fail
        have y1 := HY.out
        go_quiet (fail)
        go_wp2_with fail
        go_roundg g
        case rel => exact ⟨i + 1, by omega, by go_num, Lib.hid ⟨HG.out.1.trans HC.out, HG.out.2.trans ((below_drewNM _ _).mono HG.out.2.size)⟩⟩
        case measure => omega
      have HY : Hid (decide (p.size ≤ key.size) = true) := Lib.hid (decide_eq_true (by omega))
      have sl := str_to key p.size hpk
      have hb := begB_long hpk
      cases hx : ((key.extract 0 p.size).toList == p.toList) with
      | false =>
        have HC := Lib.hid (class_on (c := c) HP.out (hb.trans hx))
        clear hb hpk
        go_wp2_with fail
        have y1 := HY.out
        go_quiet (fail)
        go_wp2_with fail
        go_roundg g
        case rel => exact ⟨i + 1, by omega, by go_num, Lib.hid ⟨HG.out.1.trans HC.out, HG.out.2.trans ((below_drewNM _ _).mono HG.out.2.size)⟩⟩
        case measure => omega
      | true =>
        have HC := Lib.hid (HG.out.1.trans (class_at (c := c) HP.out (hb.trans hx)))
        clear hb hpk
        go_wp2_with fail
        have y1 := HY.out
        go_quiet (fail)
        have B9 : Hid (Below w.heap.size w (wr.drewN nq)) := Lib.hid (HG.out.2.trans ((below_drewNM _ _).mono HG.out.2.size))
        have p2 := (HAT.out _ B9.out).2
        go_wp2_with fail
        go_ret
        exact ⟨ret_i64R HC.out.symm, B9.out⟩
theorem code_of (w : World) (c : Nat) (h0 : 1 ≤ c) (hc : c ≤ 10) :
    Calls Tryd.prog 13 #[.iface 35 (.int .i64 (c : Int))] w fun e w' => e = .returned (.int .i64 (c : Int)) ∧ w' = w := by
  have eqc := eql_codes
  go_enter Tryd.func13, Tryd.ntmps13
  go_wp2_with fail
  go_loopg [3] c (fun g s3 wx => ∃ k : Nat, k + g = c + 1 ∧ 1 ≤ k ∧ 1 ≤ g ∧ s3 = .int .i64 k ∧ wx = w)
  case atStart => exact ⟨1, by omega, by omega, by omega, rfl, rfl⟩
  case round =>
    obtain ⟨k, hk, hk1, hg, rfl, rfl⟩ := hrel
    have x1 : (k : Int) ≤ 10 := by omega
    cases gk with
    | zero => omega
    | succ g =>
      by_cases e : k = c
      · have x2 : ((c : Int) == (k : Int)) = true := by simp [e]
        go_wp2_with fail
        go_ret
        exact ⟨ret_i64R (by omega), rfl⟩
      · have x2 : ((c : Int) == (k : Int)) = false := beq_eq_false_iff_ne.2 (by omega)
        go_wp2_with fail
        go_roundg g
        case rel => exact ⟨k + 1, by omega, by omega, by omega, by go_num, rfl⟩
        case measure => omega
end Go.Proofs.YtfbccngbgkddlaaDoor
