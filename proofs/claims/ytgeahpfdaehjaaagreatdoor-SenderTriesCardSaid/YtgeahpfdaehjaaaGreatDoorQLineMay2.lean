/-
  Layer 4: the document's own May and Few.
-/
import Derived.Test.YtgeahpfdaehjaaaGreatDoorGrpG
namespace Go.Proofs.YtgeahpfdaehjaaaGreatDoor
open Go.ChangeShapes Go.WideShapes Go.ChangeAt Go.RowKit
set_option linter.unusedVariables false

set_option maxHeartbeats 2000000 in
theorem refMay (n : ByteArray) (A : Option Addr) (c : Nat) (k v t : Int) (ts : Tags) (w : World) (hr : RdT w A ts) (hS : Small n ts) :
    Calls Tryz.prog 145 #[evVal n A ts.length c k v t] w (BB (mayB n ts k t) w) := by
  have G0 := Lib.hid (Go4.start w n A c k v t ts hr)
  obtain ⟨hn, hl, hx⟩ := hS
  have HX := Lib.hid hx
  clear hx hr
  have CN := Lib.hid (fun w' => refWord n w' (by omega))
  unfold evVal
  go_enter Tryz.func145, Tryz.ntmps145
  go_wp2_with fail
  go_loopg [3] (ts.length) (fun g s3 wx => ∃ i : Nat, i + g = ts.length ∧ s3 = .int .i64 i ∧ Hid (AllOk ts i ∧ Go4 w w.heap.size n A c k v t ts wx))
  case atStart => exact ⟨0, by omega, rfl, Lib.hid ⟨rfl, G0.out⟩⟩
  case round =>
    clear G0
    obtain ⟨i, hig, rfl, HG⟩ := hrel
    have c0 := HG.out.2.ev.c0
    have c1 := HG.out.2.ev.c1
    have c2 := HG.out.2.ev.c2
    have c4 := HG.out.2.ev.c4
    cases gk with
    | zero =>
      have e1 : decide ((i : Int) < (ts.length : Int)) = false := decide_eq_false (by omega)
      have e2 : decide (i < ts.length) = false := decide_eq_false (by omega)
      have HT := Lib.hid (HG.out.1.whole (by omega))
      rcases hw : wordB n with _ | _
      · have HM : Hid (mayB n ts k t = false) := Lib.hid (by unfold mayB; rw [hw]; simp)
        rw [hw] at CN
        clear hw
        go_wp2_with fail
        refine (CN.out _).mono ?_
        rintro e w' ⟨rfl, rfl⟩
        go_wp2_with fail
        go_ret
        exact ⟨ret_bool HM.out.symm, HG.out.2.below⟩
      rw [hw] at CN
      by_cases h6 : 6 < ts.length
      · have HM : Hid (mayB n ts k t = false) := Lib.hid (by unfold mayB; rw [show decide (ts.length ≤ 6) = false from decide_eq_false (by omega)]; simp)
        have e6 : decide ((ts.length : Int) ≤ 6) = false := decide_eq_false (by omega)
        clear hw
        go_wp2_with fail
        refine (CN.out _).mono ?_
        rintro e w' ⟨rfl, rfl⟩
        go_wp2_with fail
        go_ret
        exact ⟨ret_bool HM.out.symm, HG.out.2.below⟩
      have e6 : decide ((ts.length : Int) ≤ 6) = true := decide_eq_true (by omega)
      have HA : Hid (mayB n ts k t = (true && restOk k t)) := Lib.hid (by unfold mayB; rw [hw, HT.out, show decide (ts.length ≤ 6) = true from decide_eq_true (by omega)]; simp)
      clear hw
      have hrest := rest_cases k t
      rcases hrest with ⟨g1, gr⟩ | ⟨g1, g2, gr⟩ | ⟨g1, g2, g3, gr⟩ | ⟨g1, g2, g3, g4, gr⟩ | ⟨g1, g2, g3, g4, gr⟩
      all_goals
        rw [gr] at HA
        clear gr
        go_wp2_with fail
        refine (CN.out _).mono ?_
        rintro e w' ⟨rfl, rfl⟩
        go_wp2_with fail
        go_ret
        exact ⟨ret_bool HA.out.symm, HG.out.2.below⟩
    | succ g =>
      have hlt : i < ts.length := by omega
      have hltz : (i : Int) < (ts.length : Int) := by omega
      obtain ⟨x, y, hxy⟩ : ∃ x y, ts[i]? = some (x, y) := ⟨_, _, List.getElem?_eq_getElem hlt⟩
      obtain ⟨b, o, hA, p0, p1⟩ := HG.out.2.at hxy
      obtain ⟨sx, sy⟩ := HX.out x y (List.mem_of_getElem? hxy)
      have CX := Lib.hid (fun w' => refWord x w' (by omega))
      have CY := Lib.hid (fun w' => refWord y w' (by omega))
      have HXY := Lib.hid hxy
      clear hxy
      subst hA
      rcases hbx : wordB x with _ | _ <;> rcases hby : wordB y with _ | _
      case true.true =>
        have HN := Lib.hid (HG.out.1.next HXY.out (by unfold tagOk; simp [hbx, hby]))
        rw [hbx] at CX
        rw [hby] at CY
        clear hbx hby
        go_wp2_with fail
        refine (CX.out _).mono ?_
        rintro e w' ⟨rfl, rfl⟩
        go_wp2_with fail
        refine (CY.out _).mono ?_
        rintro e w' ⟨rfl, rfl⟩
        go_wp2_with fail
        go_roundg g
        case rel => exact ⟨i + 1, by omega, by go_num, Lib.hid ⟨HN.out, HG.out.2⟩⟩
        case measure => omega
      all_goals
        have HF : Hid (mayB n ts k t = false) := Lib.hid (by unfold mayB; rw [all_false HXY.out (by unfold tagOk; simp [hbx, hby])]; simp)
        rw [hbx] at CX
        rw [hby] at CY
        clear hbx hby
        go_wp2_with fail
        refine (CX.out _).mono ?_
        rintro e w' ⟨rfl, rfl⟩
        go_wp2_with fail
        refine (CY.out _).mono ?_
        rintro e w' ⟨rfl, rfl⟩
        go_wp2_with fail
        go_ret
        exact ⟨ret_bool HF.out.symm, HG.out.2.below⟩

def fewTag (t : ByteArray × ByteArray) : Bool := decide (t.1.size ≤ 100) && decide (t.2.size ≤ 100)
def fewEv (n : ByteArray) (ts : Tags) : Bool := ts.all fewTag && decide (n.size ≤ 100) && decide (ts.length ≤ 20)
theorem small_of {n : ByteArray} {ts : Tags} (h : fewEv n ts = true) : Small n ts := by
  unfold fewEv at h
  simp only [Bool.and_eq_true, decide_eq_true_eq, List.all_eq_true] at h
  refine ⟨h.1.2, h.2, fun x y hxy => ?_⟩
  have := h.1.1 (x, y) hxy
  unfold fewTag at this
  simpa using this
def AllFew (ts : Tags) (i : Nat) : Prop := (ts.take i).all fewTag = true
theorem AllFew.next {ts : Tags} {i : Nat} {x y : ByteArray} (h : AllFew ts i) (hi : ts[i]? = some (x, y)) (hb : fewTag (x, y) = true) : AllFew ts (i + 1) := by
  unfold AllFew at h ⊢
  obtain ⟨hl, e⟩ := List.getElem?_eq_some_iff.1 hi
  rw [List.take_succ_eq_append_getElem hl, List.all_append, h, e]
  simp [hb]
theorem AllFew.whole {ts : Tags} {i : Nat} (h : AllFew ts i) (hi : ts.length ≤ i) : ts.all fewTag = true := by
  unfold AllFew at h
  rwa [List.take_of_length_le hi] at h
theorem few_false {ts : Tags} {i : Nat} {x y : ByteArray} (h : ts[i]? = some (x, y)) (hb : fewTag (x, y) = false) : ts.all fewTag = false := by
  rw [List.all_eq_false]; exact ⟨(x, y), List.mem_of_getElem? h, by rw [hb]; simp⟩

end Go.Proofs.YtgeahpfdaehjaaaGreatDoor
