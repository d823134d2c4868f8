/-
  Layer 4: the document's own Head: the name and the tags of a line.
-/
import Derived.Test.YtfbccngbgkddlaaDoorLineMay
import Derived.Test.YtfbccngbgkddlaaDoorLineNumber
import Derived.Test.YtfbccngbgkddlaaDoorLineNum
namespace Go.Proofs.YtfbccngbgkddlaaDoor
open Go.ChangeShapes Go.WideShapes Go.ChangeAt Go.RowKit
set_option linter.unusedVariables false

def tagL (t : ByteArray × ByteArray) : List UInt8 := 44 :: t.1.data.toList ++ 61 :: t.2.data.toList
def headL (n : ByteArray) (ts : Tags) : List UInt8 := n.data.toList ++ ts.flatMap tagL
theorem headL_next {n : ByteArray} {ts : Tags} {i : Nat} {x y : ByteArray} (h : ts[i]? = some (x, y)) : headL n (ts.take (i + 1)) = headL n (ts.take i) ++ tagL (x, y) := by
  obtain ⟨hl, e⟩ := List.getElem?_eq_some_iff.1 h
  unfold headL
  rw [List.take_succ_eq_append_getElem hl, e, List.flatMap_append]
  simp
theorem ba_app (x y : ByteArray) : (x ++ y).data.toList = x.data.toList ++ y.data.toList := by rw [ByteArray.data_append, Array.toList_append]
/-- What is told so far. -/
structure HeadTo (n : ByteArray) (ts : Tags) (i : Nat) (H : ByteArray) : Prop where
  eq : H.data.toList = headL n (ts.take i)
  le : H.size ≤ 100 + i * 202
theorem HeadTo.next {n : ByteArray} {ts : Tags} {i : Nat} {H x y : ByteArray} (h : HeadTo n ts i H) (hi : ts[i]? = some (x, y)) (sx : x.size ≤ 100) (sy : y.size ≤ 100) : HeadTo n ts (i + 1) (H ++ ⟨#[44]⟩ ++ x ++ ⟨#[61]⟩ ++ y) := by
  refine ⟨?_, ?_⟩
  · rw [headL_next hi, ← h.eq, ba_app, ba_app, ba_app, ba_app]
    unfold tagL
    simp
  · have := h.le
    simp only [ByteArray.size_append]
    have e1 : (⟨#[44]⟩ : ByteArray).size = 1 := rfl
    have e2 : (⟨#[61]⟩ : ByteArray).size = 1 := rfl
    omega

set_option maxHeartbeats 2000000 in
theorem refHead (n : ByteArray) (A : Option Addr) (c : Nat) (k v t : Int) (ts : Tags) (w : World) (hr : RdT w A ts) (hS : Small n ts) :
    Calls Tryd.prog 17 #[evVal n A ts.length c k v t] w (SB (headL n ts) w) := by
  have G0 := Lib.hid (Go4.start w n A c k v t ts hr)
  obtain ⟨hn, hl, hx⟩ := hS
  have HX := Lib.hid hx
  clear hx hr
  unfold evVal
  go_enter Tryd.func17, Tryd.ntmps17
  go_wp2_with fail
  go_loopg [3, 4] (ts.length) (fun g s3 s4 wx => ∃ (i : Nat) (H : ByteArray), i + g = ts.length ∧ s4 = .int .i64 i ∧ s3 = .string H ∧ Hid (HeadTo n ts i H ∧ Go4 w w.heap.size n A c k v t ts wx))
  case atStart => exact ⟨0, n, by omega, rfl, rfl, Lib.hid ⟨⟨by simp [headL], by omega⟩, G0.out⟩⟩
  case round =>
    clear G0
    obtain ⟨i, H, hig, rfl, rfl, HG⟩ := hrel
    have c1 := HG.out.2.ev.c1
    cases gk with
    | zero =>
      have e1 : decide ((i : Int) < (ts.length : Int)) = false := decide_eq_false (by omega)
      have e2 : decide (i < ts.length) = false := decide_eq_false (by omega)
      have HT : Hid (H = ⟨(headL n ts).toArray⟩) := Lib.hid (ba_ext (by rw [HG.out.1.eq, List.take_of_length_le (by omega)]))
      go_wp2_with fail
      go_ret
      exact ⟨by rw [← HT.out]; rfl, HG.out.2.below⟩
    | succ g =>
      have hlt : i < ts.length := by omega
      have hltz : (i : Int) < (ts.length : Int) := by omega
      obtain ⟨x, y, hxy⟩ : ∃ x y, ts[i]? = some (x, y) := ⟨_, _, List.getElem?_eq_getElem hlt⟩
      obtain ⟨b, o, hA, p0, p1⟩ := HG.out.2.at hxy
      obtain ⟨sx, sy⟩ := HX.out x y (List.mem_of_getElem? hxy)
      have HN := Lib.hid (HG.out.1.next hxy sx sy)
      have hle := HG.out.1.le
      clear hxy
      subst hA
      have z44 : (⟨#[44]⟩ : ByteArray).size = 1 := rfl
      have z61 : (⟨#[61]⟩ : ByteArray).size = 1 := rfl
      have q1 : (H ++ ⟨#[44]⟩ : ByteArray).size = H.size + 1 := by rw [ByteArray.size_append, z44]
      have q2 : (H ++ ⟨#[44]⟩ ++ x : ByteArray).size = H.size + 1 + x.size := by rw [ByteArray.size_append, q1]
      have q3 : (H ++ ⟨#[44]⟩ ++ x ++ ⟨#[61]⟩ : ByteArray).size = H.size + 1 + x.size + 1 := by rw [ByteArray.size_append, q2, z61]
      have k1 := fun w' : World => run_string_add_sum (P := Tryd.prog) w' H ⟨#[44]⟩ (by omega)
      have k2 := fun w' : World => run_string_add_sum (P := Tryd.prog) w' (H ++ ⟨#[44]⟩) x (by omega)
      have k3 := fun w' : World => run_string_add_sum (P := Tryd.prog) w' (H ++ ⟨#[44]⟩ ++ x) ⟨#[61]⟩ (by omega)
      have k4 := fun w' : World => run_string_add_sum (P := Tryd.prog) w' (H ++ ⟨#[44]⟩ ++ x ++ ⟨#[61]⟩) y (by omega)
      clear q1 q2 q3 z44 z61
      go_wp2_with fail
      go_quiet (fail)
      go_wp2_with fail
      go_roundg g
      case rel => exact ⟨i + 1, _, by omega, by go_num, rfl, Lib.hid ⟨HN.out, HG.out.2.drew _⟩⟩
      case measure => omega
end Go.Proofs.YtfbccngbgkddlaaDoor
