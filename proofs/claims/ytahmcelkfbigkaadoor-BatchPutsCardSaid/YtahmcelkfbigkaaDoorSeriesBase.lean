/-
  Layer 5 (series): the small functions: what holds keys against each other, whether tags rise, and the library's Cut at a space.
-/
import Derived.Test.YtahmcelkfbigkaaDoorSeriesPure
import Derived.Test.YtahmcelkfbigkaaDoorLineMay
import Derived.Laws.Cover1
namespace Go.Proofs.YtahmcelkfbigkaaDoor
open Go.ChangeShapes Go.WideShapes Go.ChangeAt Go.RowKit Go.Sort
set_option linter.unusedVariables false

/-- A tag's two cells. -/
def encTag (t : ByteArray × ByteArray) : List Value := [.string t.1, .string t.2]
/-- Up to a place each key is greater than the one ahead of it. -/
def Rose (ts : Tags) (i : Nat) : Prop := ∀ j a b, j + 1 < i → ts[j]? = some a → ts[j + 1]? = some b → ltK a b = true
theorem geq_key (a b : ByteArray × ByteArray) : Op.bytesLess a.1.toList b.1.toList = ltK a b := by
  rw [bytesLess_eq, Lib.toList_data, Lib.toList_data]
  rfl

set_option maxHeartbeats 1000000 in
theorem seriesRise (A : Option Addr) (c : Nat) (ts : Tags) (w : World) (hr : RdT w A ts) (hl : ts.length ≤ 1000) :
    Calls Tryd.prog 56 #[.slice A ts.length c] w (BB (riseB ts) w) := by
  have HR := Lib.hid hr
  clear hr
  go_enter Tryd.func56, Tryd.ntmps56
  go_wp2
  go_loopg [3] (ts.length) (fun g s3 wx => ∃ (i n : Nat), i + g = ts.length + 1 ∧ 1 ≤ i ∧ s3 = .int .i64 i ∧ Hid (Rose ts i ∧ wx = w.drewN n))
  case atStart => exact ⟨1, 0, by omega, Nat.le_refl _, rfl, Lib.hid ⟨fun j a b h => by omega, rfl⟩⟩
  case round =>
    obtain ⟨i, n, hig, h1, rfl, HW⟩ := hrel
    obtain ⟨hro, hw⟩ := HW.out
    subst hw
    have HO := Lib.hid hro
    clear HW hro
    by_cases hlt : i < ts.length
    · have hltz : (i : Int) < (ts.length : Int) := by omega
      obtain ⟨u, hu⟩ : ∃ u, i = u + 1 := ⟨i - 1, by omega⟩
      obtain ⟨x, hx⟩ : ∃ x, ts[u]? = some x := ⟨_, List.getElem?_eq_getElem (by omega)⟩
      obtain ⟨y, hy⟩ : ∃ y, ts[i]? = some y := ⟨_, List.getElem?_eq_getElem hlt⟩
      have HN : Hid (ltK x y = true → Rose ts (i + 1)) := Lib.hid (fun hl j a b hj ha hb => by
        rcases Nat.lt_or_ge (j + 1) i with h | h
        · exact HO.out j a b h ha hb
        · have : j = u := by omega
          subst this
          rw [hx] at ha
          rw [← hu, hy] at hb
          cases ha; cases hb
          exact hl)
      have HF : Hid (ltK x y = false → riseB ts = false) := Lib.hid (fun hl => by
        rw [Bool.eq_false_iff]
        intro h
        rw [(rise_iff ts).1 h u x y hx (by rw [← hu]; exact hy)] at hl
        cases hl)
      rcases HR.out with h | ⟨b, o, rfl, hc⟩
      · rw [h] at hlt; simp at hlt
      obtain ⟨p0, _⟩ := hc u x.1 x.2 hx
      obtain ⟨q0, _⟩ := hc i y.1 y.2 hy
      have e := geq_key x y
      have hz : IntKind.i64.wrap ((i : Int) - 1) = (u : Int) := by rw [IntKind.wrap_i64]; omega
      have l0 : (u : Int) < (ts.length : Int) := by omega
      have l2 : u < ts.length := by omega
      clear hc hx hy HO hu
      rcases hl : ltK x y with _ | _
      · rw [hl] at e
        have HF := Lib.hid (HF.out hl)
        clear hl HN
        go_wp2
        go_quiet (fail)
        go_wp2
        go_ret
        exact ⟨ret_bool HF.out.symm, below_of_grown (grown_drew (grown_drew (grown_refl _ _) _) _)⟩
      · rw [hl] at e
        have HN := Lib.hid (HN.out hl)
        clear hl HF
        go_wp2
        go_quiet (fail)
        go_wp2
        go_roundg (gk - 1)
        case rel => exact ⟨i + 1, _, by omega, by omega, by go_num, Lib.hid ⟨HN.out, rfl⟩⟩
        case measure => omega
    · have e1 : decide ((i : Int) < (ts.length : Int)) = false := decide_eq_false (by omega)
      have e2 : decide (i < ts.length) = false := decide_eq_false hlt
      have HT : Hid (riseB ts = true) := Lib.hid ((rise_iff ts).2 fun j a b ha hb => HO.out j a b (by have := (List.getElem?_eq_some_iff.1 hb).1; omega) ha hb)
      go_wp2
      go_ret
      exact ⟨ret_bool HT.out.symm, below_of_grown (grown_drew (grown_refl _ _) _)⟩

def Cuts (h : List UInt8) (w : World) (e : Ending) (w' : World) : Prop := ∃ y : ByteArray, e = .returned (.tuple #[.string ⟨h.toArray⟩, .string y, .bool true]) ∧ Below w.heap.size w w'
end Go.Proofs.YtahmcelkfbigkaaDoor
