/-
  Layer 5 (series): the small functions: what holds keys against each other, whether tags rise, and the library's Cut at a space.
-/
import Derived.Test.YtfbccngbgkddlaaDoorSeriesPure
import Derived.Test.YtfbccngbgkddlaaDoorLineMay
import Derived.Laws.Cover1
namespace Go.Proofs.YtfbccngbgkddlaaDoor
open Go.ChangeShapes Go.WideShapes Go.ChangeAt Go.RowKit Go.Sort
set_option linter.unusedVariables false

/-- A tag's two cells. -/
def encTag (t : ByteArray × ByteArray) : List Value := [.string t.1, .string t.2]
theorem seriesByKey (a b : ByteArray × ByteArray) (W : World) :
    Calls Tryd.prog 27 #[.agg (encTag a).toArray, .agg (encTag b).toArray] W fun e w' => e = .returned (.int .i64 (cmpKey a b)) ∧ ∃ q os', w' = Go.Sort.grow (W.drewN q) os' := by
  have hcon := fun W' => Tryd.strings_Compare a.1 b.1 W'
  unfold cmpKey keyOf
  generalize Lib.compareBytes a.1.data.toList b.1.data.toList = r at hcon ⊢
  unfold encTag
  go_enter Tryd.func27, Tryd.ntmps27
  go_wp2_with ((go_at_call 36; refine (hcon _).mono ?_); rintro e w' ⟨rfl, rfl⟩)
  go_ret
  exact ⟨rfl, 0, _, by rw [alloc_eq_grow, alloc_eq_grow, grow_grow]; rfl⟩
theorem cmpLays (blk off size : Nat) (w : World) : CmpLays Tryd.prog 27 #[] encTag 2 cmpKey blk off size w :=
  fun _ _ _ _ x y => seriesByKey x y _

/-- Up to a place each key is greater than the one ahead of it. -/
def Rose (ts : Tags) (i : Nat) : Prop := ∀ j a b, j + 1 < i → ts[j]? = some a → ts[j + 1]? = some b → ltK a b = true
theorem geq_key (a b : ByteArray × ByteArray) : Op.bytesLess a.1.toList b.1.toList = ltK a b := by
  rw [bytesLess_eq, Lib.toList_data, Lib.toList_data]
  rfl

set_option maxHeartbeats 1000000 in
theorem seriesRise (A : Option Addr) (c : Nat) (ts : Tags) (w : World) (hr : RdT w A ts) (hl : ts.length ≤ 1000) :
    Calls Tryd.prog 28 #[.slice A ts.length c] w (BB (riseB ts) w) := by
  have HR := Lib.hid hr
  clear hr
  go_enter Tryd.func28, Tryd.ntmps28
  go_wp2
  go_loopg [3] (ts.length) (fun g s3 wx => ∃ (i n : Nat), i + g = ts.length + 1 ∧ 1 ≤ i ∧ s3 = .int .i64 i ∧ Hid (Rose ts i ∧ wx = w.drewN n))
  case atStart => exact ⟨1, 0, by omega, Nat.le_refl _, rfl, Lib.hid ⟨fun j a b h => by omega, rfl⟩⟩
  case round =>
    obtain ⟨i, n, hig, h1, rfl, HW⟩ := hrel
    obtain ⟨hro, hw⟩ := HW.out
    subst hw
    have HO := Lib.hid hro
    clear HW hro
    by_cases hlt : i < ts.length
    · have hltz : (i : Int) < (ts.length : Int) := by omega
      obtain ⟨u, hu⟩ : ∃ u, i = u + 1 := ⟨i - 1, by omega⟩
      obtain ⟨x, hx⟩ : ∃ x, ts[u]? = some x := ⟨_, List.getElem?_eq_getElem (by omega)⟩
      obtain ⟨y, hy⟩ : ∃ y, ts[i]? = some y := ⟨_, List.getElem?_eq_getElem hlt⟩
      have HN : Hid (ltK x y = true → Rose ts (i + 1)) := Lib.hid (fun hl j a b hj ha hb => by
        rcases Nat.lt_or_ge (j + 1) i with h | h
        · exact HO.out j a b h ha hb
        · have : j = u := by omega
          subst this
          rw [hx] at ha
          rw [← hu, hy] at hb
          cases ha; cases hb
          exact hl)
      have HF : Hid (ltK x y = false → riseB ts = false) := Lib.hid (fun hl => by
        rw [Bool.eq_false_iff]
        intro h
        rw [(rise_iff ts).1 h u x y hx (by rw [← hu]; exact hy)] at hl
        cases hl)
      rcases HR.out with h | ⟨b, o, rfl, hc⟩
      · rw [h] at hlt; simp at hlt
      obtain ⟨p0, _⟩ := hc u x.1 x.2 hx
      obtain ⟨q0, _⟩ := hc i y.1 y.2 hy
      have e := geq_key x y
      have hz : IntKind.i64.wrap ((i : Int) - 1) = (u : Int) := by rw [IntKind.wrap_i64]; omega
      have l0 : (u : Int) < (ts.length : Int) := by omega
      have l2 : u < ts.length := by omega
      clear hc hx hy HO hu
      rcases hl : ltK x y with _ | _
      · rw [hl] at e
        have HF := Lib.hid (HF.out hl)
        clear hl HN
        go_wp2
        go_quiet (fail)
        go_wp2
        go_ret
        exact ⟨ret_bool HF.out.symm, below_of_grown (grown_drew (grown_drew (grown_refl _ _) _) _)⟩
      · rw [hl] at e
        have HN := Lib.hid (HN.out hl)
        clear hl HF
        go_wp2
        go_quiet (fail)
        go_wp2
        go_roundg (gk - 1)
        case rel => exact ⟨i + 1, _, by omega, by omega, by go_num, Lib.hid ⟨HN.out, rfl⟩⟩
        case measure => omega
    · have e1 : decide ((i : Int) < (ts.length : Int)) = false := decide_eq_false (by omega)
      have e2 : decide (i < ts.length) = false := decide_eq_false hlt
      have HT : Hid (riseB ts = true) := Lib.hid ((rise_iff ts).2 fun j a b ha hb => HO.out j a b (by have := (List.getElem?_eq_some_iff.1 hb).1; omega) ha hb)
      go_wp2
      go_ret
      exact ⟨ret_bool HT.out.symm, below_of_grown (grown_drew (grown_refl _ _) _)⟩

def Cuts (h : List UInt8) (w : World) (e : Ending) (w' : World) : Prop := ∃ y : ByteArray, e = .returned (.tuple #[.string ⟨h.toArray⟩, .string y, .bool true]) ∧ Below w.heap.size w w'
theorem liteCut (s : ByteArray) (h r : List UInt8) (w : World) (hs : s.data.toList = h ++ 32 :: r) (hn : ∀ d ∈ h, d ≠ 32) (hl : s.size ≤ 1000) :
    Calls Tryd.prog 30 #[.string s, .string ⟨#[32]⟩] w (Cuts h w) := by
  have C := Tryd.stringslite_Index_one s 32 w
  rw [hs, indexByte_at h r 32 hn] at C
  have C := Lib.hid C
  have hsz : s.size = h.length + 1 + r.length := by
    have := congrArg List.length hs
    simp at this
    omega
  have hx : Hid ((⟨h.toArray⟩ : ByteArray) = s.extract 0 h.length) := Lib.hid (ba_ext (by rw [extract_list, hs]; simp))
  clear hs hn
  have h0 : (0 : Int) ≤ (h.length : Int) := by omega
  have h1 : (h.length : Int) ≤ s.size := by omega
  have h2 : h.length ≤ s.size := by omega
  have h3 : (h.length : Int) + 1 ≤ s.size := by omega
  have h4 : h.length + 1 ≤ s.size := by omega
  have ww : IntKind.i64.wrap ((h.length : Int) + 1) = (h.length : Int) + 1 := by rw [IntKind.wrap_i64]; omega
  go_enter Tryd.func30, Tryd.ntmps30
  go_wp2_with ((go_at_call 38; refine C.out.mono ?_); rintro e w' ⟨rfl, rfl⟩)
  go_quiet (fail)
  go_wp2
  go_ret3
  unfold Cuts
  rw [hx.out]
  exact ⟨_, rfl, below_of_grown (grown_drew (grown_refl _ _) _)⟩
theorem strCut (s : ByteArray) (h r : List UInt8) (w : World) (hs : s.data.toList = h ++ 32 :: r) (hn : ∀ d ∈ h, d ≠ 32) (hl : s.size ≤ 1000) :
    Calls Tryd.prog 21 #[.string s, .string ⟨#[32]⟩] w (Cuts h w) := by
  have C := Lib.hid (liteCut s h r w hs hn hl)
  clear hs hn
  go_enter Tryd.func21, Tryd.ntmps21
  go_wp2_with ((go_at_call 30; refine C.out.mono ?_); rintro e w' ⟨y, rfl, hb⟩)
  go_ret3
  exact ⟨_, rfl, hb⟩
end Go.Proofs.YtfbccngbgkddlaaDoor
