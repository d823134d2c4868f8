/-
  Layer 14 (rule): whether a text begins with another; whether rules may be; the class of a key; whether rules are few, and short.
-/
import Derived.Test.YtfbccngbgkddlaaDoorRuleMem
import Derived.Test.YtfbccngbgkddlaaDoorEqlCode
import Derived.Deep.LoopGhost
namespace Go.Proofs.YtfbccngbgkddlaaDoor
open Go.ChangeShapes Go.WideShapes Go.ChangeAt Go.RowKit
set_option linter.unusedVariables false

/-- Does a key begin with a Prefix? -/
def begB (key p : ByteArray) : Bool := decide (p.size ≤ key.size) && ((key.extract 0 p.size).toList == p.toList)
def goodR (c : Int) (r : Ru) : Bool := decide (r.1.size ≤ 300) && decide (0 ≤ r.2) && decide (r.2 < c)
/-- May rules be? -/
def mayR (l : List Ru) (c : Int) : Bool := decide (1 ≤ c) && decide (c ≤ 4) && decide (l.length ≤ 10) && l.all (goodR c)
/-- The class of a key. -/
def classOf : List Ru → Int → ByteArray → Int
  | [], c, _ => c - 1
  | r :: l, c, key => if begB key r.1 = true then r.2 else classOf l c key
def fewRu (r : Ru) : Bool := decide (r.1.size ≤ 1000)
def fewU (l : List Ru) : Bool := l.all fewRu && decide (l.length ≤ 40)
theorem begB_short {key p : ByteArray} (h : key.size < p.size) : begB key p = false := by unfold begB; rw [show decide (p.size ≤ key.size) = false from decide_eq_false (by omega)]; rfl
theorem begB_long {key p : ByteArray} (h : p.size ≤ key.size) : begB key p = ((key.extract 0 p.size).toList == p.toList) := by unfold begB; rw [show decide (p.size ≤ key.size) = true from decide_eq_true h]; rfl
theorem str_to (s : ByteArray) (k : Nat) (hk : k ≤ s.size) (w : World) : (Instr.slice 9 (.string s) none (some (.int .i64 (k : Int))) none).run Tryd.prog w = .ok (.string (s.extract 0 k)) w := by
  rw [run_slice_string_h (P := Tryd.prog) (w := w) (t := 9) (s := s) Tryd.underlying9 .i64 (k : Int) (by omega) (by omega)]
  simp
theorem drop_cons {l : List Ru} {i : Nat} {r : Ru} (h : l[i]? = some r) : l.drop i = r :: l.drop (i + 1) := by
  obtain ⟨hl, e⟩ := List.getElem?_eq_some_iff.1 h
  rw [List.drop_eq_getElem_cons hl, e]
theorem class_on {l : List Ru} {i : Nat} {p : ByteArray} {c z : Int} {key : ByteArray} (h : l[i]? = some (p, z)) (hb : begB key p = false) : classOf (l.drop i) c key = classOf (l.drop (i + 1)) c key := by
  rw [drop_cons h]
  show (if begB key p = true then z else classOf (l.drop (i + 1)) c key) = _
  rw [hb]; rfl
theorem class_at {l : List Ru} {i : Nat} {p : ByteArray} {c z : Int} {key : ByteArray} (h : l[i]? = some (p, z)) (hb : begB key p = true) : classOf (l.drop i) c key = z := by
  rw [drop_cons h]
  show (if begB key p = true then z else classOf (l.drop (i + 1)) c key) = _
  rw [hb]; rfl
theorem class_end {l : List Ru} {c : Int} {key : ByteArray} : classOf (l.drop l.length) c key = c - 1 := by
  rw [List.drop_of_length_le (Nat.le_refl _)]; rfl
section
variable {l : List Ru} {f : Ru → Bool} {i : Nat} {r : Ru}
def AllF (f : Ru → Bool) (l : List Ru) (i : Nat) : Prop := (l.take i).all f = true
theorem AllF.start : AllF f l 0 := rfl
theorem AllF.next (h : AllF f l i) (hi : l[i]? = some r) (hb : f r = true) : AllF f l (i + 1) := by
  unfold AllF at h ⊢
  obtain ⟨hl, e⟩ := List.getElem?_eq_some_iff.1 hi
  rw [List.take_succ_eq_append_getElem hl, List.all_append, h, e]
  simp [hb]
theorem AllF.whole (h : AllF f l i) (hi : l.length ≤ i) : l.all f = true := by
  unfold AllF at h
  rwa [List.take_of_length_le hi] at h
theorem allF_no (hi : l[i]? = some r) (hb : f r = false) : l.all f = false := by
  rw [List.all_eq_false]; exact ⟨r, List.mem_of_getElem? hi, by rw [hb]; simp⟩
end

theorem lite_prefix (key p : ByteArray) (w : World) : Calls Tryd.prog 18 #[.string key, .string p] w fun e w' => e = .returned (.bool (begB key p)) ∧ w' = w := by
  by_cases h : p.size ≤ key.size
  · have sl := str_to key p.size h
    have hb := Lib.hid (begB_long h)
    go_enter Tryd.func18, Tryd.ntmps18
    go_wp2_with fail
    go_ret
    exact ⟨ret_bool hb.out.symm, rfl⟩
  · have hb := Lib.hid (begB_short (key := key) (p := p) (by omega))
    go_enter Tryd.func18, Tryd.ntmps18
    go_wp2_with fail
    go_ret
    exact ⟨ret_bool hb.out.symm, rfl⟩
theorem has_prefix (key p : ByteArray) (w : World) : Calls Tryd.prog 14 #[.string key, .string p] w fun e w' => e = .returned (.bool (begB key p)) ∧ w' = w := by
  have C := Lib.hid (lite_prefix key p w)
  go_enter Tryd.func14, Tryd.ntmps14
  go_wp2_with fail
  refine C.out.mono ?_
  rintro e w1 ⟨rfl, rfl⟩
  go_wp2_with fail
  go_ret
  exact ⟨rfl, rfl⟩
/-- It answers so, and turns nothing that was there. -/
def Tells (r : Value) (w : World) (e : Ending) (w' : World) : Prop := e = .returned r ∧ Below w.heap.size w w'
theorem bel_drewR (w : World) {w' : World} (h : Below w.heap.size w w') (n : Nat) : Below w.heap.size w (w'.drewN n) := ⟨h.os, h.tape, h.output, h.size, h.block⟩
set_option maxHeartbeats 1000000 in
theorem few_walk (A : Option Addr) (k : Nat) (l : List Ru) (w : World) (hr : RdRu w A l) (hl : l.length ≤ 9223372036854775807) (hf : FitRu l) :
    Calls Tryd.prog 6 #[.slice A l.length k] w fun e w' => e = .returned (.bool (fewU l)) ∧ w' = w := by
  have HR := Lib.hid hr
  have HF := Lib.hid hf
  obtain ⟨N, hN⟩ : ∃ N, l.length = N := ⟨_, rfl⟩
  have HN := Lib.hid hN
  rw [hN] at hl ⊢
  clear hr hf hN
  go_enter Tryd.func6, Tryd.ntmps6
  go_wp2_with fail
  go_loopg [3] N (fun g s3 wx => ∃ i : Nat, i + g = N ∧ s3 = .int .i64 i ∧ Hid (AllF fewRu l i ∧ wx = w))
  case atStart => exact ⟨0, by omega, rfl, Lib.hid ⟨rfl, rfl⟩⟩
  case round =>
    obtain ⟨i, hi, rfl, HG⟩ := hrel
    obtain rfl := HG.out.2
    cases gk with
    | zero =>
      obtain rfl : i = N := by omega
      have HA := Lib.hid (HG.out.1.whole (by rw [HN.out]; exact Nat.le_refl _))
      go_wp2_with fail
      go_ret
      refine ⟨ret_bool ?_, rfl⟩
      unfold fewU
      rw [HA.out, HN.out]
      simp
      try omega
    | succ g =>
      have x1 : (i : Int) < N := by omega
      obtain ⟨⟨p, z⟩, hpz⟩ : ∃ q, l[i]? = some q := ⟨l[i]'(by rw [HN.out]; omega), List.getElem?_eq_getElem _⟩
      obtain ⟨b, o, rfl, hat⟩ := HR.out.at hpz
      have p0 := (hat wr (Below.refl _ _)).1
      have hsz := (HF.out p z (List.mem_of_getElem? hpz)).1
      have HP := Lib.hid hpz
      clear hat hpz
      by_cases h : p.size ≤ 1000
      · have HB : Hid (fewRu (p, z) = true) := Lib.hid (decide_eq_true h)
        have y1 : ¬ (1000 : Int) < p.size := by omega
        go_wp2_with fail
        go_roundg g
        case rel => exact ⟨i + 1, by omega, by go_num, Lib.hid ⟨HG.out.1.next HP.out HB.out, rfl⟩⟩
        case measure => omega
      · have HB : Hid (fewRu (p, z) = false) := Lib.hid (decide_eq_false h)
        have y1 : (1000 : Int) < p.size := by omega
        go_wp2_with fail
        go_ret
        refine ⟨ret_bool ?_, rfl⟩
        unfold fewU
        rw [allF_no HP.out HB.out]; rfl
end Go.Proofs.YtfbccngbgkddlaaDoor
