/-
  Layer 4 (line): what is a word, and how far one goes: the program's and the document's own.
-/
import Derived.Test.YtfbccngbgkddlaaDoorLineBase
namespace Go.Proofs.YtfbccngbgkddlaaDoor
open Go.ChangeShapes Go.WideShapes Go.ChangeAt Go.RowKit
set_option linter.unusedVariables false

def AllTo (s : ByteArray) (k : Nat) : Prop := (s.data.toList.take k).all inW = true
theorem take_snoc (s : ByteArray) (k : Nat) (h : k < s.size) : s.data.toList.take (k + 1) = s.data.toList.take k ++ [s[k]] := by
  rw [List.take_succ_eq_append_getElem (by simpa using h)]; rfl
theorem AllTo.next {s : ByteArray} {k : Nat} (h : AllTo s k) (hk : k < s.size) (hc : inW s[k] = true) : AllTo s (k + 1) := by
  unfold AllTo at h ⊢
  rw [take_snoc s k hk, List.all_append, h]
  simp [hc]
theorem wordB_false {s : ByteArray} {k : Nat} (hk : k < s.size) (hc : inW s[k] = false) : wordB s = false := by
  unfold wordB
  have : s.data.toList.all inW = false := by
    rw [List.all_eq_false]
    exact ⟨s[k], Array.getElem_mem_toList (xs := s.data) (i := k) hk, by simp [hc]⟩
  rw [this]; rfl
theorem wordB_all {s : ByteArray} {k : Nat} (h : AllTo s k) (hk : s.size ≤ k) : wordB s = (decide (1 ≤ s.size) && decide (s.size ≤ 16)) := by
  unfold AllTo at h
  rw [List.take_of_length_le (by simpa using hk)] at h
  unfold wordB
  rw [h]; rfl

theorem words_lt {n : Nat} (h : 0 < n) : decide ((n : Int) ≤ 16) = (decide (1 ≤ n) && decide (n ≤ 16)) := by
  have e1 : decide (1 ≤ n) = true := decide_eq_true h
  rw [e1, Bool.true_and, decide_eq_decide]
  omega
theorem words_0 {n : Nat} (h : ¬ 0 < n) : false = (decide (1 ≤ n) && decide (n ≤ 16)) := by
  have e1 : decide (1 ≤ n) = false := decide_eq_false (by omega)
  rw [e1, Bool.false_and]

theorem refWord (s : ByteArray) (w : World) (hs : s.size ≤ 9223372036854775807) : Calls Tryd.prog 31 #[.string s] w (Bools (wordB s) w) := by
  go_enter Tryd.func31, Tryd.ntmps31
  go_wp2
  go_loop [3] (fun i => ∃ k : Nat, k ≤ s.size ∧ i = .int .i64 k ∧ AllTo s k) (fun i => s.size - (intOf i).toNat)
  case atStart => exact ⟨0, Nat.zero_le _, rfl, rfl⟩
  case round =>
    obtain ⟨k, hk, rfl, ha⟩ := hrel
    have HA := Lib.hid ha
    clear ha
    by_cases hlt : k < s.size
    · rcases hb : inW s[k] with _ | _
      · go_wp2_with ((go_at_call 39; refine (refWithin _ _).mono ?_); rintro e w' ⟨rfl, rfl⟩)
        go_ret
        exact ⟨ret_bool (wordB_false hlt hb).symm, rfl⟩
      · go_wp2_with ((go_at_call 39; refine (refWithin _ _).mono ?_); rintro e w' ⟨rfl, rfl⟩)
        go_round
        case rel => exact ⟨k + 1, by omega, by go_num, HA.out.next hlt hb⟩
        case measure => simp [intOf]; omega
    · have HW := Lib.hid (wordB_all HA.out (by omega))
      go_wp2
      all_goals
        go_ret
        refine ⟨ret_bool ?_, rfl⟩
        rw [HW.out]
        first
          | exact words_lt (by assumption)
          | exact words_0 (by assumption)

theorem lineIsWord (s : ByteArray) (w : World) (hs : s.size ≤ 9223372036854775807) : Calls Tryd.prog 32 #[.string s] w (Bools (wordB s) w) := by
  by_cases h0 : s.size = 0
  · have HW : Hid (wordB s = false) := Lib.hid (by unfold wordB; simp [h0])
    go_enter Tryd.func32, Tryd.ntmps32
    go_wp2
    go_ret
    exact ⟨ret_bool HW.out.symm, rfl⟩
  by_cases h16 : 16 < s.size
  · have HW : Hid (wordB s = false) := Lib.hid (by unfold wordB; simp; omega)
    go_enter Tryd.func32, Tryd.ntmps32
    go_wp2
    go_ret
    exact ⟨ret_bool HW.out.symm, rfl⟩
  have e0 : ((s.size : Int) == 0) = false := by rw [beq_eq_false_iff_ne]; omega
  go_enter Tryd.func32, Tryd.ntmps32
  go_wp2
  clear e0
  go_loop [14] (fun i => ∃ k : Nat, k ≤ s.size ∧ i = .int .i64 k ∧ AllTo s k) (fun i => s.size - (intOf i).toNat)
  case atStart => exact ⟨0, Nat.zero_le _, rfl, rfl⟩
  case round =>
    obtain ⟨k, hk, rfl, ha⟩ := hrel
    have HA := Lib.hid ha
    clear ha
    by_cases hlt : k < s.size
    · rcases hb : inW s[k] with _ | _
      · go_wp2_with ((go_at_call 40; refine (lineInWord _ _).mono ?_); rintro e w' ⟨rfl, rfl⟩)
        go_ret
        exact ⟨ret_bool (wordB_false hlt hb).symm, rfl⟩
      · go_wp2_with ((go_at_call 40; refine (lineInWord _ _).mono ?_); rintro e w' ⟨rfl, rfl⟩)
        go_round
        case rel => exact ⟨k + 1, by omega, by go_num, HA.out.next hlt hb⟩
        case measure => simp [intOf]; omega
    · have HW := Lib.hid (wordB_all HA.out (by omega))
      go_wp2
      go_ret
      exact ⟨ret_bool (by rw [HW.out]; simp; omega), rfl⟩

end Go.Proofs.YtfbccngbgkddlaaDoor
