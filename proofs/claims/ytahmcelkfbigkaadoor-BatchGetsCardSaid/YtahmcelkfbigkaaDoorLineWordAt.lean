/-
  Layer 4 (line): the reader's method word: a word into memory of its own, or none.
-/
import Derived.Test.YtahmcelkfbigkaaDoorLineRead
import Derived.Test.YtahmcelkfbigkaaDoorLineWord
namespace Go.Proofs.YtahmcelkfbigkaaDoor
open Go.ChangeShapes Go.WideShapes Go.ChangeAt Go.RowKit
set_option linter.unusedVariables false

theorem strClone (s : ByteArray) (w : World) (hs : s.size ≤ 281474976710656) : Calls Tryd.prog 71 #[.string s] w fun e w' => e = .returned (.string s) ∧ Below w.heap.size w w' := by
  have C := Lib.hid (Tryd.stringslite_Clone s w hs)
  go_enter Tryd.func71, Tryd.ntmps71
  go_wp2_with ((go_at_call 78; refine C.out.mono ?_); rintro e w' ⟨rfl, hb⟩)
  go_ret
  exact ⟨rfl, hb⟩

def Words (t : ByteArray) (y : Bool) (w : World) (b : Nat) (s : ByteArray) (k : Nat) (e : Ending) (w' : World) : Prop := e = .returned (.tuple #[.string t, .bool y]) ∧ Mv w b s k w'
theorem extract_size (s : ByteArray) (a b : Nat) (h : b ≤ s.size) : (s.extract a b).size = b - a := by
  rw [ByteArray.size_extract]; omega

theorem wordYes (w : World) (b : Nat) (s : ByteArray) (k j : Nat) (h : Rd w b s k) (hs : s.size ≤ 300) (hk : k ≤ s.size) (hw : wordAt s k = some j) :
    Calls Tryd.prog 63 #[.pointer (some ⟨b, 0, none⟩)] w (Words (s.extract k j) true w b s j) := by
  obtain ⟨hj, hB⟩ := wordAt_some hw
  obtain ⟨hkj, hjs⟩ := wordAt_le hk hw
  have HR := Lib.hid h
  have HJ := Lib.hid hj
  have HB := Lib.hid hB
  clear h hj hB hw
  have c0 := HR.out.c0
  have c1 := HR.out.c1
  have f1 := HR.out.f1
  go_enter Tryd.func63, Tryd.ntmps63
  go_wp2
  go_loop [4] (fun i => ∃ m : Nat, k ≤ m ∧ m ≤ s.size ∧ i = .int .i64 m ∧ Hid (runEnd inW s k = runEnd inW s m)) (fun i => s.size - (intOf i).toNat)
  case atStart => exact ⟨k, Nat.le_refl _, hk, rfl, Lib.hid rfl⟩
  case round =>
    obtain ⟨m, hkm, hm, rfl, HA⟩ := hrel
    by_cases hgo : ∃ hlt : m < s.size, inW s[m] = true
    · obtain ⟨hlt, hb⟩ := hgo
      go_wp2_with ((go_at_call 69; refine (lineInWord _ _).mono ?_); rintro e w' ⟨rfl, rfl⟩)
      go_round
      case rel => exact ⟨m + 1, by omega, by omega, by go_num, Lib.hid (HA.out.trans (runEnd_step hlt hb))⟩
      case measure => simp [intOf]; omega
    · have hex : s.size ≤ m ∨ ∃ hlt : m < s.size, inW s[m] = false := by
        rcases Nat.lt_or_ge m s.size with hlt | hge
        · exact .inr ⟨hlt, by cases hb : inW s[m] with | false => rfl | true => exact absurd ⟨hlt, hb⟩ hgo⟩
        · exact .inl hge
      clear hgo
      have hmj : m = j := by
        rcases hex with hge | ⟨hlt, hb⟩
        · rw [HJ.out, HA.out, runEnd_end hge]
        · rw [HJ.out, HA.out, runEnd_stop hlt hb]
      subst hmj
      have CW := Lib.hid (fun w' => lineIsWord (s.extract k m) w' (by rw [extract_size s k m hm]; omega))
      have CC := Lib.hid (fun w' => strClone (s.extract k m) w' (by rw [extract_size s k m hm]; omega))
      rw [HB.out] at CW
      rcases hex with hge | ⟨hlt, hb⟩
      all_goals
        go_wp2_with ((go_at_call 69; refine (lineInWord _ _).mono ?_); rintro e w' ⟨rfl, rfl⟩)
        go_quiet (fail)
        go_wp2_with (first
          | ((go_at_call 70; refine (CW.out _).mono ?_); rintro e w' ⟨rfl, rfl⟩)
          | ((go_at_call 71; refine (CC.out _).mono ?_); rintro e w' ⟨rfl, hb9⟩))
        go_ret2
        exact ⟨rfl, grown_of_below (grown_drew (grown_set (grown_refl _ _) _ _ (Or.inl rfl)) _) hb9 (by simp), Rd.below ((HR.out.set m).drew _) hb9⟩
theorem wordNo (w : World) (b : Nat) (s : ByteArray) (k : Nat) (h : Rd w b s k) (hs : s.size ≤ 300) (hk : k ≤ s.size) (hw : wordAt s k = none) :
    Calls Tryd.prog 63 #[.pointer (some ⟨b, 0, none⟩)] w (Words ⟨#[]⟩ false w b s k) := by
  have hB : wordB (s.extract k (runEnd inW s k)) = false := by
    cases hB : wordB (s.extract k (runEnd inW s k)) with
    | false => rfl
    | true => unfold wordAt at hw; rw [if_pos hB] at hw; cases hw
  have hkj := runEnd_ge inW s k
  have hjs := runEnd_le (p := inW) hk
  obtain ⟨j, hj⟩ : ∃ j, j = runEnd inW s k := ⟨_, rfl⟩
  rw [← hj] at hB hkj hjs
  have HR := Lib.hid h
  have HJ := Lib.hid hj
  have HB := Lib.hid hB
  clear h hj hB hw
  have c0 := HR.out.c0
  have c1 := HR.out.c1
  go_enter Tryd.func63, Tryd.ntmps63
  go_wp2
  go_loop [4] (fun i => ∃ m : Nat, k ≤ m ∧ m ≤ s.size ∧ i = .int .i64 m ∧ Hid (runEnd inW s k = runEnd inW s m)) (fun i => s.size - (intOf i).toNat)
  case atStart => exact ⟨k, Nat.le_refl _, hk, rfl, Lib.hid rfl⟩
  case round =>
    obtain ⟨m, hkm, hm, rfl, HA⟩ := hrel
    by_cases hgo : ∃ hlt : m < s.size, inW s[m] = true
    · obtain ⟨hlt, hb⟩ := hgo
      go_wp2_with ((go_at_call 69; refine (lineInWord _ _).mono ?_); rintro e w' ⟨rfl, rfl⟩)
      go_round
      case rel => exact ⟨m + 1, by omega, by omega, by go_num, Lib.hid (HA.out.trans (runEnd_step hlt hb))⟩
      case measure => simp [intOf]; omega
    · have hex : s.size ≤ m ∨ ∃ hlt : m < s.size, inW s[m] = false := by
        rcases Nat.lt_or_ge m s.size with hlt | hge
        · exact .inr ⟨hlt, by cases hb : inW s[m] with | false => rfl | true => exact absurd ⟨hlt, hb⟩ hgo⟩
        · exact .inl hge
      clear hgo
      have hmj : m = j := by
        rcases hex with hge | ⟨hlt, hb⟩
        · rw [HJ.out, HA.out, runEnd_end hge]
        · rw [HJ.out, HA.out, runEnd_stop hlt hb]
      subst hmj
      have CW := Lib.hid (fun w' => lineIsWord (s.extract k m) w' (by rw [extract_size s k m hm]; omega))
      rw [HB.out] at CW
      rcases hex with hge | ⟨hlt, hb⟩
      all_goals
        go_wp2_with ((go_at_call 69; refine (lineInWord _ _).mono ?_); rintro e w' ⟨rfl, rfl⟩)
        go_quiet (fail)
        go_wp2_with ((go_at_call 70; refine (CW.out _).mono ?_); rintro e w' ⟨rfl, rfl⟩)
        go_ret2
        exact ⟨rfl, grown_drew (grown_refl _ _) _, HR.out.drew _⟩
end Go.Proofs.YtahmcelkfbigkaaDoor
