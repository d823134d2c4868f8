/-
  The laws MixTells and MixLess (layer 3), walked: both return true at every list of bytes.
-/
import Derived.Test.YtpgncpochlfcnaaMixBase
namespace Go.Proofs.Ytpgncpochlfcnaa
open Go.ChangeShapes Go.WideShapes Go.ChangeAt Go.RowKit
set_option linter.unusedVariables false

theorem add_block (a : Addr) (i : Nat) : (a.add i).block = a.block := by
  unfold Addr.add; split <;> rfl
theorem RdInts.below {k : IntKind} {w w' : World} {A : Option Addr} {zs : List Int} (h : RdInts k w A zs) (hb : Below w.heap.size w w') : RdInts k w' A zs := by
  intro i hi
  obtain ⟨ad, n, e, hz, hc⟩ := h i hi
  exact ⟨ad, n, e, hz, by rw [hb.cell (World.block_lt_of_cell? w _ hc), hc]⟩

theorem mixTells_walk (A : Option Addr) (zs : List Int) (cap : Nat) (t : Int) (w : World) (hl : zs.length ≤ 9223372036854775807) (hr : RdInts .u8 w A zs) (hz : Byte zs)
    (t0 : -9223372036854775808 ≤ t) (t1 : t ≤ 9223372036854775807) :
    Calls Try.prog 3 #[.slice A zs.length cap, .int .i64 t] w (Holds w) := by
  have HR := Lib.hid hr
  have HZ := Lib.hid hz
  clear hr hz
  obtain ⟨b0, b1⟩ := mixOf_bd zs
  by_cases h5 : 5000 < zs.length
  · go_enter Try.func3, Try.ntmps3
    go_wp2_with ((go_at_call 6; refine (up_any _).mono ?_); rintro e w' ⟨rfl, hb⟩)
    go_ret
    exact ⟨rfl, hb⟩
  · by_cases hk : t ≤ mixOf zs % 65536
    all_goals
      go_enter Try.func3, Try.ntmps3
      go_wp2_with (first
        | ((go_at_call 6; refine (up_any _).mono ?_); rintro e w1 ⟨rfl, hb⟩;
           have HB := Lib.hid hb; clear hb;
           have C1 := Lib.hid (refHash A zs cap w1 hl (HR.out.below HB.out) HZ.out);
           have C2 := Lib.hid (mixHash A zs cap w1 hl (HR.out.below HB.out) HZ.out);
           have C3 := Lib.hid (mixPart A zs cap w1 hl (HR.out.below HB.out) HZ.out);
           have C4 := Lib.hid (mixKeep A zs cap t w1 hl (HR.out.below HB.out) HZ.out t0 t1))
        | ((go_at_call 7; refine C1.out.mono ?_); rintro e w' ⟨rfl, rfl⟩)
        | ((go_at_call 8; refine C2.out.mono ?_); rintro e w' ⟨rfl, rfl⟩)
        | ((go_at_call 9; refine C3.out.mono ?_); rintro e w' ⟨rfl, rfl⟩)
        | ((go_at_call 10; refine C4.out.mono ?_); rintro e w' ⟨rfl, rfl⟩))
      go_ret
      exact ⟨ret_bool (by unfold keepB; first | exact decide_eq_true hk | simp), HB.out⟩

def Bools (x : Bool) (w : World) (e : Ending) (w' : World) : Prop := e = .returned (.bool x) ∧ w = w'
theorem keep_is {A : Option Addr} {zs : List Int} {cap : Nat} {t : Int} {w : World} {b : Bool} (h : Calls Try.prog 10 #[.slice A zs.length cap, .int .i64 t] w (Keeps zs t w))
    (hb : decide (t ≤ mixOf zs % 65536) = b) : Calls Try.prog 10 #[.slice A zs.length cap, .int .i64 t] w (Bools b w) :=
  h.mono fun e w' ⟨he, hw⟩ => ⟨by rw [he]; exact ret_bool hb, hw⟩

theorem mixLess_walk (A : Option Addr) (zs : List Int) (cap : Nat) (lo hi : Int) (w : World) (hl : zs.length ≤ 9223372036854775807) (hr : RdInts .u8 w A zs) (hz : Byte zs)
    (l0 : -9223372036854775808 ≤ lo) (l1 : lo ≤ 9223372036854775807) (h0 : -9223372036854775808 ≤ hi) (h1 : hi ≤ 9223372036854775807) :
    Calls Try.prog 4 #[.slice A zs.length cap, .int .i64 lo, .int .i64 hi] w (Holds w) := by
  have HR := Lib.hid hr
  have HZ := Lib.hid hz
  clear hr hz
  obtain ⟨b0, b1⟩ := mixOf_bd zs
  by_cases h5 : 5000 < zs.length
  · go_enter Try.func4, Try.ntmps4
    go_wp2_with ((go_at_call 6; refine (up_any _).mono ?_); rintro e w' ⟨rfl, hb⟩)
    go_ret
    exact ⟨rfl, hb⟩
  · have KK : ∀ w1, Below w.heap.size w w1 → ∀ t b, -9223372036854775808 ≤ t → t ≤ 9223372036854775807 → decide (t ≤ mixOf zs % 65536) = b → Calls Try.prog 10 #[.slice A zs.length cap, .int .i64 t] w1 (Bools b w1) :=
      fun w1 hb t b t0 t1 e => keep_is (mixKeep A zs cap t w1 hl (HR.out.below hb) HZ.out t0 t1) e
    have HKK := Lib.hid KK
    clear KK
    obtain ⟨bh, ebh⟩ : ∃ b, decide (hi ≤ mixOf zs % 65536) = b := ⟨_, rfl⟩
    obtain ⟨bl, ebl⟩ : ∃ b, decide (lo ≤ mixOf zs % 65536) = b := ⟨_, rfl⟩
    by_cases h2 : lo ≤ hi
    · have hc : bh = true → bl = true := by
        rintro rfl; rw [← ebl]; simp at ebh ⊢; omega
      have HH := Lib.hid ebh
      have HL := Lib.hid ebl
      clear ebh ebl
      cases bh
      all_goals
        try (obtain rfl := hc rfl)
        clear hc
        go_enter Try.func4, Try.ntmps4
        go_wp2_with (first
          | ((go_at_call 6; refine (up_any _).mono ?_); rintro e w1 ⟨rfl, hb⟩;
             have HB := Lib.hid hb; clear hb;
             have CP := Lib.hid (mixPart A zs cap w1 hl (HR.out.below HB.out) HZ.out);
             have CH := Lib.hid (HKK.out w1 HB.out hi _ h0 h1 HH.out);
             have CL := Lib.hid (HKK.out w1 HB.out lo _ l0 l1 HL.out);
             have C0 := Lib.hid (HKK.out w1 HB.out 0 true (by omega) (by omega) (decide_eq_true (by omega)));
             have CM := Lib.hid (HKK.out w1 HB.out 65536 false (by omega) (by omega) (decide_eq_false (by omega)));
             have CQ := Lib.hid (HKK.out w1 HB.out (mixOf zs % 65536) true (by omega) (by omega) (decide_eq_true (by omega)));
             have CR := Lib.hid (HKK.out w1 HB.out (mixOf zs % 65536 + 1) false (by omega) (by omega) (decide_eq_false (by omega))))
          | ((go_at_call 9; refine CP.out.mono ?_); rintro e w' ⟨rfl, rfl⟩)
          | ((go_at_call 10; with_reducible refine CH.out.mono ?_); rintro e w' ⟨rfl, rfl⟩)
          | ((go_at_call 10; with_reducible refine CL.out.mono ?_); rintro e w' ⟨rfl, rfl⟩)
          | ((go_at_call 10; with_reducible refine C0.out.mono ?_); rintro e w' ⟨rfl, rfl⟩)
          | ((go_at_call 10; with_reducible refine CM.out.mono ?_); rintro e w' ⟨rfl, rfl⟩)
          | ((go_at_call 10; with_reducible refine CQ.out.mono ?_); rintro e w' ⟨rfl, rfl⟩)
          | ((go_at_call 10; with_reducible refine CR.out.mono ?_); rintro e w' ⟨rfl, rfl⟩))
        go_ret
        exact ⟨rfl, HB.out⟩
    · clear ebh ebl
      go_enter Try.func4, Try.ntmps4
      go_wp2_with (first
          | ((go_at_call 6; refine (up_any _).mono ?_); rintro e w1 ⟨rfl, hb⟩;
             have HB := Lib.hid hb; clear hb;
             have CP := Lib.hid (mixPart A zs cap w1 hl (HR.out.below HB.out) HZ.out);
             have C0 := Lib.hid (HKK.out w1 HB.out 0 true (by omega) (by omega) (decide_eq_true (by omega)));
             have CM := Lib.hid (HKK.out w1 HB.out 65536 false (by omega) (by omega) (decide_eq_false (by omega)));
             have CQ := Lib.hid (HKK.out w1 HB.out (mixOf zs % 65536) true (by omega) (by omega) (decide_eq_true (by omega)));
             have CR := Lib.hid (HKK.out w1 HB.out (mixOf zs % 65536 + 1) false (by omega) (by omega) (decide_eq_false (by omega))))
          | ((go_at_call 9; refine CP.out.mono ?_); rintro e w' ⟨rfl, rfl⟩)
          | ((go_at_call 10; with_reducible refine C0.out.mono ?_); rintro e w' ⟨rfl, rfl⟩)
          | ((go_at_call 10; with_reducible refine CM.out.mono ?_); rintro e w' ⟨rfl, rfl⟩)
          | ((go_at_call 10; with_reducible refine CQ.out.mono ?_); rintro e w' ⟨rfl, rfl⟩)
          | ((go_at_call 10; with_reducible refine CR.out.mono ?_); rintro e w' ⟨rfl, rfl⟩))
      go_ret
      exact ⟨rfl, HB.out⟩
end Go.Proofs.Ytpgncpochlfcnaa
