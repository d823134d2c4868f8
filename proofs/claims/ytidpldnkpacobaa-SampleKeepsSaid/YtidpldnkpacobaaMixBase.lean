/-
  What the calls of layer 3 (mix) and the document's own answers return, at every list of bytes.
-/
import Derived.Test.YtidpldnkpacobaaKit
import Derived.Test.YtidpldnkpacobaaMixPure
import Derived.LoopTactic
import Derived.Lib.SlBytesConst
namespace Go.Proofs.Ytidpldnkpacobaa
open Go.ChangeShapes Go.WideShapes Go.ChangeAt Go.RowKit
set_option linter.unusedVariables false

/-- A slice of whole numbers, nil or not, that reads as this list. -/
def RdInts (k : IntKind) (w : World) (A : Option Addr) (zs : List Int) : Prop :=
  ∀ i, i < zs.length → ∃ ad n, A = some ad ∧ zs[i]? = some n ∧ w.cell? (ad.add i) = some (.int k n)

theorem ret_int {k : IntKind} {a b : Int} (h : a = b) : Ending.returned (.int k a) = .returned (.int k b) := by rw [h]
def Hashes (zs : List Int) (w : World) (e : Ending) (w' : World) : Prop := e = .returned (.int .u32 (mixOf zs)) ∧ w = w'

theorem mixHash (A : Option Addr) (zs : List Int) (cap : Nat) (w : World) (hl : zs.length ≤ 9223372036854775807) (hr : RdInts .u8 w A zs) (hz : Byte zs) :
    Calls Try.prog 19 #[.slice A zs.length cap] w (Hashes zs w) := by
  have HR := Lib.hid hr
  have HZ := Lib.hid hz
  clear hr hz
  go_enter Try.func19, Try.ntmps19
  go_wp2
  go_loop [3, 8] (fun s i => ∃ (k : Nat) (s' : Int), k ≤ zs.length ∧ i = .int .i64 k ∧ mixOf (zs.take k) = s' ∧ s = .int .u32 s') (fun _ i => zs.length - (intOf i).toNat)
  case atStart => exact ⟨0, 2166136261, Nat.zero_le _, rfl, rfl, rfl⟩
  case round =>
    obtain ⟨k, s, hk, rfl, hs, rfl⟩ := hrel
    have hb := mixOf_bd (zs.take k)
    rw [hs] at hb
    obtain ⟨hb0, hb1⟩ := hb
    by_cases hlt : k < zs.length
    · obtain ⟨ad, n, rfl, hzn, hc⟩ := HR.out k hlt
      have hn := HZ.out n (List.mem_of_getElem? hzn)
      obtain ⟨hn0, hn1⟩ := hn
      have HS := Lib.hid (mixOf_snoc hzn hs)
      clear hzn hs
      go_wp2
      go_round
      case rel =>
        refine ⟨k + 1, _, by omega, by go_num, HS.out, ?_⟩
        rw [u32_xor s n hb0 (by omega) hn0 (by omega)]
        rfl
      case measure => simp [intOf]; omega
    · have HS := Lib.hid hs
      clear hs
      go_wp2
      go_ret
      have h := HS.out
      rw [List.take_of_length_le (by omega)] at h
      exact ⟨ret_int h.symm, rfl⟩
theorem refHash (A : Option Addr) (zs : List Int) (cap : Nat) (w : World) (hl : zs.length ≤ 9223372036854775807) (hr : RdInts .u8 w A zs) (hz : Byte zs) :
    Calls Try.prog 15 #[.slice A zs.length cap] w (Hashes zs w) := by
  have HR := Lib.hid hr
  have HZ := Lib.hid hz
  clear hr hz
  go_enter Try.func15, Try.ntmps15
  go_wp2
  go_loop [3, 4] (fun s i => ∃ (k : Nat) (s' : Int), k ≤ zs.length ∧ i = .int .i64 k ∧ mixOf (zs.take k) = s' ∧ s = .int .u64 s') (fun _ i => zs.length - (intOf i).toNat)
  case atStart => exact ⟨0, 2166136261, Nat.zero_le _, rfl, rfl, rfl⟩
  case round =>
    obtain ⟨k, s, hk, rfl, hs, rfl⟩ := hrel
    have hb := mixOf_bd (zs.take k)
    rw [hs] at hb
    obtain ⟨hb0, hb1⟩ := hb
    by_cases hlt : k < zs.length
    · obtain ⟨ad, n, rfl, hzn, hc⟩ := HR.out k hlt
      have hn := HZ.out n (List.mem_of_getElem? hzn)
      obtain ⟨hn0, hn1⟩ := hn
      have HS := Lib.hid (mixOf_snoc hzn hs)
      clear hzn hs
      go_wp2
      go_round
      case rel =>
        refine ⟨k + 1, _, by omega, by go_num, HS.out, ?_⟩
        have x1 := xor_small s n hb0 hb1 hn0 hn1
        rw [u64_xor (s % 256) n (by omega) (by omega) hn0 (by omega), ref_step s n hb0 hb1 hn0 hn1, IntKind.wrap_u64, IntKind.wrap_u64]
        unfold mixStep
        generalize (s.toNat ^^^ n.toNat) = X at x1
        rw [Int.tmod_eq_emod_of_nonneg (by omega)]
        congr 1
        omega
      case measure => simp [intOf]; omega
    · have HS := Lib.hid hs
      clear hs
      go_wp2
      go_ret
      have h := HS.out
      rw [List.take_of_length_le (by omega)] at h
      exact ⟨ret_int h.symm, rfl⟩

def Parts (zs : List Int) (w : World) (e : Ending) (w' : World) : Prop := e = .returned (.int .i64 (mixOf zs % 65536)) ∧ w = w'
theorem mixPart (A : Option Addr) (zs : List Int) (cap : Nat) (w : World) (hl : zs.length ≤ 9223372036854775807) (hr : RdInts .u8 w A zs) (hz : Byte zs) :
    Calls Try.prog 17 #[.slice A zs.length cap] w (Parts zs w) := by
  have C := Lib.hid (mixHash A zs cap w hl hr hz)
  clear hr hz
  obtain ⟨b0, b1⟩ := mixOf_bd zs
  go_enter Try.func17, Try.ntmps17
  go_wp2_with ((go_at_call 19; refine C.out.mono ?_); rintro e w' ⟨rfl, rfl⟩)
  go_ret
  exact ⟨rfl, rfl⟩

def keepB (zs : List Int) (t : Int) : Bool := decide (t ≤ mixOf zs % 65536)
def KeptM (zs : List Int) (t : Int) (w : World) (e : Ending) (w' : World) : Prop := e = .returned (.bool (keepB zs t)) ∧ w = w'
theorem mixKeep (A : Option Addr) (zs : List Int) (cap : Nat) (t : Int) (w : World) (hl : zs.length ≤ 9223372036854775807) (hr : RdInts .u8 w A zs) (hz : Byte zs)
    (t0 : -9223372036854775808 ≤ t) (t1 : t ≤ 9223372036854775807) :
    Calls Try.prog 14 #[.slice A zs.length cap, .int .i64 t] w (KeptM zs t w) := by
  have C := Lib.hid (mixPart A zs cap w hl hr hz)
  clear hr hz
  obtain ⟨b0, b1⟩ := mixOf_bd zs
  go_enter Try.func14, Try.ntmps14
  go_wp2_with ((go_at_call 17; refine C.out.mono ?_); rintro e w' ⟨rfl, rfl⟩)
  go_ret
  exact ⟨ret_bool (by unfold keepB; simp), rfl⟩

theorem hash_a (ad : Addr) (w : World) (h : w.cell? ad = some (.int .u8 97)) :
    Calls Try.prog 19 #[.slice (some ad) 1 1] w fun e w' => e = .returned (.int .u32 3826002220) ∧ w = w' := by
  refine (mixHash (some ad) [97] 1 w (by simp) ?_ ?_).mono fun e w' ⟨he, hw⟩ => ⟨by rw [he]; exact ret_int (by decide +kernel), hw⟩
  · intro i hi
    have hi : i < 1 := hi
    obtain rfl : i = 0 := by omega
    exact ⟨ad, 97, rfl, rfl, by rw [show ad.add 0 = ad by unfold Addr.add; simp]; exact h⟩
  · intro n hn
    simp at hn; omega
theorem hash_nil (w : World) :
    Calls Try.prog 19 #[.slice none 0 0] w fun e w' => e = .returned (.int .u32 2166136261) ∧ w = w' :=
  (mixHash none [] 0 w (by simp) (fun i hi => by simp at hi) (fun n hn => by simp at hn)).mono fun e w' ⟨he, hw⟩ => ⟨by rw [he]; exact ret_int (by decide +kernel), hw⟩

end Go.Proofs.Ytidpldnkpacobaa
