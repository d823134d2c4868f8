/-
  The sum of many (layer 1, sat), walked: the program's and the document's fold are one and the same.
-/
import Derived.Test.YtcgihokpgfplkaaSatBase
import Derived.LoopTactic
namespace Go.Proofs.Ytcgihokpgfplkaa
open Go.ChangeShapes Go.WideShapes Go.ChangeAt Go.RowKit

/-- A slice of whole numbers, nil or not, that reads as this list. -/
def RdInts (k : IntKind) (w : World) (A : Option Addr) (zs : List Int) : Prop :=
  ∀ i, i < zs.length → ∃ ad n, A = some ad ∧ zs[i]? = some n ∧ w.cell? (ad.add i) = some (.int k n)

def sumStep (p : Int × Bool) (n : Int) : Int × Bool := (addS p.1 n, p.2 || addO p.1 n)
def sumOf (zs : List Int) : Int × Bool := zs.foldl sumStep (0, false)
theorem sumOf_snoc {zs : List Int} {k : Nat} {n s : Int} {o : Bool} (h : zs[k]? = some n) (hs : sumOf (zs.take k) = (s, o)) :
    sumOf (zs.take (k + 1)) = (addS s n, o || addO s n) := by
  rw [List.take_add_one, h]
  unfold sumOf at hs ⊢
  rw [List.foldl_append, hs]
  rfl
theorem sumOf_bd (zs : List Int) (hz : ∀ n ∈ zs, -9223372036854775808 ≤ n ∧ n ≤ 9223372036854775807) :
    -9223372036854775808 ≤ (sumOf zs).1 ∧ (sumOf zs).1 ≤ 9223372036854775807 := by
  suffices ∀ p : Int × Bool, -9223372036854775808 ≤ p.1 ∧ p.1 ≤ 9223372036854775807 → -9223372036854775808 ≤ (zs.foldl sumStep p).1 ∧ (zs.foldl sumStep p).1 ≤ 9223372036854775807 from this _ (by decide)
  induction zs with
  | nil => intro p hp; exact hp
  | cons z zs ih =>
    intro p hp
    have := hz z (by simp)
    exact ih (fun n hn => hz n (by simp [hn])) _ (addS_bd _ _ hp.1 hp.2 this.1 this.2)

def Sums (zs : List Int) (w : World) (e : Ending) (w' : World) : Prop :=
  e = .returned (.tuple #[.int .i64 (sumOf zs).1, .bool (sumOf zs).2]) ∧ w = w'

theorem satSum (A : Option Addr) (zs : List Int) (cap : Nat) (w : World) (hl : zs.length ≤ 9223372036854775807) (hr : RdInts .i64 w A zs)
    (hz : ∀ n ∈ zs, -9223372036854775808 ≤ n ∧ n ≤ 9223372036854775807) :
    Calls Try.prog 10 #[.slice A zs.length cap] w (Sums zs w) := by
  have HR := Lib.hid hr
  have HZ := Lib.hid hz
  clear hr hz
  go_enter Try.func10, Try.ntmps10
  go_wp2
  go_loop [4, 5, 12] (fun s o i => ∃ (k : Nat) (s' : Int) (o' : Bool), k ≤ zs.length ∧ i = .int .i64 k ∧ sumOf (zs.take k) = (s', o') ∧ s = .int .i64 s' ∧ o = .bool o') (fun _ _ i => zs.length - (intOf i).toNat)
  case atStart => exact ⟨0, 0, false, Nat.zero_le _, rfl, rfl, rfl, rfl⟩
  case round =>
    obtain ⟨k, s, o, hk, rfl, hs, rfl, rfl⟩ := hrel
    have hb := sumOf_bd (zs.take k) (fun n hn => HZ.out n (List.mem_of_mem_take hn))
    rw [hs] at hb
    obtain ⟨hb0, hb1⟩ := hb
    by_cases hlt : k < zs.length
    · obtain ⟨ad, n, rfl, hzn, hc⟩ := HR.out k hlt
      have hn := HZ.out n (List.mem_of_getElem? hzn)
      obtain ⟨hn0, hn1⟩ := hn
      have HS := Lib.hid (sumOf_snoc hzn hs)
      clear hzn hs
      cases o
      all_goals
        go_wp2_with ((go_at_call 8; with_reducible refine (satAdd s n _ hb0 hb1 hn0 hn1).mono ?_); rintro e w' ⟨rfl, rfl⟩)
        go_round
        case rel => exact ⟨k + 1, _, _, by omega, by go_num, HS.out, rfl, by simp⟩
        case measure => simp [intOf]; omega
    · have HS := Lib.hid hs
      clear hs
      go_wp2
      go_ret2
      have h := HS.out
      rw [List.take_of_length_le (by omega)] at h
      exact ⟨ret_pair (by rw [h]) (by rw [h]), rfl⟩
theorem refSum (A : Option Addr) (zs : List Int) (cap : Nat) (w : World) (hl : zs.length ≤ 9223372036854775807) (hr : RdInts .i64 w A zs)
    (hz : ∀ n ∈ zs, -9223372036854775808 ≤ n ∧ n ≤ 9223372036854775807) :
    Calls Try.prog 11 #[.slice A zs.length cap] w (Sums zs w) := by
  have HR := Lib.hid hr
  have HZ := Lib.hid hz
  clear hr hz
  go_enter Try.func11, Try.ntmps11
  go_wp2
  go_loop [4, 5, 6] (fun s o i => ∃ (k : Nat) (s' : Int) (o' : Bool), k ≤ zs.length ∧ i = .int .i64 k ∧ sumOf (zs.take k) = (s', o') ∧ s = .int .i64 s' ∧ o = .bool o') (fun _ _ i => zs.length - (intOf i).toNat)
  case atStart => exact ⟨0, 0, false, Nat.zero_le _, rfl, rfl, rfl, rfl⟩
  case round =>
    obtain ⟨k, s, o, hk, rfl, hs, rfl, rfl⟩ := hrel
    have hb := sumOf_bd (zs.take k) (fun n hn => HZ.out n (List.mem_of_mem_take hn))
    rw [hs] at hb
    obtain ⟨hb0, hb1⟩ := hb
    by_cases hlt : k < zs.length
    · obtain ⟨ad, n, rfl, hzn, hc⟩ := HR.out k hlt
      have hn := HZ.out n (List.mem_of_getElem? hzn)
      obtain ⟨hn0, hn1⟩ := hn
      have HS := Lib.hid (sumOf_snoc hzn hs)
      clear hzn hs
      cases o
      all_goals
        go_wp2_with ((go_at_call 9; with_reducible refine (refAdd s n _ hb0 hb1 hn0 hn1).mono ?_); rintro e w' ⟨rfl, rfl⟩)
        go_round
        case rel => exact ⟨k + 1, _, _, by omega, by go_num, HS.out, rfl, by simp⟩
        case measure => simp [intOf]; omega
    · have HS := Lib.hid hs
      clear hs
      go_wp2
      go_ret2
      have h := HS.out
      rw [List.take_of_length_le (by omega)] at h
      exact ⟨ret_pair (by rw [h]) (by rw [h]), rfl⟩

theorem satSums_far (A : Option Addr) (n cap : Nat) (w : World) (hn : 200 < n) (hl : n ≤ 9223372036854775807) :
    Calls Try.prog 4 #[.slice A n cap] w (Holds w) := by
  go_enter Try.func4, Try.ntmps4
  go_wp2_with (go_at_call 7; refine (up_any _).mono ?_; rintro e w' ⟨rfl, rfl⟩)
  go_ret
  exact ⟨rfl, Below.refl _ _⟩

theorem satSums_walk (A : Option Addr) (zs : List Int) (cap : Nat) (w : World) (hl : zs.length ≤ 9223372036854775807) (hr : RdInts .i64 w A zs)
    (hz : ∀ n ∈ zs, -9223372036854775808 ≤ n ∧ n ≤ 9223372036854775807) :
    Calls Try.prog 4 #[.slice A zs.length cap] w (Holds w) := by
  by_cases h2 : 200 < zs.length
  · exact satSums_far A _ cap w h2 hl
  have c1 := Lib.hid (satSum A zs cap w hl hr hz)
  have c2 := Lib.hid (refSum A zs cap w hl hr hz)
  clear hr hz
  go_enter Try.func4, Try.ntmps4
  go_wp2_with (first
    | (go_at_call 7; refine (up_any _).mono ?_; rintro e w' ⟨rfl, rfl⟩)
    | (go_at_call 10; refine c1.out.mono ?_; rintro e w' ⟨rfl, rfl⟩)
    | (go_at_call 11; refine c2.out.mono ?_; rintro e w' ⟨rfl, rfl⟩))
  go_ret
  exact ⟨rfl, Below.refl _ _⟩
end Go.Proofs.Ytcgihokpgfplkaa
