/-
  The library's rotate at float64, walked.
-/
import Derived.Test.YthjdcailnibeiaaSwap
namespace Go.Proofs.Ythjdcailnibeiaa
open Go.Shelf Go.RowKit Go.Lib Go.Sort

/-- What the loop of rotate has still to do, done, is what it was asked for. -/
def RotTo (a m b : Nat) (d dk : Array UInt64) (i j : Nat) : Prop :=
  PermIn a b d dk ∧ ∀ d' : Array UInt64, (∀ x, d'[x]! = dk[rotIx (m - i) m (m + j) x]!) → ∀ x, d'[x]! = d[rotIx a m b x]!
theorem RotTo.more {a m b : Nat} {d dk : Array UInt64} {i j : Nat} (h : RotTo a m b d dk i j) (hj : 0 < j) (hij : j < i) (hi : i ≤ m - a) (ham : a ≤ m) (hjb : m + j ≤ b) (hb : b ≤ d.size) (hz : dk.size = d.size) :
    RotTo a m b d (swapUp (m - i) m j dk) (i - j) j := by
  refine ⟨permIn_trans _ _ _ _ _ h.1 (swapUp_perm j (by omega) (by omega) (by omega) (by omega)), fun d' hd' => h.2 d' fun x => ?_⟩
  rw [hd' x, swapUp_get j (by omega) (by omega), rot_more hj hij (by omega)]
theorem RotTo.less {a m b : Nat} {d dk : Array UInt64} {i j : Nat} (h : RotTo a m b d dk i j) (hi0 : 0 < i) (hij : i < j) (hi : i ≤ m - a) (ham : a ≤ m) (hjb : m + j ≤ b) (hb : b ≤ d.size) (hz : dk.size = d.size) :
    RotTo a m b d (swapUp (m - i) (m + j - i) i dk) i (j - i) := by
  refine ⟨permIn_trans _ _ _ _ _ h.1 (swapUp_perm i (by omega) (by omega) (by omega) (by omega)), fun d' hd' => h.2 d' fun x => ?_⟩
  rw [hd' x, swapUp_get i (by omega) (by omega), rot_less hi0 hij (by omega)]
theorem RotTo.last {a m b : Nat} {d dk : Array UInt64} {i : Nat} (h : RotTo a m b d dk i i) (hi0 : 0 < i) (hi : i ≤ m - a) (ham : a ≤ m) (hjb : m + i ≤ b) (hb : b ≤ d.size) (hz : dk.size = d.size) :
    Rot a m b d (swapUp (m - i) m i dk) := by
  refine ⟨permIn_trans _ _ _ _ _ h.1 (swapUp_perm i (by omega) (by omega) (by omega) (by omega)), h.2 _ fun x => ?_⟩
  rw [swapUp_get i (by omega) (by omega), rot_end hi0 (by omega)]

set_option maxHeartbeats 4000000 in
set_option maxRecDepth 100000 in
theorem rotate_walk (blk off cap a m b : Nat) (fv : Value) (d0 d : Array UInt64) (w0 w : World) (R : Row1 encF w0 blk off d0) (hs : d0.size = d.size) (S : SW encF w0 blk off d w)
    (ham : a < m) (hmb : m < b) (hb : b ≤ d.size) (hsz : d.size < 4611686018427387904) :
    Calls Try.prog 38 #[.slice (some ⟨blk, off, none⟩) d.size cap, .int .i64 a, .int .i64 m, .int .i64 b, fv] w
      (SortsTo w0 blk off (Rot a m b d)) := by
  have S0 : Aside (SW encF w0 blk off d w) := S
  clear S
  have RR : Aside _ := R
  clear R
  go_enter Try.func38, Try.ntmps38
  go_wp2
  go_loopg [10, 11] (b - a) (fun g vi vj wr => ∃ (i j : Nat) (dk : Array UInt64), vi = .int .i64 i ∧ vj = .int .i64 j ∧ 0 < i ∧ 0 < j ∧ i ≤ m - a ∧ m + j ≤ b ∧ i + j ≤ g ∧ dk.size = d.size ∧ Aside (SW encF w0 blk off dk wr) ∧ Aside (RotTo a m b d dk i j))
  case atStart =>
    refine ⟨m - a, b - m, d, by go_num, by go_num, by omega, by omega, by omega, by omega, by omega, rfl, S0, ?_⟩
    refine ⟨permIn_refl _ _ _, fun d' h x => ?_⟩
    have e1 : m - (m - a) = a := by omega
    have e2 : m + (b - m) = b := by omega
    rw [e1, e2] at h
    exact h x
  case round =>
    clear S0
    obtain ⟨i, j, dk, rfl, rfl, hi0, hj0, him, hjb, hg, hz, SJ, RT⟩ := hrel
    obtain ⟨p, hp⟩ : ∃ q, q = m - i := ⟨_, rfl⟩
    have z1 : IntKind.i64.wrap ((m : Int) - (i : Int)) = (p : Int) := by rw [IntKind.wrap_i64]; omega
    by_cases heq : i = j
    · subst heq
      have hcon := fun wx hx => swapRange_walk blk off cap (m - i) m i fv d0 dk w0 wx RR.out (by omega) hx (by omega) (by omega) (by omega)
      have C := Lib.hid hcon
      clear hcon
      rw [hz, ← hp] at C
      have hfin := Lib.hid (RT.out.last hi0 him (by omega) hjb hb hz)
      rw [← hp] at hfin
      clear hp
      go_wp2_with ((go_at_call 39; refine (C.out _ SJ.out).mono ?_); rintro e w' ⟨rfl, hS⟩)
      go_end0
      exact ⟨rfl, _, hfin.out, hS⟩
    · have hne : ((i : Int) != (j : Int)) = true := by simp; omega
      by_cases hij : j < i
      · have hgt : (j : Int) < (i : Int) := by omega
        have hcon := fun wx hx => swapRange_walk blk off cap (m - i) m j fv d0 dk w0 wx RR.out (by omega) hx (by omega) (by omega) (by omega)
        have C := Lib.hid hcon
        clear hcon
        rw [hz, ← hp] at C
        have hfin := Lib.hid (RT.out.more hj0 hij him (by omega) hjb hb hz)
        rw [← hp] at hfin
        obtain ⟨s, hs'⟩ : ∃ q, q = i - j := ⟨_, rfl⟩
        have z4 : IntKind.i64.wrap ((i : Int) - (j : Int)) = (s : Int) := by rw [IntKind.wrap_i64]; omega
        rw [← hs'] at hfin
        have HP := Lib.hid hp
        have HS := Lib.hid hs'
        have HN := Lib.hid heq
        clear hp hs' RT heq
        go_wp2_with ((go_at_call 39; refine (C.out _ SJ.out).mono ?_); rintro e w' ⟨rfl, hS⟩)
        go_roundg (gk - 1)
        case measure => omega
        case rel =>
          have := HS.out
          exact ⟨s, j, _, rfl, rfl, by omega, by omega, by omega, by omega, by omega, by rw [swapUp_size]; exact hz, hS, hfin.out⟩
      · have hgt : ¬ (j : Int) < (i : Int) := by omega
        obtain ⟨q, hq⟩ : ∃ q, q = m + j := ⟨_, rfl⟩
        have z2 : IntKind.i64.wrap ((m : Int) + (j : Int)) = (q : Int) := by rw [IntKind.wrap_i64]; omega
        obtain ⟨r, hr⟩ : ∃ r, r = m + j - i := ⟨_, rfl⟩
        have z3 : IntKind.i64.wrap ((q : Int) - (i : Int)) = (r : Int) := by rw [IntKind.wrap_i64]; omega
        have hcon := fun wx hx => swapRange_walk blk off cap (m - i) (m + j - i) i fv d0 dk w0 wx RR.out (by omega) hx (by omega) (by omega) (by omega)
        have C := Lib.hid hcon
        clear hcon
        rw [hz, ← hp, ← hr] at C
        have hfin := Lib.hid (RT.out.less hi0 (by omega) him (by omega) hjb hb hz)
        rw [← hp, ← hr] at hfin
        obtain ⟨s, hs'⟩ : ∃ q, q = j - i := ⟨_, rfl⟩
        have z4 : IntKind.i64.wrap ((j : Int) - (i : Int)) = (s : Int) := by rw [IntKind.wrap_i64]; omega
        rw [← hs'] at hfin
        have HP := Lib.hid hp
        have HS := Lib.hid hs'
        have HN := Lib.hid heq
        clear hp hq hr hs' RT heq
        go_wp2_with ((go_at_call 39; refine (C.out _ SJ.out).mono ?_); rintro e w' ⟨rfl, hS⟩)
        go_roundg (gk - 1)
        case measure => omega
        case rel =>
          have := HS.out
          have := HN.out
          exact ⟨i, s, _, rfl, rfl, by omega, by omega, by omega, by omega, by omega, by rw [swapUp_size]; exact hz, hS, hfin.out⟩
end Go.Proofs.Ythjdcailnibeiaa
