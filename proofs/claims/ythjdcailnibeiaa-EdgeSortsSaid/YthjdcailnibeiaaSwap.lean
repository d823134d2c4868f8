/-
  The library's swapRange at float64, walked.
-/
import Derived.Test.YthjdcailnibeiaaSwapPure
namespace Go.Proofs.Ythjdcailnibeiaa
open Go.Shelf Go.RowKit Go.Lib Go.Sort

set_option maxHeartbeats 4000000 in
set_option maxRecDepth 100000 in
theorem swapRange_walk (blk off cap a b n : Nat) (fv : Value) (d0 d : Array UInt64) (w0 w : World) (R : Row1 encF w0 blk off d0) (hs : d0.size = d.size) (S : SW encF w0 blk off d w)
    (hab : a + n ≤ b) (hb : b + n ≤ d.size) (hsz : d.size < 4611686018427387904) :
    Calls Try.prog 39 #[.slice (some ⟨blk, off, none⟩) d.size cap, .int .i64 a, .int .i64 b, .int .i64 n, fv] w
      (fun e w' => e = .returned (.tuple #[]) ∧ SW encF w0 blk off (swapUp a b n d) w') := by
  have mixed := insLays.mixed
  have hcl0 := R.hO.cells
  simp only [Value.cells] at hcl0
  have hst := R.hO.store Try.prog
  have S0 : Aside (SW encF w0 blk off d w) := S
  clear S
  go_enter Try.func39, Try.ntmps39
  go_wp2
  go_loopg [10] n (fun g vi wr => ∃ i : Nat, vi = .int .i64 i ∧ i ≤ n ∧ n - i ≤ g ∧ Aside (SW encF w0 blk off (swapUp a b i d) wr))
  case atStart => exact ⟨0, rfl, by omega, by omega, S0⟩
  case round =>
    clear S0
    obtain ⟨i, rfl, hin, hg, SJ⟩ := hrel
    by_cases hlt : i < n
    · have hltz : (i : Int) < (n : Int) := by omega
      have hdz := swapUp_size a b i d
      generalize hdk : swapUp a b i d = dk at SJ hdz
      obtain ⟨p, hp⟩ : ∃ q, q = a + i := ⟨_, rfl⟩
      obtain ⟨q, hq⟩ : ∃ q, q = b + i := ⟨_, rfl⟩
      have ea : ((a : Int) + (i : Int)).toNat = p := by omega
      have pa : (0 : Int) ≤ (a : Int) + (i : Int) := by omega
      have ba : (a : Int) + (i : Int) < (d.size : Int) := by omega
      have ra : IntKind.i64.wrap ((a : Int) + (i : Int)) = (a : Int) + (i : Int) := by rw [IntKind.wrap_i64]; omega
      have eb : ((b : Int) + (i : Int)).toNat = q := by omega
      have pb : (0 : Int) ≤ (b : Int) + (i : Int) := by omega
      have bb : (b : Int) + (i : Int) < (d.size : Int) := by omega
      have rb : IntKind.i64.wrap ((b : Int) + (i : Int)) = (b : Int) + (i : Int) := by rw [IntKind.wrap_i64]; omega
      obtain ⟨x, hx⟩ : ∃ x, x = dk[p]! := ⟨_, rfl⟩
      obtain ⟨y, hy⟩ : ∃ x, x = dk[q]! := ⟨_, rfl⟩
      have S3 : Aside (SW encF w0 blk off (swp dk p q) ((wr.setCell ⟨blk, off + p, none⟩ (encF y)).setCell ⟨blk, off + q, none⟩ (encF x)).drew) := by rw [hx, hy]; exact SJ.out.swapped R p q (by omega) (by omega)
      have c1 := SJ.out.c1 R (by omega) p (by omega)
      have c2 := SJ.out.c1 R (by omega) q (by omega)
      have f1 := SJ.out.f1 R (by omega) p (by omega)
      have f2 := SJ.out.f1 R (by omega) q (by omega)
      obtain ⟨u, c3⟩ := SJ.out.c2 R (by omega) p q (by omega) (by omega) (encF y)
      rw [← hx] at c1
      rw [← hy] at c2
      have HP := Lib.hid hp
      have HQ := Lib.hid hq
      clear SJ hx hy hp hq
      go_wp2_with fail
      go_big_region_o
      clear c1 c2 c3 f1 f2
      generalize ((wr.setCell ⟨blk, off + p, none⟩ (encF y)).setCell ⟨blk, off + q, none⟩ (encF x)).drew = w3 at S3 ⊢
      clear ea eb
      go_wp2
      go_roundg (n - (i + 1))
      case measure => omega
      case rel => exact ⟨i + 1, by go_num, by omega, by omega, by show Aside (SW encF w0 blk off (swp (swapUp a b i d) (a + i) (b + i)) _); rw [hdk, ← HP.out, ← HQ.out]; exact S3⟩
    · have hltz : ¬ (i : Int) < (n : Int) := by omega
      obtain rfl : i = n := by omega
      go_wp2
      go_end0
      exact ⟨rfl, SJ.out⟩
end Go.Proofs.Ythjdcailnibeiaa
