/-
  Layer 17 (ledger): Open.
-/
import Derived.Test.YthadgficphkpkaaLedgerOps
import Derived.Deep.LoopGhost
namespace Go.Proofs.Ythadgficphkpkaa
open Go.ChangeShapes Go.WideShapes Go.ChangeAt Go.RowKit
set_option linter.unusedVariables false

/-- The sum of the first k. -/
def preS (f : Int → Int) : Nat → Int
  | 0 => 0
  | k + 1 => preS f k + f k
theorem pre_le (f : Int → Int) (h : ∀ x, 0 ≤ f x) {j k : Nat} (hjk : j ≤ k) : preS f j ≤ preS f k := by
  induction k with
  | zero => obtain rfl : j = 0 := by omega
            exact Int.le_refl _
  | succ k ih =>
    by_cases e : j = k + 1
    · subst e; exact Int.le_refl _
    · have := ih (by omega)
      have := h k
      simp only [preS]; omega
theorem pre_nn (f : Int → Int) (h : ∀ x, 0 ≤ f x) (k : Nat) : 0 ≤ preS f k := pre_le f h (Nat.zero_le k)
theorem pre_tot (s : Bk) (c : Int) (h : s.en c 0 = 0) : preS (s.en c) 8 = s.tot c := by
  simp only [preS, Bk.tot]
  have e : s.en c ((0 : Nat) : Int) = 0 := h
  rw [e]
  simp
section
variable {w w' : World} {a g n : Nat} {s : Bk}
theorem open_out (h : Lg w a g n s) {c : Int} (hc : ¬ HasC n c) :
    Calls Try.prog 9 #[.pointer (some ⟨a, 0, none⟩), .int .i64 c] w fun e w' => e = .returned (.tuple #[.int .u64 0, .bool false]) ∧ w = w' := by
  have CH := Lib.hid (has_out h hc)
  clear h hc
  go_enter Try.func9, Try.ntmps9
  go_wp2_with fail
  refine CH.out.mono ?_
  rintro e w2 ⟨rfl, rfl⟩
  go_wp2_with fail
  go_ret2
  exact ⟨rfl, rfl⟩
theorem info_one : (Try.prog.info? 30).map (·.size) = some 1 := by kernel_rfl
/-- 'l[j]' of an array of eight counts, taken by value. -/
theorem index_eight (w : World) (f : Int → Int) {j : Nat} (hj : j < 8) :
    (Instr.index 47 (.agg #[.int .u64 (f 0), .int .u64 (f 1), .int .u64 (f 2), .int .u64 (f 3), .int .u64 (f 4), .int .u64 (f 5), .int .u64 (f 6), .int .u64 (f 7)]) (.int .i64 (j : Int))).run Try.prog w = .ok (.int .u64 (f (j : Int))) w := by
  obtain ⟨i, hi, hs⟩ := Option.map_eq_some_iff.1 info_one
  simp [Instr.index, asIntOf, run_underlying Try.underlying47 w, hj, sizeOf, typeInfo, hi, hs, part]
  obtain rfl | rfl | rfl | rfl | rfl | rfl | rfl | rfl : j = 0 ∨ j = 1 ∨ j = 2 ∨ j = 3 ∨ j = 4 ∨ j = 5 ∨ j = 6 ∨ j = 7 := by omega
  all_goals rfl
/-- What Open answers where there is such a class. -/
def Opens (w : World) (s : Bk) (c : Int) (e : Ending) (w' : World) : Prop :=
  e = .returned (.tuple #[.int .u64 (if s.tot c ≤ s.cm c then s.cm c - s.tot c else 0), .bool (decide (s.tot c ≤ s.cm c))]) ∧ w = w'
set_option maxRecDepth 100000 in
set_option maxHeartbeats 2000000 in
theorem open_walk (h : Lg w a g n s) {c : Int} (hc : HasC n c) (z : s.en c 0 = 0) (e0 : ∀ r, 0 ≤ s.en c r) (x0 : 0 ≤ s.cm c) (x1 : s.cm c < 18446744073709551616) :
    Calls Try.prog 9 #[.pointer (some ⟨a, 0, none⟩), .int .i64 c] w (Opens w s c) := by
  have CH := Lib.hid (has_in h hc)
  obtain ⟨k, rfl⟩ : ∃ k : Nat, c = k := ⟨c.toNat, by have := hc.1; omega⟩
  have k1 : (k : Int) < n := hc.2
  have kn : k < n := by omega
  have c0 := h.c0
  have c1 := h.cm kn
  have d0 := h.en kn (r := 0) (by decide)
  have d1 := h.en kn (r := 1) (by decide)
  have d2 := h.en kn (r := 2) (by decide)
  have d3 := h.en kn (r := 3) (by decide)
  have d4 := h.en kn (r := 4) (by decide)
  have d5 := h.en kn (r := 5) (by decide)
  have d6 := h.en kn (r := 6) (by decide)
  have d7 := h.en kn (r := 7) (by decide)
  rw [Nat.add_zero] at d0
  simp only [Int.cast_ofNat_Int] at d0 d1 d2 d3 d4 d5 d6 d7
  have HT := Lib.hid (pre_tot s k z)
  have HM := Lib.hid (fun j (hj : j ≤ 8) => pre_le (s.en k) e0 hj)
  have HN := Lib.hid (fun j => pre_nn (s.en k) e0 j)
  have HE := Lib.hid e0
  have PS := Lib.hid (fun j => show preS (s.en k) (j + 1) = preS (s.en k) j + s.en k j from rfl)
  unfold Opens
  obtain ⟨T, hT⟩ : ∃ T, s.tot k = T := ⟨_, rfl⟩
  obtain ⟨R, hR⟩ : ∃ R, s.cm k = R := ⟨_, rfl⟩
  obtain ⟨f, hf⟩ : ∃ f, s.en (k : Int) = f := ⟨_, rfl⟩
  rw [hT] at HT ⊢
  rw [hR] at c1 x0 x1 ⊢
  rw [hf] at HT HM HN HE PS d0 d1 d2 d3 d4 d5 d6 d7
  obtain ⟨V, hV⟩ : ∃ V, (if T ≤ R then R - T else 0) = V := ⟨_, rfl⟩
  obtain ⟨B, hB⟩ : ∃ B, decide (T ≤ R) = B := ⟨_, rfl⟩
  rw [hV, hB]
  have HV1 : Hid (T ≤ R → R - T = V ∧ true = B) := Lib.hid (fun h => ⟨by rw [← hV, if_pos h], by rw [← hB, decide_eq_true h]⟩)
  have HV0 : Hid (¬ T ≤ R → 0 = V ∧ false = B) := Lib.hid (fun h => ⟨by rw [← hV, if_neg h], by rw [← hB, decide_eq_false h]⟩)
  clear hV hB
  have X0 := Lib.hid x0
  have X1 := Lib.hid x1
  have P0 : Hid (preS f 0 = 0) := Lib.hid rfl
  clear h hc z e0 hT hR hf x0 x1
  go_enter Try.func9, Try.ntmps9
  go_wp2_with fail
  refine CH.out.mono ?_
  rintro e w2 ⟨rfl, rfl⟩
  go_wp2_with fail
  go_loopg [6, 29] 8 (fun g s6 s29 wx => ∃ (j : Nat) (v : Int), j + g = 8 ∧ s6 = .int .u64 v ∧ s29 = .int .i64 (j : Nat) ∧ w = wx ∧ Hid (v = R - preS f j ∧ 0 ≤ v))
  case atStart => exact ⟨0, R, by omega, rfl, rfl, rfl, Lib.hid ⟨by rw [P0.out]; omega, X0.out⟩⟩
  case round =>
    obtain ⟨j, v, hj, rfl, rfl, rfl, HV⟩ := hrel
    cases gk with
    | zero =>
      obtain rfl : j = 8 := by omega
      have D : Hid (v = V ∧ true = B) := Lib.hid (by obtain ⟨h1, h2⟩ := HV.out; rw [HT.out] at h1; have q := HV1.out (by omega); exact ⟨h1.trans q.1, q.2⟩)
      go_wp2_with fail
      go_ret2
      exact ⟨by rw [← D.out.1, ← D.out.2]; rfl, rfl⟩
    | succ g =>
      obtain ⟨q, hq⟩ : ∃ q, f j = q := ⟨_, rfl⟩
      have HQ := Lib.hid hq
      have hi := fun w => index_eight w f (j := j) (by omega)
      rw [hq] at hi
      have j8 : (j : Int) < 8 := by omega
      have HJ := Lib.hid hj
      by_cases hv : v < q
      · have D : Hid (0 = V ∧ false = B) := Lib.hid (HV0.out (by have := HV.out.1; have := HM.out (j + 1) (by omega); rw [PS.out, hq, HT.out] at this; omega))
        clear hq hj
        go_wp2_with fail
        go_ret2
        exact ⟨by rw [← D.out.1, ← D.out.2]; rfl, rfl⟩
      · have q0 := HE.out j
        rw [hq] at q0
        have hv' := HV.out.1
        have hv2 := HV.out.2
        have S : Hid (v - q = R - preS f (j + 1) ∧ 0 ≤ v - q) := Lib.hid ⟨by rw [PS.out, hq]; omega, by omega⟩
        obtain ⟨u, hu⟩ : ∃ u, v - q = u := ⟨_, rfl⟩
        have z1 : IntKind.u64.wrap (v - q) = u := by rw [IntKind.wrap_u64]; have := X1.out; have := HN.out j; omega
        rw [hu] at S
        clear hv' hv2 q0 hq hj hu
        go_wp2_with fail
        go_roundg g
        case rel => exact ⟨j + 1, u, by have := HJ.out; omega, rfl, by go_num, rfl, S⟩
        case measure => omega
end
end Go.Proofs.Ythadgficphkpkaa
