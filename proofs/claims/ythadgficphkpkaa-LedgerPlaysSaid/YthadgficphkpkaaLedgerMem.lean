/-
  Layer 17 (ledger): a ledger behind a pointer, a row of its own behind that, and what is laid by New.
-/
import Derived.Test.YthadgficphkpkaaLedgerPure
import Derived.Test.YthadgficphkpkaaKeeps
import Derived.Test.YthadgficphkpkaaSatBase
import Derived.Deep.QuietTactic
import Derived.RegionTactic
import Derived.Deep.RegionLaw
import Derived.Deep.OwnRows
namespace Go.Proofs.Ythadgficphkpkaa
open Go.ChangeShapes Go.WideShapes Go.ChangeAt Go.RowKit
set_option linter.unusedVariables false

/-- The counts of n classes, nine cells a class. -/
structure RowL (C : Array Value) (n : Nat) (s : Bk) : Prop where
  cm : ∀ c : Nat, c < n → C[c * 9]? = some (.int .u64 (s.cm c))
  en : ∀ c r : Nat, c < n → r < 8 → C[c * 9 + 1 + r]? = some (.int .u64 (s.en c r))
/-- A ledger behind a pointer at block a, its row in block g. -/
structure Lg (w : World) (a g n : Nat) (s : Bk) : Prop where
  blk : w.heap[a]? = some (.cells #[.slice (some ⟨g, 0, none⟩) n n] 43 (0, 0))
  row : ∃ C, w.heap[g]? = some (.cells C 49 (0, 0)) ∧ RowL C n s
  ne : a ≠ g
section
variable {w w' : World} {a g n : Nat} {s : Bk}
theorem Lg.c0 (h : Lg w a g n s) : w.cell? ⟨a, 0, none⟩ = some (.slice (some ⟨g, 0, none⟩) n n) := cell_of_block h.blk
theorem Lg.cm (h : Lg w a g n s) {c : Nat} (hc : c < n) : w.cell? ⟨g, c * 9, none⟩ = some (.int .u64 (s.cm c)) := by
  obtain ⟨C, e, r⟩ := h.row
  rw [cell_of_block e]; exact r.cm c hc
theorem Lg.en (h : Lg w a g n s) {c r : Nat} (hc : c < n) (hr : r < 8) : w.cell? ⟨g, c * 9 + 1 + r, none⟩ = some (.int .u64 (s.en c r)) := by
  obtain ⟨C, e, q⟩ := h.row
  rw [cell_of_block e]; exact q.en c r hc hr
theorem Lg.fr (h : Lg w a g n s) (o : Nat) : w.frozen? ⟨g, o, none⟩ = false := by
  obtain ⟨C, e, q⟩ := h.row
  exact frozen_of_block e
theorem Lg.lt (h : Lg w a g n s) : a < w.heap.size := lt_of_block h.blk
theorem Lg.keeps {F : Nat → Prop} (h : Lg w a g n s) (k : Keeps F w w') (ha : ¬ F a) (hg : ¬ F g) : Lg w' a g n s := by
  obtain ⟨C, e, q⟩ := h.row
  exact ⟨keeps_out k h.blk ha, ⟨C, keeps_out k e hg, q⟩, h.ne⟩
theorem Lg.still (h : Lg w a g n s) (b : Below w.heap.size w w') : Lg w' a g n s := h.keeps (Keeps.of_below b (Nat.le_refl _) (fun _ => False)) (fun e => e) (fun e => e)
theorem Lg.drewN (h : Lg w a g n s) (k : Nat) : Lg (w.drewN k) a g n s := ⟨h.blk, h.row, h.ne⟩
theorem Lg.come (h : Lg w a g n s) {c : Nat} (hc : c < n) : Lg (w.setCell ⟨g, c * 9, none⟩ (.int .u64 (s.cm c + 1))) a g n (s.come c) := by
  obtain ⟨C, e, q⟩ := h.row
  refine ⟨by rw [heap_set_other h.ne]; exact h.blk, ⟨_, heap_set_same e, fun d hd => ?_, fun d r hd hr => ?_⟩, h.ne⟩
  · rw [cm_come]
    by_cases x : d = c
    · subst x
      rw [if_pos rfl, Array.getElem?_setIfInBounds_self_of_lt (Array.getElem?_eq_some_iff.1 (q.cm d hd)).1]
    · rw [if_neg (by omega), Array.getElem?_setIfInBounds_ne (by omega)]; exact q.cm d hd
  · rw [Array.getElem?_setIfInBounds_ne (by omega)]; exact q.en d r hd hr
theorem Lg.ends (h : Lg w a g n s) {c r : Nat} (hc : c < n) (hr : r < 8) : Lg (w.setCell ⟨g, c * 9 + 1 + r, none⟩ (.int .u64 (s.en c r + 1))) a g n (s.ends c r) := by
  obtain ⟨C, e, q⟩ := h.row
  refine ⟨by rw [heap_set_other h.ne]; exact h.blk, ⟨_, heap_set_same e, fun d hd => ?_, fun d y hd hy => ?_⟩, h.ne⟩
  · rw [Array.getElem?_setIfInBounds_ne (by omega)]; exact q.cm d hd
  · rw [en_ends]
    by_cases x : d = c ∧ y = r
    · obtain ⟨rfl, rfl⟩ := x
      rw [if_pos ⟨rfl, rfl⟩, Array.getElem?_setIfInBounds_self_of_lt (Array.getElem?_eq_some_iff.1 (q.en d y hd hy)).1]
    · rw [if_neg (by omega), Array.getElem?_setIfInBounds_ne (by omega)]; exact q.en d y hd hy
/-- What a call makes of a ledger. -/
structure Ml (w w' : World) (a g n : Nat) (s' : Bk) : Prop where
  lg : Lg w' a g n s'
  kp : Keeps (fun k => k = g) w w'
theorem Ml.refl (h : Lg w a g n s) : Ml w w a g n s := ⟨h, Keeps.refl _ _⟩
theorem Ml.drewN (h : Ml w w' a g n s) (k : Nat) : Ml w (w'.drewN k) a g n s := ⟨h.lg.drewN k, h.kp.drewN k⟩
theorem Ml.come (h : Ml w w' a g n s) {c : Nat} (hc : c < n) : Ml w (w'.setCell ⟨g, c * 9, none⟩ (.int .u64 (s.cm c + 1))) a g n (s.come c) := ⟨h.lg.come hc, h.kp.set _ _ (.inl rfl)⟩
theorem Ml.ends (h : Ml w w' a g n s) {c r : Nat} (hc : c < n) (hr : r < 8) : Ml w (w'.setCell ⟨g, c * 9 + 1 + r, none⟩ (.int .u64 (s.en c r + 1))) a g n (s.ends c r) := ⟨h.lg.ends hc hr, h.kp.set _ _ (.inl rfl)⟩
end
def errD (c : Nat) : Value := .iface 29 (.int .i64 (c : Nat))
/-! ### New -/
theorem info_counts : (Try.prog.info? 49).map (fun i => (i.zero, i.size, i.bytes)) = some (some (.agg #[.int .u64 0, .int .u64 0, .int .u64 0, .int .u64 0, .int .u64 0, .int .u64 0, .int .u64 0, .int .u64 0, .int .u64 0]), 9, 72) := by kernel_rfl
def zerosL (n : Nat) : Array Value := madeCells #[.int .u64 0, .int .u64 0, .int .u64 0, .int .u64 0, .int .u64 0, .int .u64 0, .int .u64 0, .int .u64 0, .int .u64 0] (n * 9)
theorem make_counts (w : World) {n : Nat} (h : n ≤ 5) :
    (Instr.makeSlice 41 (.int .i64 (n : Int)) (.int .i64 (n : Int))).run Try.prog w = .ok (.slice (some ⟨w.heap.size, 0, none⟩) n n) (w.alloc (.cells (zerosL n) 49)) := by
  obtain ⟨i, hi, hzz⟩ := Option.map_eq_some_iff.1 info_counts
  simp only [Prod.mk.injEq] at hzz
  obtain ⟨hz, hs, hb⟩ := hzz
  have e := run_make (P := Try.prog) w 41 49 i _ Try.underlying41 hi hz .i64 .i64 (n : Int) (n : Int) (by omega) (Int.le_refl _) (by rw [hb]; omega) (by omega)
  rw [e, hs]
  rfl
theorem zeros_at {n k : Nat} (hk : k < n * 9) : (zerosL n)[k]? = some (.int .u64 0) := by
  unfold zerosL madeCells
  simp only [Array.getElem?_map, Array.getElem?_range, hk, if_true, Option.map_some]
  have h9 : k % 9 < 9 := Nat.mod_lt _ (by decide)
  generalize k % 9 = q at h9
  obtain rfl | rfl | rfl | rfl | rfl | rfl | rfl | rfl | rfl : q = 0 ∨ q = 1 ∨ q = 2 ∨ q = 3 ∨ q = 4 ∨ q = 5 ∨ q = 6 ∨ q = 7 ∨ q = 8 := by omega
  all_goals rfl
theorem new_bad (w : World) (N : Int) (h : ¬ (1 ≤ N ∧ N ≤ 4)) :
    Calls Try.prog 6 #[.int .i64 N] w fun e w' => e = .returned (.tuple #[.pointer none, errD 1]) ∧ w = w' := by
  have x : N < 1 ∨ (¬ N < 1 ∧ 4 < N) := by omega
  rcases x with x | ⟨x1, x2⟩
  all_goals
    clear h
    go_enter Try.func6, Try.ntmps6
    go_wp2_with fail
    go_ret2
    exact ⟨rfl, rfl⟩
/-- What New makes. -/
def Newed (w : World) (n : Nat) (e : Ending) (w' : World) : Prop := ∃ a g, e = .returned (.tuple #[.pointer (some ⟨a, 0, none⟩), .nilIface]) ∧ Lg w' a g n Bk.new ∧ w.heap.size ≤ a ∧ w.heap.size ≤ g ∧ Below w.heap.size w w'
theorem new_good (w : World) (N : Int) (n : Nat) (h : 1 ≤ N) (h4 : N ≤ 4) (hn : N + 1 = n) :
    Calls Try.prog 6 #[.int .i64 N] w (Newed w n) := by
  have x1 : ¬ N < 1 := by omega
  have x2 : ¬ 4 < N := by omega
  have z : IntKind.i64.wrap (N + 1) = n := by rw [IntKind.wrap_i64]; omega
  have mk := make_counts w (n := n) (by omega)
  have L : Hid (Lg ((w.alloc (.cells (zerosL n) 49)).alloc (.cells #[.slice (some ⟨w.heap.size, 0, none⟩) n n] 43)) (w.heap.size + 1) w.heap.size n Bk.new) := Lib.hid (by
    refine ⟨?_, ⟨zerosL n, ?_, fun c hc => zeros_at (by omega), fun c r hc hr => zeros_at (by omega)⟩, by omega⟩
    · have e := heap_alloc_new (w.alloc (.cells (zerosL n) 49)) (.cells #[.slice (some ⟨w.heap.size, 0, none⟩) n n] 43)
      rw [World.size_alloc] at e
      exact e
    · rw [(World.grownBy_alloc _ _ none).block w.heap.size (by rw [World.size_alloc]; omega) (by simp)]
      exact heap_alloc_new w _)
  have B : Hid (Below w.heap.size w ((w.alloc (.cells (zerosL n) 49)).alloc (.cells #[.slice (some ⟨w.heap.size, 0, none⟩) n n] 43))) := Lib.hid (((Below.refl w.heap.size w).alloc (Nat.le_refl _) _).alloc (by rw [World.size_alloc]; omega) _)
  clear hn h h4
  go_enter Try.func6, Try.ntmps6
  go_wp2_with fail
  go_ret2
  exact ⟨_, _, rfl, L.out, Nat.le_succ _, Nat.le_refl _, B.out⟩
end Go.Proofs.Ythadgficphkpkaa
