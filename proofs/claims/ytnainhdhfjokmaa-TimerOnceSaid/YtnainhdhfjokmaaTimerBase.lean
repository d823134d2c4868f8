/-
  Layer 13 (timer): a queue behind a pointer; how many are due by a tick (sort.Search); a row copied.
-/
import Derived.Test.YtnainhdhfjokmaaTimerRow
import Derived.Test.YtnainhdhfjokmaaOwnB
import Derived.LoopTactic
import Derived.Deep.LoopGhost
import Derived.Deep.QuietTactic
import Derived.BigQuiet
import Derived.RegionTactic
import Derived.Deep.RegionLaw
import Derived.Shelf.Abstract
import Derived.Lib.SliceRun
namespace Go.Proofs.Ytnainhdhfjokmaa
open Go.ChangeShapes Go.WideShapes Go.ChangeAt Go.RowKit Go.Shelf
set_option linter.unusedVariables false

/-- A queue behind a pointer at block a. -/
structure Qb (w : World) (a : Nat) (v : Value) (L : List Du) : Prop where
  blk : w.heap[a]? = some (.cells #[v] 45 (0, 0))
  row : OwnD w 0 v L
/-- .. with its own blocks F. -/
def Qu (w : World) (F : Nat → Prop) (a : Nat) (L : List Du) : Prop := ∃ v, Qb w a v L ∧ ∀ g, F g ↔ (g = a ∨ v.ownBlock = some g)
theorem neQ : 45 ≠ 35 := by decide
section
variable {w w' : World} {a : Nat} {v : Value} {L : List Du} {F G : Nat → Prop}
theorem Qb.c (h : Qb w a v L) : w.cell? ⟨a, 0, none⟩ = some v := cell_of_block h.blk
theorem Qb.fr (h : Qb w a v L) (o : Nat) : w.frozen? ⟨a, o, none⟩ = false := frozen_of_block h.blk
theorem Qb.lt (h : Qb w a v L) : a < w.heap.size := lt_of_block h.blk
theorem Qb.ne (h : Qb w a v L) : v.ownBlock ≠ some a := h.row.off h.blk neQ
theorem Qb.keeps (h : Qb w a v L) (k : Keeps G w w') (ha : ¬ G a) (hv : ∀ g, v.ownBlock = some g → ¬ G g) : Qb w' a v L :=
  ⟨keeps_out k h.blk ha, h.row.keeps k hv⟩
theorem Qb.still (h : Qb w a v L) (b : Below w.heap.size w w') : Qb w' a v L :=
  h.keeps (Keeps.of_below b (Nat.le_refl _) (fun _ => False)) (fun e => e) (fun _ _ e => e)
theorem Qu.keeps (h : Qu w F a L) (k : Keeps G w w') (hG : ∀ g, F g → ¬ G g) : Qu w' F a L := by
  obtain ⟨v, h1, h2⟩ := h
  exact ⟨v, h1.keeps k (hG a ((h2 a).2 (.inl rfl))) (fun g hg => hG g ((h2 g).2 (.inr hg))), h2⟩
theorem Qu.still (h : Qu w F a L) (b : Below w.heap.size w w') : Qu w' F a L :=
  h.keeps (Keeps.of_below b (Nat.le_refl _) (fun _ => False)) (fun _ _ e => e)
theorem Qu.lt (h : Qu w F a L) {g : Nat} (hg : F g) : g < w.heap.size := by
  obtain ⟨v, h1, h2⟩ := h
  rcases (h2 g).1 hg with rfl | e
  · exact h1.lt
  · exact (h1.row.block e).2.1
end
section
variable {w : World}
set_option maxRecDepth 100000 in
theorem search_walk (fid : FuncId) (cs : Array Value) (n k : Nat) (eg : ∀ args w, (callFunc fid args).run Try.prog w = .ok (.enter fid args) w)
    (hp : ∀ i m : Nat, i < n → Calls Try.prog fid (#[.int .i64 i] ++ cs) (w.drewN m) fun e w' => e = .returned (.bool (decide (k ≤ i))) ∧ ∃ m', w' = w.drewN m') (hk : k ≤ n) (hn : n ≤ 1000) :
    Calls Try.prog 19 #[.int .i64 n, .func (.func fid) #[] cs] w fun e w' => e = .returned (.int .i64 k) ∧ ∃ m, w' = w.drewN m := by
  have HP := Lib.hid hp
  clear hp
  go_enter Try.func19, Try.ntmps19
  go_wp2_with fail
  go_loopg [5, 6] n (fun kx s5 s6 wr => ∃ (lo hi q : Nat), s5 = .int .i64 lo ∧ s6 = .int .i64 hi ∧ lo ≤ k ∧ k ≤ hi ∧ hi ≤ n ∧ hi - lo ≤ kx ∧ Hid (wr = w.drewN q))
  case atStart => exact ⟨0, n, 0, rfl, rfl, by omega, hk, by omega, by omega, Lib.hid (by rfl)⟩
  case round =>
    obtain ⟨lo, hi, q, rfl, rfl, h1, h2, h3, h4, HW⟩ := hrel
    obtain rfl := HW.out
    by_cases hlt : lo < hi
    · have hc := HP.out ((lo + hi) / 2) q (by omega)
      rw [show (((lo + hi) / 2 : Nat) : Int) = ((lo : Int) + (hi : Int)) / 2 by omega] at hc
      by_cases hp : k ≤ (lo + hi) / 2
      · rw [decide_eq_true hp] at hc
        have HC := Lib.hid hc
        clear hc
        go_wp2_with fail
        go_at_fn fid
        refine HC.out.mono ?_
        rintro e w' ⟨rfl, m', rfl⟩
        go_wp2_with fail
        go_roundg ((lo + hi) / 2 - lo)
        case measure => omega
        case rel => exact ⟨lo, (lo + hi) / 2, m', rfl, by rw [show ((lo : Int) + (hi : Int)) / 2 = (((lo + hi) / 2 : Nat) : Int) by omega], h1, hp, by omega, Nat.le_refl _, Lib.hid rfl⟩
      · rw [decide_eq_false hp] at hc
        have HC := Lib.hid hc
        clear hc
        go_wp2_with fail
        go_at_fn fid
        refine HC.out.mono ?_
        rintro e w' ⟨rfl, m', rfl⟩
        go_wp2_with fail
        go_roundg (hi - ((lo + hi) / 2 + 1))
        case measure => omega
        case rel => exact ⟨(lo + hi) / 2 + 1, hi, m', by rw [show ((lo : Int) + (hi : Int)) / 2 + 1 = (((lo + hi) / 2 + 1 : Nat) : Int) by omega], rfl, by omega, h2, h3, Nat.le_refl _, Lib.hid rfl⟩
    · obtain rfl : lo = hi := by omega
      obtain rfl : lo = k := by omega
      clear HP
      go_wp2_with fail
      go_ret
      exact ⟨rfl, q, rfl⟩
theorem eg_by : ∀ args w, (callFunc 20 args).run Try.prog w = .ok (.enter 20 args) w := enters_of Try.func20 (by kernel_rfl) rfl
set_option maxRecDepth 100000 in
theorem by_one {b1 b2 a g n cap i : Nat} {now x : Int} (h1 : w.cell? ⟨b1, 0, none⟩ = some (.pointer (some ⟨a, 0, none⟩))) (h2 : w.cell? ⟨b2, 0, none⟩ = some (.int .i64 now))
    (h3 : w.cell? ⟨a, 0, none⟩ = some (.slice (some ⟨g, 0, none⟩) n cap)) (h4 : w.cell? ⟨g, i * 2, none⟩ = some (.int .i64 x)) (hi : i < n) :
    Calls Try.prog 20 (#[.int .i64 i] ++ #[.pointer (some ⟨b1, 0, none⟩), .pointer (some ⟨b2, 0, none⟩)]) w fun e w' => e = .returned (.bool (decide (now < x))) ∧ ∃ m', w' = w.drewN m' := by
  rw [show (#[.int .i64 i] ++ #[.pointer (some ⟨b1, 0, none⟩), .pointer (some ⟨b2, 0, none⟩)] : Array Value) = #[.int .i64 i, .pointer (some ⟨b1, 0, none⟩), .pointer (some ⟨b2, 0, none⟩)] from rfl]
  have hi' : (i : Int) < n := by omega
  go_enter Try.func20, Try.ntmps20
  go_wp2_with fail
  go_quiet (fail)
  go_wp2_with fail
  go_ret
  exact ⟨rfl, _, rfl⟩
end
section
variable {w : World} {a : Nat} {v : Value} {L : List Du}
set_option maxRecDepth 100000 in
/-- How many are due by then. -/
theorem by_walk (h : Qb w a v L) {now : Int} {k : Nat} (hc : CutAt L now k) (hl : L.length ≤ 1000) :
    Calls Try.prog 14 #[.pointer (some ⟨a, 0, none⟩), .int .i64 now] w fun e w' => e = .returned (.int .i64 k) ∧ Below w.heap.size w w' := by
  have hmf : ∀ (fn : Fn) (first cap : Array Value) (w : World), (Instr.makeFunc fn first cap).run Try.prog w = .ok (.func fn first cap) w := fun _ _ _ _ => rfl
  obtain ⟨w1, hw1⟩ : ∃ w1, w1 = (w.alloc (.cells #[.pointer (some ⟨a, 0, none⟩)] 24)).alloc (.cells #[.int .i64 now] 3) := ⟨_, rfl⟩
  have b1 : Below w.heap.size w w1 := by rw [hw1]; exact ((Below.refl _ w).alloc (Nat.le_refl _) _).alloc (by simp) _
  have c1 : w1.cell? ⟨w.heap.size, 0, none⟩ = some (.pointer (some ⟨a, 0, none⟩)) := by
    rw [hw1, World.cell?_of_block (w := w.alloc (.cells #[.pointer (some ⟨a, 0, none⟩)] 24)) (heap_alloc_old _ _ (by simp)), cell_of_block (heap_alloc_new w _)]; rfl
  have c2 : w1.cell? ⟨w.heap.size + 1, 0, none⟩ = some (.int .i64 now) := by
    have := heap_alloc_new (w.alloc (.cells #[.pointer (some ⟨a, 0, none⟩)] 24)) (.cells #[.int .i64 now] 3)
    rw [← hw1, show (w.alloc (.cells #[.pointer (some ⟨a, 0, none⟩)] 24)).heap.size = w.heap.size + 1 by simp] at this
    rw [cell_of_block this]; rfl
  have q1 := h.still b1
  have CS := Lib.hid (search_walk (w := w1) 20 #[.pointer (some ⟨w.heap.size, 0, none⟩), .pointer (some ⟨w.heap.size + 1, 0, none⟩)] L.length k eg_by (fun i m hi => by
    obtain ⟨d, hd⟩ : ∃ d, L[i]? = some d := ⟨L[i]'hi, List.getElem?_eq_getElem _⟩
    have q2 := q1.still (below_drewN w1 m)
    rcases q2.row.parts with ⟨_, e⟩ | ⟨g, cap, cur, rfl, _, hg, _⟩
    · subst e; simp at hi
    · have hx : (w1.drewN m).cell? ⟨g, i * 2, none⟩ = some (.int .i64 d.1) := by
        have := World.ownsRow.cellAt q2.row (i * 2) (by omega)
        rw [this]
        exact dueCells_at hd (j := 0) (by omega)
      refine (by_one (w := w1.drewN m) c1 c2 q2.c hx hi).mono ?_
      rintro e w' ⟨rfl, m', rfl⟩
      refine ⟨?_, m + m', drew_drew _ _ _⟩
      by_cases hki : k ≤ i
      · rw [decide_eq_true hki, decide_eq_true (hc.hi i d hki hd)]
      · rw [decide_eq_false hki, decide_eq_false (by have := hc.lo i d (by omega) hd; omega)]) hc.le hl)
  obtain ⟨A, cap, rfl, _, _⟩ := q1.row.src
  have c0 := h.c
  have c0' := q1.c
  have B1 := Lib.hid b1
  obtain ⟨N, hN⟩ : ∃ N, L.length = N := ⟨_, rfl⟩
  rw [hN] at CS c0 c0'
  clear q1 b1 h hc hl hN c1 c2
  subst hw1
  go_enter Try.func14, Try.ntmps14
  go_wp2_with fail
  refine CS.out.mono ?_
  rintro e w' ⟨rfl, m, rfl⟩
  clear CS
  go_wp2_with fail
  go_ret
  exact ⟨rfl, B1.out.trans (below_drewN _ _ |>.mono B1.out.size)⟩
/-- 'slices.Clone'. -/
theorem clone_due {A : Option Addr} {cap : Nat} (h : SrcD w A cap L) (hl : L.length ≤ 1000) :
    Calls Try.prog 15 #[.slice A L.length cap] w fun e w' => ∃ v, e = .returned v ∧ OwnD w' w.heap.size v L ∧ Below w.heap.size w w' := by
  have q : ∀ (w : World) (a : Option Addr) (n c n' c' : Nat), (binOp .eql 26 (.slice a n c) (.slice none n' c')).run Try.prog w = .ok (.bool a.isNone) w := fun w a n c n' c' => Lib.run_eql_slice_nil w _ _ a n c n' c' Try.underlying26
  cases A with
  | none =>
    have h0 : L = [] := List.length_eq_zero_iff.1 (by have := h.le; have := h.nn rfl; omega)
    subst h0
    go_enter Try.func15, Try.ntmps15
    go_wp2_with fail
    go_ret
    exact ⟨_, rfl, OwnD.nil _ _, Below.refl _ _⟩
  | some ad =>
    have b0 : Below w.heap.size w (w.alloc (.cells #[] 35)) := (Below.refl _ _).alloc (Nat.le_refl _) _
    have own : OwnD (w.alloc (.cells #[] 35)) w.heap.size (.slice (some ⟨w.heap.size, 0, none⟩) 0 0) [] := World.ownsRow_made w #[] 0 (Nat.le_refl _) (by simp) (by simp)
    obtain ⟨v1, w1, r1, o1, g1, _⟩ := ownD_app own (h.still b0) (by simp; omega) b0.size
    have R1 := Lib.hid r1
    have END := Lib.hid (And.intro o1 (b0.grown g1 b0.size (fun k hk => by cases hk; exact Nat.le_refl _)))
    obtain ⟨N, hN⟩ : ∃ N, L.length = N := ⟨_, rfl⟩
    rw [hN] at R1 ⊢
    clear h r1 o1 g1 own hl hN b0
    go_enter Try.func15, Try.ntmps15
    go_wp2_with (first
      | (at_builtin; refine wpList_append_two rfl (.tmp 5) (.tmp 6) 26 26 rfl _ _ _ rfl rfl R1.out ?_)
      | fail)
    go_ret
    exact ⟨_, rfl, by simpa using END.out.1, END.out.2⟩
end
end Go.Proofs.Ytnainhdhfjokmaa
