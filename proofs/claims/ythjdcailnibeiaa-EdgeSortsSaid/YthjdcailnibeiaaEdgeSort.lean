/-
  Layer 2's Sort, walked: new memory that holds a sorted permutation of what was handed in; all that was there is as it was.
-/
import Derived.Test.YthjdcailnibeiaaStable
import Derived.Laws.CopyOwn
import Derived.Deep.OwnRows
import Derived.Laws.OwnMore
namespace Go.Proofs.Ythjdcailnibeiaa
open Go.Shelf Go.RowKit Go.Lib Go.Sort
set_option linter.unusedVariables false

/-- A slice of float64, nil or not, that reads as this array. -/
def RdF (w : World) (A : Option Addr) (d : Array UInt64) : Prop :=
  ∀ i, i < d.size → ∃ ad, A = some ad ∧ w.cell? (ad.add i) = some (encF d[i]!)

theorem sw_below {w0 W : World} {blk off : Nat} {dk : Array UInt64} (h : SW encF w0 blk off dk W) (hblk : blk < w0.heap.size) : Go.RowKit.Below blk w0 W := by
  have hle := h.le
  obtain ⟨n, os, rfl⟩ := h
  refine ⟨rfl, rfl, rfl, hle, fun k hk => ?_⟩
  unfold sortWorld
  rw [heap_grow_old _ _ (by rw [size_putRow]; show k < w0.heap.size; omega)]
  show (w0.heap.modify blk _)[k]? = _
  rw [Array.getElem?_modify, if_neg (by omega)]

theorem infoF : (Try.prog.info? 22).map (fun i => (i.zero, i.size, i.bytes)) = some (some (.float .f64 0), 1, 8) := by kernel_rfl
theorem sizeF : (Try.prog.info? 22).map (·.size) = some 1 := by kernel_rfl

theorem sortStable_walk (blk off cap : Nat) (d : Array UInt64) (w : World) (R : Row1 encF w blk off d) (hsz : d.size ≤ 1000000) :
    Calls Try.prog 29 #[.slice (some ⟨blk, off, none⟩) d.size cap, .func (.func 30) #[] #[]] w
      (SortsTo w blk off fun d' => PermIn 0 d.size d d' ∧ SortedIn ltF 0 d.size d') := by
  have C := Lib.hid (stable_walk blk off cap d w R hsz)
  clear R
  go_enter Try.func29, Try.ntmps29
  go_wp2_with ((go_at_call 33; refine C.out.mono ?_); rintro e1 w' ⟨rfl, d', hR, hS⟩)
  go_end0
  exact ⟨rfl, d', hR, hS⟩

/-- What Sort comes to. -/
def Sorts (d : Array UInt64) (w : World) (e : Ending) (w' : World) : Prop :=
  ∃ d' : Array UInt64, e = .returned (.slice (some ⟨w.heap.size, 0, none⟩) d.size d.size) ∧ PermIn 0 d.size d d' ∧ SortedIn ltF 0 d.size d' ∧
    RdF w' (some ⟨w.heap.size, 0, none⟩) d' ∧ Go.RowKit.Below w.heap.size w w'

theorem cells_of {w : World} {g : Nat} {d : Array UInt64} {t : TypeId} (h : w.heap[g]? = some (.cells (d.toList.map encF).toArray t (0, 0))) : Go.Sort.Holds encF w g 0 d := by
  intro j hj
  refine ⟨?_, by simp [World.frozen?, h]⟩
  simp [World.cell?, h, hj]

theorem add_block (a : Addr) (i : Nat) : (a.add i).block = a.block := by
  unfold Addr.add; split <;> rfl
theorem add_zero_off (b i : Nat) : (⟨b, 0, none⟩ : Addr).add i = ⟨b, i, none⟩ := by
  unfold Addr.add
  split
  · subst_vars; rfl
  · simp
/-- A copy of all into a new row. -/
theorem copy_new (A : Option Addr) (d : Array UInt64) (cap : Nat) (w : World) (cur : Array Value) (hc : cur.size = d.size) (hr : RdF w A d) (hA : ∀ ad, A = some ad → 0 < d.size → ad.block < w.heap.size) :
    ∃ W2, (Builtin.copy_ #[25, 25] 3 #[.slice (some ⟨w.heap.size, 0, none⟩) d.size d.size, .slice A d.size cap]).run Try.prog (w.alloc (.cells cur 22)) = .ok (goInt d.size) W2 ∧
      W2.heap[w.heap.size]? = some (.cells (d.toList.map encF).toArray 22 (0, 0)) ∧ Go.RowKit.Below w.heap.size w W2 := by
  have hg : (w.alloc (.cells cur 22)).heap[w.heap.size]? = some (.cells cur 22 (0, 0)) := by
    show (w.heap.push (.cells cur 22 (0, 0)))[w.heap.size]? = _
    rw [Array.getElem?_push_size]
  have hb : Go.RowKit.Below w.heap.size w (w.alloc (.cells cur 22)) := (Go.RowKit.Below.refl _ _).alloc (Nat.le_refl _) _
  by_cases h0 : d.size = 0
  · refine ⟨_, ?_, ?_, hb⟩
    · rw [run_copy_none (P := Try.prog) _ 25 25 3 22 _ _ _ _ _ _ Try.underlying25 sizeF (by rw [h0]; rfl), h0]
      rfl
    · rw [hg]
      have e1 : cur = #[] := Array.eq_empty_of_size_eq_zero (by omega)
      have e2 : d = #[] := Array.eq_empty_of_size_eq_zero h0
      rw [e1, e2]; rfl
  · obtain ⟨ad, rfl, _⟩ := hr 0 (by omega)
    have hl : (d.toList.map encF).length = d.size := by simp
    have hadb := hA ad rfl (by omega)
    have hrun := run_copy_row (P := Try.prog) (w.alloc (.cells cur 22)) 25 25 3 22 w.heap.size 0 d.size d.size ad d.size cap cur 22 (d.toList.map encF)
      Try.underlying25 sizeF hg (by rw [hl]; exact (Nat.min_self _).symm) ?_ (by rw [hl]; omega) ?_
    · refine ⟨_, by rw [hrun, hl], ?_, below_setRow hb (Nat.le_refl _) _⟩
      rw [setRow_heap _ _ _ _ _ _ hg]
      congr 3
      have : cur.toList.drop (0 + d.size) = [] := List.drop_of_length_le (by simp; omega)
      rw [this]; simp
    · intro j v hv
      rw [List.getElem?_map] at hv
      by_cases hj : j < d.size
      · obtain ⟨ad', e, hcell⟩ := hr j hj
        cases e
        rw [hb.cell (by rw [add_block]; exact hadb), hcell]
        rw [Array.getElem?_toList, Array.getElem?_eq_getElem hj] at hv
        simp at hv
        rw [← hv, getElem!_pos d j hj]
      · rw [Array.getElem?_toList, Array.getElem?_eq_none (by omega)] at hv
        simp at hv
    · intro v hv
      obtain ⟨x, _, rfl⟩ := List.mem_map.1 hv
      rfl

theorem sort_walk (A : Option Addr) (d : Array UInt64) (cap : Nat) (w : World) (hr : RdF w A d) (hA : ∀ ad, A = some ad → 0 < d.size → ad.block < w.heap.size) (hsz : d.size ≤ 1000000) :
    Calls Try.prog 16 #[.slice A d.size cap] w (Sorts d w) := by
  have hmk := fun w => run_make_row' (P := Try.prog) 25 22 (.float .f64 0) 8 Try.underlying25 infoF rfl .i64 .i64 d.size (by omega) (by omega) w
  obtain ⟨cur, hcur⟩ : ∃ cur, cur = (madeCells #[.float .f64 0] d.size) := ⟨_, rfl⟩
  rw [← hcur] at hmk
  obtain ⟨W2, hcp, hrow, hb⟩ := copy_new A d cap w cur (by rw [hcur, size_madeCells]) hr hA
  have hlt : w.heap.size < W2.heap.size := by
    by_cases h : w.heap.size < W2.heap.size
    · exact h
    · rw [Array.getElem?_eq_none (by omega)] at hrow; cases hrow
  have R : Row1 encF W2 w.heap.size 0 d := ⟨oneF, cells_of hrow, hlt⟩
  have C := Lib.hid (sortStable_walk w.heap.size 0 d.size d W2 R hsz)
  have HB := Lib.hid hb
  clear hr hA hcur hrow hb
  obtain ⟨n, hn⟩ : ∃ n, n = d.size := ⟨_, rfl⟩
  rw [← hn] at hmk hcp C ⊢
  have HN := Lib.hid hn
  have hn' : n ≤ 1000000 := by omega
  have RR : Aside _ := R
  clear hn R
  have HL := Lib.hid hlt
  clear hlt hsz
  go_enter Try.func16, Try.ntmps16
  go_wp2_with ((go_at_call 29; refine C.out.mono ?_); rintro e1 w' ⟨rfl, d', hR, hS⟩)
  go_ret
  have hn := HN.out
  have hz : d'.size = d.size := hR.1.1
  rw [hn] at hR ⊢
  refine ⟨d', rfl, hR.1, hR.2, ?_, HB.out.trans (sw_below hS HL.out)⟩
  intro i hi
  have hc := hS.c1 RR.out hz i hi
  refine ⟨_, rfl, ?_⟩
  rw [add_zero_off]
  simpa using hc
end Go.Proofs.Ythjdcailnibeiaa
