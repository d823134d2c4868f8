/-
  Layer 18 (tally): a row behind a pointer, its buckets in a row of one's own.
-/
import Derived.Test.YtmlpoeneopppaaaBatchMem
import Derived.Test.YtmlpoeneopppaaaTallyPure
import Derived.Laws.OwnMore
namespace Go.Proofs.Ytmlpoeneopppaaa
open Go.ChangeShapes Go.WideShapes Go.ChangeAt Go.RowKit
set_option linter.unusedVariables false

theorem blw_new (w : World) (o : Obj) : Below w.heap.size w (w.alloc o) := (Below.refl _ _).alloc (Nat.le_refl _) _
theorem blw_drew (w : World) (n : Nat) : Below w.heap.size w (w.drewN n) := ⟨rfl, rfl, rfl, Nat.le_refl _, fun _ _ => rfl⟩
/-- A row in block g, its buckets its own, from N on. -/
structure Hr (N : Nat) (w : World) (g : Nat) (r : Rw) (B : Option Addr) (c : Nat) : Prop where
  row : RowB w g r B c
  own : OwnN w N B c r.bks
  base : N ≤ g
section
variable {N M : Nat} {w w' : World} {g : Nat} {r : Rw} {B : Option Addr} {c : Nat}
theorem Hr.off (h : Hr N w g r B c) : (Value.slice B r.bks.length c).ownBlock ≠ some g := fun e => by
  obtain ⟨d, f, hd⟩ := owns_block h.own g e
  rw [h.row.blk] at hd
  cases hd
theorem Hr.below (h : Hr N w g r B c) (hb : Below w.heap.size w w') : Hr N w' g r B c := ⟨h.row.below hb (Nat.le_refl _), owns_below h.own hb, h.base⟩
theorem Hr.drew (h : Hr N w g r B c) (n : Nat) : Hr N (w.drewN n) g r B c := ⟨⟨h.row.blk⟩, h.own, h.base⟩
theorem Hr.mono (h : Hr N w g r B c) (hM : M ≤ N) : Hr M w g r B c := ⟨h.row, owns_mono h.own hM, Nat.le_trans hM h.base⟩
/-- A cell of the row's own block is written. -/
theorem Hr.put (h : Hr N w g r B c) {o : Nat} {v : Value} {r' : Rw} (hb : RowB (w.setCell ⟨g, o, none⟩ v) g r' B c) (hk : r'.bks = r.bks) : Hr N (w.setCell ⟨g, o, none⟩ v) g r' B c := by
  refine ⟨hb, ?_, h.base⟩
  rw [hk]
  exact World.ownsRow.kept h.own (grown_set (grown_refl _ _) _ _ (.inl rfl)) (.inr h.off)
theorem Hr.set2 (h : Hr N w g r B c) (n : Nat) : Hr N (w.setCell ⟨g, 2, none⟩ (.int .u64 (n : Nat))) g { r with many := n } B c := h.put ⟨heap_set_same h.row.blk⟩ rfl
theorem Hr.set3 (h : Hr N w g r B c) (v : Int) : Hr N (w.setCell ⟨g, 3, none⟩ (.int .i64 v)) g { r with sum := v } B c := h.put ⟨heap_set_same h.row.blk⟩ rfl
theorem Hr.set4 (h : Hr N w g r B c) (v : Int) : Hr N (w.setCell ⟨g, 4, none⟩ (.int .i64 v)) g { r with least := v } B c := h.put ⟨heap_set_same h.row.blk⟩ rfl
theorem Hr.set5 (h : Hr N w g r B c) (v : Int) : Hr N (w.setCell ⟨g, 5, none⟩ (.int .i64 v)) g { r with most := v } B c := h.put ⟨heap_set_same h.row.blk⟩ rfl
theorem Hr.set6 (h : Hr N w g r B c) (b : Bool) : Hr N (w.setCell ⟨g, 6, none⟩ (.bool b)) g { r with over := b } B c := h.put ⟨heap_set_same h.row.blk⟩ rfl
/-- The row's buckets have grown, elsewhere or where they were; and are put in their place. -/
theorem Hr.turn (h : Hr N w g r B c) {B' : Option Addr} {c' : Nat} {l : List Nat} (hg : w.grownBy w' (Value.slice B r.bks.length c).ownBlock) (ho : OwnN w' N B' c' l) :
    Hr N (w'.setCell ⟨g, 7, none⟩ (.slice B' l.length c')) g { r with bks := l } B' c' := by
  have hr : RowB w' g r B c := h.row.grown hg h.off
  refine ⟨⟨heap_set_same hr.blk⟩, ?_, h.base⟩
  refine World.ownsRow.kept ho (grown_set (grown_refl _ _) _ _ (.inl rfl)) (.inr fun e => ?_)
  obtain ⟨d, f, hd⟩ := owns_block ho g e
  rw [hr.blk] at hd
  cases hd
/-- A bucket is written. -/
theorem Hr.count {b : Nat} (h : Hr N w g r (some ⟨b, 0, none⟩) c) (i n : Nat) : Hr N (w.setCell ⟨b, i, none⟩ (.int .u64 (n : Nat))) g { r with bks := r.bks.set i n } (some ⟨b, 0, none⟩) c := by
  have hne : g ≠ b := fun e => h.off (by rw [e]; rfl)
  refine ⟨⟨?_⟩, ?_, h.base⟩
  · rw [heap_set_other (a := ⟨b, i, none⟩) hne]
    have := h.row.blk
    simpa using this
  · have h1 := (World.ownsRow.stored h.own i (.int .u64 (n : Nat))).1
    unfold OwnN natCells
    rw [List.length_set, List.map_set]
    exact h1
theorem Hr.rd (h : Hr N w g r B c) : RdN w B c r.bks := h.own.rd
/-- Where buckets lie. -/
theorem Hr.form (h : Hr N w g r B c) (hl : 0 < r.bks.length) : ∃ b, B = some ⟨b, 0, none⟩ ∧ N ≤ b ∧ b < w.heap.size := by
  rcases h.own.2 with ⟨e, e0⟩ | ⟨b, cap, cur, hv, hb, hg, _⟩
  · omega
  · cases hv
    exact ⟨b, rfl, hb, lt_of_block hg⟩
end
/-- What a call makes of it. -/
def Mh (N : Nat) (w : World) (g : Nat) (r' : Rw) (w' : World) : Prop := ∃ B c, Hr N w' g r' B c ∧ Below N w w'
theorem Hr.new {N : Nat} {w : World} {r : Rw} {B : Option Addr} {c : Nat} (ho : OwnN w N B c r.bks) (hN : N ≤ w.heap.size) : Hr N (w.alloc (rowObj r B c)) w.heap.size r B c :=
  ⟨RowB.new w r B c, World.ownsRow.alloc ho _, hN⟩
/-- A row is stored in a block. -/
def putRow (w : World) (k : Nat) (r : Rw) (B : Option Addr) (c : Nat) : World :=
  (((((((w.setCell ⟨k, 0, none⟩ (.string r.key)).setCell ⟨k, 1, none⟩ (.int .i64 r.kind)).setCell ⟨k, 2, none⟩ (.int .u64 (r.many : Nat))).setCell ⟨k, 3, none⟩ (.int .i64 r.sum)).setCell ⟨k, 4, none⟩ (.int .i64 r.least)).setCell ⟨k, 5, none⟩ (.int .i64 r.most)).setCell ⟨k, 6, none⟩ (.bool r.over)).setCell ⟨k, 7, none⟩ (.slice B r.bks.length c)
section
variable {w : World} {k : Nat} {a0 a1 a2 a3 a4 a5 a6 a7 : Value} {t : TypeId} {f : Nat × Nat}
theorem put8_0 (h : w.heap[k]? = some (.cells #[a0, a1, a2, a3, a4, a5, a6, a7] t f)) (x : Value) : (w.setCell ⟨k, 0, none⟩ x).heap[k]? = some (.cells #[x, a1, a2, a3, a4, a5, a6, a7] t f) := heap_set_same h
theorem put8_1 (h : w.heap[k]? = some (.cells #[a0, a1, a2, a3, a4, a5, a6, a7] t f)) (x : Value) : (w.setCell ⟨k, 1, none⟩ x).heap[k]? = some (.cells #[a0, x, a2, a3, a4, a5, a6, a7] t f) := heap_set_same h
theorem put8_2 (h : w.heap[k]? = some (.cells #[a0, a1, a2, a3, a4, a5, a6, a7] t f)) (x : Value) : (w.setCell ⟨k, 2, none⟩ x).heap[k]? = some (.cells #[a0, a1, x, a3, a4, a5, a6, a7] t f) := heap_set_same h
theorem put8_3 (h : w.heap[k]? = some (.cells #[a0, a1, a2, a3, a4, a5, a6, a7] t f)) (x : Value) : (w.setCell ⟨k, 3, none⟩ x).heap[k]? = some (.cells #[a0, a1, a2, x, a4, a5, a6, a7] t f) := heap_set_same h
theorem put8_4 (h : w.heap[k]? = some (.cells #[a0, a1, a2, a3, a4, a5, a6, a7] t f)) (x : Value) : (w.setCell ⟨k, 4, none⟩ x).heap[k]? = some (.cells #[a0, a1, a2, a3, x, a5, a6, a7] t f) := heap_set_same h
theorem put8_5 (h : w.heap[k]? = some (.cells #[a0, a1, a2, a3, a4, a5, a6, a7] t f)) (x : Value) : (w.setCell ⟨k, 5, none⟩ x).heap[k]? = some (.cells #[a0, a1, a2, a3, a4, x, a6, a7] t f) := heap_set_same h
theorem put8_6 (h : w.heap[k]? = some (.cells #[a0, a1, a2, a3, a4, a5, a6, a7] t f)) (x : Value) : (w.setCell ⟨k, 6, none⟩ x).heap[k]? = some (.cells #[a0, a1, a2, a3, a4, a5, x, a7] t f) := heap_set_same h
theorem put8_7 (h : w.heap[k]? = some (.cells #[a0, a1, a2, a3, a4, a5, a6, a7] t f)) (x : Value) : (w.setCell ⟨k, 7, none⟩ x).heap[k]? = some (.cells #[a0, a1, a2, a3, a4, a5, a6, x] t f) := heap_set_same h
end
theorem putRow_row {w : World} {k : Nat} {r0 : Rw} {B0 : Option Addr} {c0 : Nat} (h : RowB w k r0 B0 c0) (r : Rw) (B : Option Addr) (c : Nat) : RowB (putRow w k r B c) k r B c :=
  ⟨put8_7 (put8_6 (put8_5 (put8_4 (put8_3 (put8_2 (put8_1 (put8_0 h.blk _) _) _) _) _) _) _) _⟩
theorem gset {w w1 : World} {k o : Nat} {v : Value} (g : w.grownBy w1 (some k)) : w.grownBy (w1.setCell ⟨k, o, none⟩ v) (some k) := grown_set g ⟨k, o, none⟩ v (.inl rfl)
theorem putRow_grown (w : World) (k : Nat) (r : Rw) (B : Option Addr) (c : Nat) : w.grownBy (putRow w k r B c) (some k) := by
  unfold putRow
  exact (gset (gset (gset (gset (gset (gset (gset (gset (grown_refl w _)))))))))
theorem bset {N : Nat} {w w1 : World} {k o : Nat} {v : Value} (h : Below N w w1) (hk : N ≤ k) : Below N w (w1.setCell ⟨k, o, none⟩ v) := h.setCell (p := ⟨k, o, none⟩) hk v
theorem putRow_below {N : Nat} {w w1 : World} {k : Nat} (h : Below N w w1) (hk : N ≤ k) (r : Rw) (B : Option Addr) (c : Nat) : Below N w (putRow w1 k r B c) := by
  unfold putRow
  exact (bset (bset (bset (bset (bset (bset (bset (bset h hk) hk) hk) hk) hk) hk) hk) hk)
theorem own_put {N : Nat} {w : World} {k : Nat} {B' : Option Addr} {c' : Nat} {l : List Nat} (h : OwnN w N B' c' l) (hk : k < N) (r : Rw) (B : Option Addr) (c : Nat) : OwnN (putRow w k r B c) N B' c' l :=
  World.ownsRow.kept h (putRow_grown w k r B c) (by
    cases e : (Value.slice B' l.length c').ownBlock with
    | none => exact .inl rfl
    | some b => exact .inr (fun e' => by have := (World.ownsRow.lt h b e).1; cases e'; omega))
end Go.Proofs.Ytmlpoeneopppaaa
