/-
  Layer 7 (batch): a batch in memory: rows and their buckets, read wherever they lie, and owned.
-/
import Derived.Test.YtmlpoeneopppaaaWirePut
import Derived.Test.YtmlpoeneopppaaaBatchPure
namespace Go.Proofs.Ytmlpoeneopppaaa
open Go.ChangeShapes Go.WideShapes Go.ChangeAt Go.RowKit
set_option linter.unusedVariables false

/-- A slice of numbers, nil or not, that reads as this list. -/
structure RdN (w : World) (A : Option Addr) (cap : Nat) (l : List Nat) : Prop where
  le : l.length ≤ cap
  nn : A = none → cap = 0
  rd : ∀ ad, A = some ad → ∀ (i n : Nat), l[i]? = some n → w.cell? (ad.add i) = some (.int .u64 (n : Nat))
theorem RdN.nil (w : World) : RdN w none 0 [] := ⟨Nat.le_refl _, fun _ => rfl, fun _ h => by cases h⟩
theorem RdN.below {w w' : World} {B : Nat} {A : Option Addr} {cap : Nat} {l : List Nat} (h : RdN w A cap l) (hb : Below B w w') (hB : w.heap.size ≤ B) : RdN w' A cap l :=
  ⟨h.le, h.nn, fun ad ha i c hc => by
    have h1 := h.rd ad ha i c hc
    have h2 := World.block_lt_of_cell? w _ h1
    rw [hb.cell (by omega)]; exact h1⟩
theorem RdN.alloc {w : World} {A : Option Addr} {cap : Nat} {l : List Nat} (h : RdN w A cap l) (o : Obj) : RdN (w.alloc o) A cap l :=
  h.below ((Below.refl w.heap.size w).alloc (Nat.le_refl _) o) (Nat.le_refl _)
theorem RdN.drew {w : World} {A : Option Addr} {cap : Nat} {l : List Nat} (h : RdN w A cap l) (n : Nat) : RdN (w.drewN n) A cap l := ⟨h.le, h.nn, h.rd⟩
theorem RdN.some_of {w : World} {A : Option Addr} {cap : Nat} {l : List Nat} (h : RdN w A cap l) (hl : 0 < l.length) : ∃ ad, A = some ad := by
  cases A with
  | none => have := h.nn rfl; have := h.le; omega
  | some ad => exact ⟨ad, rfl⟩

/-- A row as a value, its cells. -/
def rowOf (r : Rw) (B : Option Addr) (c : Nat) : List Value := [.string r.key, .int .i64 r.kind, .int .u64 (r.many : Nat), .int .i64 r.sum, .int .i64 r.least, .int .i64 r.most, .bool r.over, .slice B r.bks.length c]
def rowVal (r : Rw) (B : Option Addr) (c : Nat) : Value := .agg #[.string r.key, .int .i64 r.kind, .int .u64 (r.many : Nat), .int .i64 r.sum, .int .i64 r.least, .int .i64 r.most, .bool r.over, .slice B r.bks.length c]
def rowObj (r : Rw) (B : Option Addr) (c : Nat) : Obj := .cells #[.string r.key, .int .i64 r.kind, .int .u64 (r.many : Nat), .int .i64 r.sum, .int .i64 r.least, .int .i64 r.most, .bool r.over, .slice B r.bks.length c] 28
/-- A row's cells from place k of block b on, and its buckets. -/
structure RowAt (w : World) (b k : Nat) (r : Rw) (B : Option Addr) (c : Nat) : Prop where
  p0 : w.cell? ⟨b, k, none⟩ = some (.string r.key)
  p1 : w.cell? ⟨b, k + 1, none⟩ = some (.int .i64 r.kind)
  p2 : w.cell? ⟨b, k + 2, none⟩ = some (.int .u64 (r.many : Nat))
  p3 : w.cell? ⟨b, k + 3, none⟩ = some (.int .i64 r.sum)
  p4 : w.cell? ⟨b, k + 4, none⟩ = some (.int .i64 r.least)
  p5 : w.cell? ⟨b, k + 5, none⟩ = some (.int .i64 r.most)
  p6 : w.cell? ⟨b, k + 6, none⟩ = some (.bool r.over)
  p7 : w.cell? ⟨b, k + 7, none⟩ = some (.slice B r.bks.length c)
  bk : RdN w B c r.bks
theorem RowAt.below {w w' : World} {N b k : Nat} {r : Rw} {B : Option Addr} {c : Nat} (h : RowAt w b k r B c) (hb : Below N w w') (hN : w.heap.size ≤ N) : RowAt w' b k r B c := by
  have hl := World.block_lt_of_cell? w _ h.p0
  have hk : ∀ o, w'.cell? ⟨b, o, none⟩ = w.cell? ⟨b, o, none⟩ := fun o => hb.cell (p := ⟨b, o, none⟩) (Nat.lt_of_lt_of_le hl hN)
  exact ⟨by rw [hk]; exact h.p0, by rw [hk]; exact h.p1, by rw [hk]; exact h.p2, by rw [hk]; exact h.p3, by rw [hk]; exact h.p4, by rw [hk]; exact h.p5, by rw [hk]; exact h.p6, by rw [hk]; exact h.p7, h.bk.below hb hN⟩
theorem RowAt.drew {w : World} {b k : Nat} {r : Rw} {B : Option Addr} {c : Nat} (h : RowAt w b k r B c) (n : Nat) : RowAt (w.drewN n) b k r B c :=
  ⟨h.p0, h.p1, h.p2, h.p3, h.p4, h.p5, h.p6, h.p7, h.bk.drew n⟩
/-- Rows, wherever they lie. -/
def RdR (w : World) (A : Option Addr) (rows : List Rw) : Prop :=
  rows = [] ∨ ∃ b o, A = some ⟨b, o, none⟩ ∧ ∀ i r, rows[i]? = some r → ∃ B c, RowAt w b (o + i * 8) r B c
theorem RdR.nil (w : World) (A : Option Addr) : RdR w A [] := .inl rfl
theorem RdR.below {w w' : World} {N : Nat} {A : Option Addr} {rows : List Rw} (h : RdR w A rows) (hb : Below N w w') (hN : w.heap.size ≤ N) : RdR w' A rows := by
  rcases h with h | ⟨b, o, e, hc⟩
  · exact .inl h
  · exact .inr ⟨b, o, e, fun i r hi => by obtain ⟨B, c, ha⟩ := hc i r hi; exact ⟨B, c, ha.below hb hN⟩⟩
theorem RdR.alloc {w : World} {A : Option Addr} {rows : List Rw} (h : RdR w A rows) (x : Obj) : RdR (w.alloc x) A rows := h.below ((Below.refl _ _).alloc (Nat.le_refl _) _) (Nat.le_refl _)
theorem RdR.drew {w : World} {A : Option Addr} {rows : List Rw} (h : RdR w A rows) (n : Nat) : RdR (w.drewN n) A rows := by
  rcases h with h | ⟨b, o, e, hc⟩
  · exact .inl h
  · exact .inr ⟨b, o, e, fun i r hi => by obtain ⟨B, c, ha⟩ := hc i r hi; exact ⟨B, c, ha.drew n⟩⟩
theorem RdR.at {w : World} {A : Option Addr} {rows : List Rw} (h : RdR w A rows) {i : Nat} {r : Rw} (hi : rows[i]? = some r) : ∃ b o B c, A = some ⟨b, o, none⟩ ∧ RowAt w b (o + i * 8) r B c := by
  rcases h with h0 | ⟨b, o, e, hc⟩
  · rw [h0] at hi; simp at hi
  · obtain ⟨B, c, ha⟩ := hc i r hi
    exact ⟨b, o, B, c, e, ha⟩

/-- A block that holds a row. -/
structure RowB (w : World) (g : Nat) (r : Rw) (B : Option Addr) (c : Nat) : Prop where
  blk : w.heap[g]? = some (.cells #[.string r.key, .int .i64 r.kind, .int .u64 (r.many : Nat), .int .i64 r.sum, .int .i64 r.least, .int .i64 r.most, .bool r.over, .slice B r.bks.length c] 28 (0, 0))
section
variable {w w' : World} {g : Nat} {r : Rw} {B : Option Addr} {c : Nat}
theorem RowB.c0 (h : RowB w g r B c) : w.cell? ⟨g, 0, none⟩ = some (.string r.key) := cell_of_block h.blk
theorem RowB.c1 (h : RowB w g r B c) : w.cell? ⟨g, 1, none⟩ = some (.int .i64 r.kind) := cell_of_block h.blk
theorem RowB.c2 (h : RowB w g r B c) : w.cell? ⟨g, 2, none⟩ = some (.int .u64 (r.many : Nat)) := cell_of_block h.blk
theorem RowB.c3 (h : RowB w g r B c) : w.cell? ⟨g, 3, none⟩ = some (.int .i64 r.sum) := cell_of_block h.blk
theorem RowB.c4 (h : RowB w g r B c) : w.cell? ⟨g, 4, none⟩ = some (.int .i64 r.least) := cell_of_block h.blk
theorem RowB.c5 (h : RowB w g r B c) : w.cell? ⟨g, 5, none⟩ = some (.int .i64 r.most) := cell_of_block h.blk
theorem RowB.c6 (h : RowB w g r B c) : w.cell? ⟨g, 6, none⟩ = some (.bool r.over) := cell_of_block h.blk
theorem RowB.c7 (h : RowB w g r B c) : w.cell? ⟨g, 7, none⟩ = some (.slice B r.bks.length c) := cell_of_block h.blk
theorem RowB.f (h : RowB w g r B c) (o : Nat) : w.frozen? ⟨g, o, none⟩ = false := frozen_of_block h.blk
theorem RowB.lt (h : RowB w g r B c) : g < w.heap.size := lt_of_block h.blk
theorem RowB.new (w : World) (r : Rw) (B : Option Addr) (c : Nat) : RowB (w.alloc (rowObj r B c)) w.heap.size r B c := ⟨heap_alloc_new w _⟩
theorem RowB.below {N : Nat} (h : RowB w g r B c) (hb : Below N w w') (hN : w.heap.size ≤ N) : RowB w' g r B c := ⟨by rw [hb.block _ (Nat.lt_of_lt_of_le h.lt hN)]; exact h.blk⟩
theorem RowB.alloc (h : RowB w g r B c) (o : Obj) : RowB (w.alloc o) g r B c := h.below ((Below.refl _ _).alloc (Nat.le_refl _) _) (Nat.le_refl _)
theorem RowB.at (h : RowB w g r B c) (hb : RdN w B c r.bks) : RowAt w g 0 r B c := ⟨h.c0, h.c1, h.c2, h.c3, h.c4, h.c5, h.c6, h.c7, hb⟩
end
/-- A batch as a value, and a block that holds it. -/
def btVal (s t : Int) (A : Option Addr) (n c : Nat) : Value := .agg #[.int .i64 s, .int .i64 t, .slice A n c]
section
variable {w w' : World} {g : Nat} {s t : Int} {A : Option Addr} {n c : Nat}
theorem RowB.grown {r : Rw} {B : Option Addr} {c : Nat} (h : RowB w g r B c) {q : Option Nat} (hg : w.grownBy w' q) (hr : q ≠ some g) : RowB w' g r B c := ⟨by rw [hg.block _ h.lt (fun e => hr e.symm)]; exact h.blk⟩
end

/-- Numbers in a row of one's own. -/
def natCells (l : List Nat) : List Value := l.map fun (n : Nat) => .int .u64 (n : Nat)
def OwnN (w : World) (base : Nat) (A : Option Addr) (cap : Nat) (l : List Nat) : Prop := w.ownsRow base 25 1 (.slice A l.length cap) l.length (natCells l)
theorem OwnN.nil (w : World) (base : Nat) : OwnN w base none 0 [] := World.ownsRow_nil w base _ 1
/-- What owns a row of one kind keeps it while a row of another kind, or none, grows. -/
theorem owns_kept {w w' : World} {base : Nat} {e : TypeId} {sz : Nat} {v : Value} {n : Nat} {l : List Value} (h : w.ownsRow base e sz v n l) {q : Option Nat} (g : w.grownBy w' q)
    (hq : ∀ b, q = some b → b < base ∨ (∃ c f t, w.heap[b]? = some (.cells c t f) ∧ t ≠ e)) : w'.ownsRow base e sz v n l := by
  refine World.ownsRow.kept h g ?_
  rcases h.2 with ⟨rfl, _⟩ | ⟨k, cap, cur, rfl, hk, hc, _⟩
  · exact .inl rfl
  · refine .inr fun e' => ?_
    simp only [Value.ownBlock] at e'
    rcases hq k e'.symm with h1 | ⟨c, f, t, h1, h2⟩
    · omega
    · rw [hc] at h1
      cases h1
      exact h2 rfl
theorem owns_block {w : World} {base : Nat} {e : TypeId} {sz : Nat} {v : Value} {n : Nat} {l : List Value} (h : w.ownsRow base e sz v n l) : ∀ b, v.ownBlock = some b → ∃ c f, w.heap[b]? = some (.cells c e f) := by
  intro b hb
  rcases h.2 with ⟨rfl, _⟩ | ⟨k, cap, cur, rfl, hk, hc, _⟩
  · cases hb
  · simp only [Value.ownBlock, Option.some.injEq] at hb
    subst hb
    exact ⟨_, _, hc⟩
theorem owns_mono {w : World} {base base' : Nat} {e : TypeId} {sz : Nat} {v : Value} {n : Nat} {l : List Value} (h : w.ownsRow base e sz v n l) (hb : base' ≤ base) : w.ownsRow base' e sz v n l := by
  refine ⟨h.1, ?_⟩
  rcases h.2 with hn | ⟨g, cap, cur, hv, hg, r⟩
  · exact .inl hn
  · exact .inr ⟨g, cap, cur, hv, Nat.le_trans hb hg, r⟩
theorem owns_below {w w' : World} {base : Nat} {e : TypeId} {sz : Nat} {v : Value} {n : Nat} {l : List Value} (h : w.ownsRow base e sz v n l) (hb : Below w.heap.size w w') : w'.ownsRow base e sz v n l :=
  owns_kept h (grown_of (r := none) hb) (fun _ e => by cases e)
theorem OwnN.rd {w : World} {base : Nat} {A : Option Addr} {cap : Nat} {l : List Nat} (h : OwnN w base A cap l) : RdN w A cap l := by
  rcases h.2 with ⟨hv, hn⟩ | ⟨g, cap', cur, hv, hb, hg, hnc, hcm, hcs, htake⟩
  · obtain rfl := List.eq_nil_of_length_eq_zero hn
    cases hv
    exact RdN.nil w
  · have hA : A = some ⟨g, 0, none⟩ := by cases hv; rfl
    have hc : cap = cap' := by cases hv; rfl
    subst hA hc
    refine ⟨hnc, (fun e => by cases e), fun ad ha i n hi => ?_⟩
    cases ha
    exact World.ownsRow.cells h (g := g) rfl i _ (by unfold natCells; rw [List.getElem?_map, hi]; rfl)
theorem infoN : (Try.prog.info? 25).map (fun i => (i.zero, i.size, i.bytes)) = some (some (.int .u64 0), 1, 8) := by kernel_rfl
theorem append_nat {w : World} {base : Nat} {A : Option Addr} {cap : Nat} {l : List Nat} (n : Nat) (h : OwnN w base A cap l) (hb : base ≤ w.heap.size) (hl : l.length ≤ 1000) :
    ∃ A' cap' w', (Builtin.append_ #[26, 26] 26 #[.slice A l.length cap, .slice (some ⟨w.heap.size, 0, none⟩) 1 1]).run Try.prog (w.alloc (.cells #[.int .u64 (n : Nat)] 25)) = .ok (.slice A' (l.length + 1) cap') w' ∧
      OwnN w' base A' cap' (l ++ [n]) ∧ (w.alloc (.cells #[.int .u64 (n : Nat)] 25)).grownBy w' (Value.slice A l.length cap).ownBlock := by
  cases hi : Try.prog.info? 25 with
  | none => have := infoN; rw [hi] at this; cases this
  | some i =>
    have hI := infoN
    rw [hi] at hI
    simp only [Option.map_some, Option.some.injEq, Prod.mk.injEq] at hI
    obtain ⟨hz, hz1, hz2⟩ := hI
    obtain ⟨v', w', hrun, hown, hgr, hnil⟩ := run_append_own (P := Try.prog) (w.alloc (.cells #[.int .u64 (n : Nat)] 25)) base 26 26 25 i _ 1 8 Try.underlying26 hi hz hz1 hz2 rfl (by omega) _ _ _ (World.ownsRow.alloc h _) ⟨w.heap.size, 0, none⟩ 1 1 [.int .u64 (n : Nat)] rfl
      (fun j u hu => by
        match j, hu with
        | 0, hu => cases hu; simp [Addr.add])
      (fun u hu => by
        simp only [List.mem_cons, List.not_mem_nil, or_false] at hu
        subst hu; rfl)
      (by unfold maxLen; omega) (by omega) (by simp; omega)
    rcases hown.2 with ⟨e, hn0⟩ | ⟨g', cap', cur, rfl, r⟩
    · omega
    · refine ⟨_, _, w', hrun, ?_, hgr⟩
      unfold OwnN
      rw [List.length_append, show natCells (l ++ [n]) = natCells l ++ [.int .u64 (n : Nat)] by simp [natCells]]
      exact hown

/-- Rows in a row of one's own, their buckets in others. -/
def rowCells (l : List (Rw × Option Addr × Nat)) : List Value := l.flatMap fun x => rowOf x.1 x.2.1 x.2.2
structure OwnL (w : World) (base : Nat) (A : Option Addr) (cap : Nat) (l : List (Rw × Option Addr × Nat)) : Prop where
  own : w.ownsRow base 28 8 (.slice A l.length cap) l.length (rowCells l)
  bks : ∀ x ∈ l, OwnN w base x.2.1 x.2.2 x.1.bks
def OwnR (w : World) (base : Nat) (A : Option Addr) (cap : Nat) (rows : List Rw) : Prop := ∃ l, l.map (·.1) = rows ∧ OwnL w base A cap l
theorem OwnR.nil (w : World) (base : Nat) : OwnR w base none 0 [] := ⟨[], rfl, World.ownsRow_nil w base _ 8, fun x h => by simp at h⟩
theorem rowCells_length (l : List (Rw × Option Addr × Nat)) : (rowCells l).length = l.length * 8 := by
  induction l with
  | nil => rfl
  | cons t r ih =>
    rw [rowCells, List.flatMap_cons, List.length_append, List.length_cons]
    have h8 : (rowOf t.1 t.2.1 t.2.2).length = 8 := rfl
    unfold rowCells at ih
    omega
theorem rowCells_at (l : List (Rw × Option Addr × Nat)) : ∀ i x, l[i]? = some x → ∀ j, j < 8 → (rowCells l)[i * 8 + j]? = (rowOf x.1 x.2.1 x.2.2)[j]? := by
  induction l with
  | nil => intro i x h; simp at h
  | cons t r ih =>
    intro i x h j hj
    have h8 : (rowOf t.1 t.2.1 t.2.2).length = 8 := rfl
    cases i with
    | zero =>
      simp at h
      subst h
      rw [rowCells, List.flatMap_cons, Nat.zero_mul, Nat.zero_add, List.getElem?_append_left (by omega)]
    | succ i =>
      have h' : r[i]? = some x := by simpa using h
      have := ih i x h' j hj
      rw [rowCells, List.flatMap_cons, List.getElem?_append_right (by omega), h8, show (i + 1) * 8 + j - 8 = i * 8 + j by omega]
      exact this
theorem OwnR.rd {w : World} {base : Nat} {A : Option Addr} {cap : Nat} {rows : List Rw} (h : OwnR w base A cap rows) : RdR w A rows := by
  obtain ⟨l, rfl, h, hN⟩ := h
  rcases h.2 with ⟨hv, hn⟩ | ⟨g, cap', cur, hv, hb, hg, hnc, hcm, hcs, htake⟩
  · exact .inl (by rw [List.eq_nil_of_length_eq_zero hn]; rfl)
  · have hA : A = some ⟨g, 0, none⟩ := by cases hv; rfl
    refine .inr ⟨g, 0, hA, fun i r hi => ?_⟩
    rw [List.getElem?_map] at hi
    cases hx : l[i]? with
    | none => rw [hx] at hi; cases hi
    | some x =>
      rw [hx] at hi
      obtain rfl := Option.some.inj hi
      have hi' : i < l.length := (List.getElem?_eq_some_iff.1 hx).1
      have hlen := rowCells_length l
      have hc : ∀ j, j < 8 → w.cell? ⟨g, 0 + i * 8 + j, none⟩ = (rowOf x.1 x.2.1 x.2.2)[j]? := fun j hj => by
        rw [cell_of_block hg, Nat.zero_add, ← rowCells_at l i x hx j hj, ← htake, List.getElem?_take, if_pos (by omega)]
        simp
      exact ⟨x.2.1, x.2.2, hc 0 (by omega), hc 1 (by omega), hc 2 (by omega), hc 3 (by omega), hc 4 (by omega), hc 5 (by omega), hc 6 (by omega), hc 7 (by omega), (hN x (List.mem_of_getElem? hx)).rd⟩
theorem infoR : (Try.prog.info? 28).map (fun i => (i.zero, i.size, i.bytes)) = some (some (.agg #[.string ⟨#[]⟩, .int .i64 0, .int .u64 0, .int .i64 0, .int .i64 0, .int .i64 0, .bool false, .slice none 0 0]), 8, 88) := by kernel_rfl
/-- What becomes of a world while rows of one's own grow: blocks of numbers stay, too. -/
theorem OwnR.kept {w w' : World} {base : Nat} {A : Option Addr} {cap : Nat} {rows : List Rw} (h : OwnR w base A cap rows) {q : Option Nat} (g : w.grownBy w' q)
    (hq : ∀ b, q = some b → b < base ∨ (∃ c f t, w.heap[b]? = some (.cells c t f) ∧ t ≠ 28 ∧ t ≠ 25)) : OwnR w' base A cap rows := by
  obtain ⟨l, e, h1, h2⟩ := h
  refine ⟨l, e, owns_kept h1 g (fun b hb => (hq b hb).imp id (fun ⟨c, f, t, a, b, _⟩ => ⟨c, f, t, a, b⟩)), fun x hx => owns_kept (h2 x hx) g (fun b hb => (hq b hb).imp id (fun ⟨c, f, t, a, _, b⟩ => ⟨c, f, t, a, b⟩))⟩
theorem OwnR.below {w w' : World} {base : Nat} {A : Option Addr} {cap : Nat} {rows : List Rw} (h : OwnR w base A cap rows) (hb : Below w.heap.size w w') : OwnR w' base A cap rows :=
  h.kept (grown_of (r := none) hb) (fun _ e => by cases e)
theorem OwnR.mono {w : World} {base base' : Nat} {A : Option Addr} {cap : Nat} {rows : List Rw} (h : OwnR w base A cap rows) (hb : base' ≤ base) : OwnR w base' A cap rows := by
  obtain ⟨l, e, h1, h2⟩ := h
  exact ⟨l, e, owns_mono h1 hb, fun x hx => owns_mono (h2 x hx) hb⟩
theorem OwnR.far {w : World} {base : Nat} {A : Option Addr} {cap : Nat} {rows : List Rw} (h : OwnR w base A cap rows) : ∀ b, (Value.slice A rows.length cap).ownBlock = some b → base ≤ b ∧ b < w.heap.size ∧ ∃ c f, w.heap[b]? = some (.cells c 28 f) := by
  obtain ⟨l, rfl, h1, _⟩ := h
  rw [List.length_map]
  exact fun b hb => ⟨(World.ownsRow.lt h1 b hb).1, (World.ownsRow.lt h1 b hb).2, owns_block h1 b hb⟩
end Go.Proofs.Ytmlpoeneopppaaa
