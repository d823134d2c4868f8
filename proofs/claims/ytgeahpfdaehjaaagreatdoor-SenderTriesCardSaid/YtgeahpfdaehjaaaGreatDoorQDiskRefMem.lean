/-
  The document's disk in memory: a block of its own, its parts in a row of its own; rows of parts cut and appended.
-/
import Derived.Test.YtgeahpfdaehjaaaGreatDoorGrpB
import Derived.Laws.OwnMore
namespace Go.Proofs.YtgeahpfdaehjaaaGreatDoor
open Go.ChangeShapes Go.WideShapes Go.ChangeAt Go.RowKit
set_option linter.unusedVariables false

def partOf (p : Pt) : List Value := [.int .i64 p.n, .string ⟨p.b.toArray⟩, .int .i64 (p.s : Nat)]
def partCells (L : List Pt) : List Value := L.flatMap partOf
theorem partCells_app (x y : List Pt) : partCells (x ++ y) = partCells x ++ partCells y := by unfold partCells; rw [List.flatMap_append]
theorem partCells_cons (p : Pt) (y : List Pt) : partCells (p :: y) = partOf p ++ partCells y := by unfold partCells; rw [List.flatMap_cons]
theorem partCells_length : ∀ L : List Pt, (partCells L).length = L.length * 3
  | [] => rfl
  | p :: r => by
    have h3 : (partOf p).length = 3 := rfl
    rw [partCells_cons, List.length_append, partCells_length r, List.length_cons, h3]; omega
theorem partCells_at {x y : List Pt} {p : Pt} {j : Nat} (hj : j < 3) : (partCells (x ++ p :: y))[x.length * 3 + j]? = (partOf p)[j]? := by
  have h3 : (partOf p).length = 3 := rfl
  rw [partCells_app, partCells_cons, List.getElem?_append_right (by rw [partCells_length]; omega), partCells_length, List.getElem?_append_left (by omega)]
  congr 1
  omega
theorem partCells_set {x y : List Pt} {p q : Pt} {j : Nat} {u : Value} (hj : j < 3) (hq : (partOf p).set j u = partOf q) : (partCells (x ++ p :: y)).set (x.length * 3 + j) u = partCells (x ++ q :: y) := by
  have h3 : (partOf p).length = 3 := rfl
  rw [partCells_app, partCells_cons, partCells_app, partCells_cons, List.set_append_right _ _ (by rw [partCells_length]; omega), partCells_length, List.set_append_left _ _ (by omega), ← hq]
  congr 3
  omega
theorem part_one (L : List Pt) : ∀ u ∈ partCells L, u.oneCell' = true := fun u hu => by
  unfold partCells at hu
  obtain ⟨p, _, h⟩ := List.mem_flatMap.1 hu
  simp only [partOf, List.mem_cons, List.not_mem_nil, or_false] at h
  rcases h with rfl | rfl | rfl <;> rfl
/-- A row of parts of one's own. -/
def OwnP (w : World) (base : Nat) (v : Value) (L : List Pt) : Prop := w.ownsRow base 132 3 v L.length (partCells L)
/-- A slice of parts, nil or not, that reads as this list. -/
structure SrcP (w : World) (A : Option Addr) (cap : Nat) (L : List Pt) : Prop where
  le : L.length ≤ cap
  nn : A = none → cap = 0
  rd : ∀ ad, A = some ad → ∀ j u, (partCells L)[j]? = some u → w.cell? (ad.add j) = some u
theorem SrcP.keeps {F : Nat → Prop} {w w' : World} {A : Option Addr} {cap : Nat} {L : List Pt} (h : SrcP w A cap L) (k : Keeps F w w') (hA : ∀ ad, A = some ad → ¬ F ad.block) : SrcP w' A cap L :=
  ⟨h.le, h.nn, fun ad ha j u hu => k.cell (h.rd ad ha j u hu) (by rw [addr_block]; exact hA ad ha)⟩
theorem SrcP.take {w : World} {A : Option Addr} {cap : Nat} {L : List Pt} (h : SrcP w A cap L) (k : Nat) : SrcP w A cap (L.take k) :=
  ⟨by have := h.le; rw [List.length_take]; omega, h.nn, fun ad ha j u hu => h.rd ad ha j u (by
    have e : partCells L = partCells (L.take k) ++ partCells (L.drop k) := by rw [← partCells_app, List.take_append_drop]
    rw [e, List.getElem?_append_left (List.getElem?_eq_some_iff.1 hu).1]
    exact hu)⟩
theorem OwnP.src {w : World} {base : Nat} {v : Value} {L : List Pt} (h : OwnP w base v L) : ∃ A cap, v = .slice A L.length cap ∧ SrcP w A cap L ∧ (∀ ad, A = some ad → ad.off = 0 ∧ ad.spot = none) := by
  rcases h.2 with ⟨rfl, e⟩ | ⟨g, cap, cur, rfl, hb, hg, hn, hc, hs, ht⟩
  · obtain rfl := List.length_eq_zero_iff.1 e
    exact ⟨none, 0, rfl, ⟨Nat.le_refl _, fun _ => rfl, fun _ h => by cases h⟩, fun _ h => by cases h⟩
  · exact ⟨some ⟨g, 0, none⟩, cap, rfl, ⟨hn, fun e => (by cases e), fun ad ha j u hu => (by cases ha; exact World.ownsRow.cells h (g := g) rfl j u hu)⟩, fun ad e => (by cases e; exact ⟨rfl, rfl⟩)⟩
theorem infoP : (Tryz.prog.info? 132).map (fun i => (i.zero, i.size, i.bytes)) = some (some (.agg #[.int .i64 0, .string ⟨#[]⟩, .int .i64 0]), 3, 32) := by kernel_rfl
theorem info_partsP : ∃ i, Tryz.prog.info? 132 = some i ∧ i.zero = some (.agg #[.int .i64 0, .string ⟨#[]⟩, .int .i64 0]) ∧ i.size = 3 ∧ i.bytes = 32 := by
  cases hi : Tryz.prog.info? 132 with
  | none => have := infoP; rw [hi] at this; cases this
  | some i =>
    have hI := infoP
    rw [hi] at hI
    simp only [Option.map_some, Option.some.injEq, Prod.mk.injEq] at hI
    exact ⟨i, rfl, hI⟩
theorem elemP : Tryz.prog.elem 45 = 132 := by kernel_rfl
theorem underP : Tryz.prog.underlying 45 = some (.slice (Tryz.prog.elem 45)) := by rw [elemP]; exact Tryz.underlying45
theorem sizeP (w : World) : (sizeOf (Tryz.prog.elem 45)).run Tryz.prog w = .ok 3 w := by
  obtain ⟨i, hi, _, hz1, _⟩ := info_partsP
  rw [elemP]
  simp [sizeOf, typeInfo, hi, hz1, Result.andThen]
/-- 'l[:k]'. -/
theorem sliceP_to (A : Option Addr) (len cap k : Nat) (hk : k ≤ cap) (hnone : A = none → cap = 0) (w : World) :
    (Instr.slice 45 (.slice A len cap) none (some (.int .i64 (k : Int))) none).run Tryz.prog w = .ok (.slice A k cap) w := by
  rw [run_slice_h w 45 A len cap underP _ _ (by omega) (by omega), sizeP]
  cases A with
  | none => simp [Result.andThen, sliced]
  | some a => simp [Result.andThen, sliced, Addr.add]
/-- 'l[k:]'. -/
theorem sliceP_from (A : Option Addr) (cap : Nat) (L : List Pt) (k : Nat) (hk : k ≤ L.length) (hle : L.length ≤ cap) (hnone : A = none → cap = 0) :
    ∃ A', (∀ w, (Instr.slice 45 (.slice A L.length cap) (some (.int .i64 (k : Int))) none none).run Tryz.prog w = .ok (.slice A' (L.drop k).length (cap - k)) w) ∧
      (∀ w, SrcP w A cap L → SrcP w A' (cap - k) (L.drop k)) ∧ ∀ ad', A' = some ad' → ∃ ad, A = some ad ∧ ad.block = ad'.block := by
  refine ⟨if cap = k then A else A.map (·.add (k * 3)), fun w => ?_, fun w h => ?_, fun ad' h => ?_⟩
  · rw [run_slice_l w 45 A L.length cap underP _ _ (by omega) (by omega), sizeP]
    simp [Result.andThen, sliced]
  · refine ⟨by rw [List.length_drop]; have := h.le; omega, fun e => ?_, fun ad ha j u hu => ?_⟩
    · split at e
      · omega
      · cases A with
        | none => have := h.nn rfl; omega
        | some a => cases e
    · have e : partCells L = partCells (L.take k) ++ partCells (L.drop k) := by rw [← partCells_app, List.take_append_drop]
      have hl := (List.getElem?_eq_some_iff.1 hu).1
      rw [partCells_length, List.length_drop] at hl
      have hkl : (partCells (L.take k)).length = k * 3 := by rw [partCells_length, List.length_take]; congr 1; omega
      split at ha
      · omega
      · cases A with
        | none => cases ha
        | some a =>
          cases ha
          rw [Addr.add_add]
          exact h.rd a rfl (k * 3 + j) u (by rw [e, List.getElem?_append_right (by omega), hkl, show k * 3 + j - k * 3 = j by omega]; exact hu)
  · split at h
    · exact ⟨ad', h, rfl⟩
    · cases A with
      | none => cases h
      | some a => cases h; exact ⟨a, rfl, (addr_block a _).symm⟩
/-- 'append(l, m...)': a row of one's own. -/
theorem ownP_app {w : World} {base : Nat} {v : Value} {L M : List Pt} {A : Option Addr} {cap : Nat} (h : OwnP w base v L) (hs : SrcP w A cap M) (hl : L.length + M.length ≤ 10000) (hb : base ≤ w.heap.size) :
    ∃ v' w', (Builtin.append_ #[45, 45] 45 #[v, .slice A M.length cap]).run Tryz.prog w = .ok v' w' ∧ OwnP w' base v' (L ++ M) ∧ w.grownBy w' v.ownBlock ∧ (v'.ownBlock = v.ownBlock ∨ v'.ownBlock = some w.heap.size) := by
  obtain ⟨i, hi, hz0, hz1, hz2⟩ := info_partsP
  cases A with
  | none =>
    obtain rfl := hs.nn rfl
    have h0 : M = [] := List.length_eq_zero_iff.1 (by have := hs.le; omega)
    subst h0
    exact ⟨v, w, run_append_owned_none (P := Tryz.prog) (w := w) base 45 45 132 i 3 Tryz.underlying45 hi _ _ _ h, by simpa using h, grown_refl _ _, .inl rfl⟩
  | some ad =>
    obtain ⟨v', w', hrun, hown, hgr, _, hat⟩ := run_append_own_at (P := Tryz.prog) w base 45 45 132 i (.agg #[.int .i64 0, .string ⟨#[]⟩, .int .i64 0]) 3 32 Tryz.underlying45 hi hz0 hz1 hz2 rfl (by omega) _ _ _ h ad M.length cap (partCells M) (partCells_length M)
      (fun j u hu => hs.rd ad rfl j u hu) (part_one M) (by unfold maxLen; omega) (by omega) hb
    refine ⟨v', w', hrun, ?_, hgr, hat⟩
    unfold OwnP
    rw [partCells_app, List.length_append]
    exact hown

def refCells (rm : Nat) (dn : Bool) (A : Option Addr) (n cap : Nat) : Array Value := #[.int .i64 (rm : Nat), .slice A n cap, .bool dn]
/-- The document's disk behind a pointer at block m. -/
structure RfB (w : World) (m rm : Nat) (dn : Bool) (A : Option Addr) (cap : Nat) (L : List Pt) : Prop where
  blk : w.heap[m]? = some (.cells (refCells rm dn A L.length cap) 47 (0, 0))
  own : OwnP w 0 (.slice A L.length cap) L
def footR (m : Nat) (A : Option Addr) (g : Nat) : Prop := g = m ∨ ∃ ad, A = some ad ∧ ad.block = g
def Rfd (w : World) (G : Nat → Prop) (m rm : Nat) (dn : Bool) (L : List Pt) : Prop := ∃ A cap, RfB w m rm dn A cap L ∧ ∀ g, G g ↔ footR m A g
section
variable {w w' : World} {m rm : Nat} {dn : Bool} {A : Option Addr} {cap : Nat} {L : List Pt}
theorem RfB.c0 (h : RfB w m rm dn A cap L) : w.cell? ⟨m, 0, none⟩ = some (.int .i64 (rm : Nat)) := cell_of_block h.blk
theorem RfB.c1 (h : RfB w m rm dn A cap L) : w.cell? ⟨m, 1, none⟩ = some (.slice A L.length cap) := cell_of_block h.blk
theorem RfB.c2 (h : RfB w m rm dn A cap L) : w.cell? ⟨m, 2, none⟩ = some (.bool dn) := cell_of_block h.blk
theorem RfB.f (h : RfB w m rm dn A cap L) (o : Nat) : w.frozen? ⟨m, o, none⟩ = false := frozen_of_block h.blk
theorem RfB.lt (h : RfB w m rm dn A cap L) : m < w.heap.size := lt_of_block h.blk
theorem RfB.src (h : RfB w m rm dn A cap L) : SrcP w A cap L ∧ ∀ ad, A = some ad → ad = ⟨ad.block, 0, none⟩ := by
  obtain ⟨A', cap', e, hs, ho⟩ := h.own.src
  cases e
  exact ⟨hs, fun ad ha => by obtain ⟨h1, h2⟩ := ho ad ha; cases ad; simp only at h1 h2; subst h1; subst h2; rfl⟩
theorem RfB.row (h : RfB w m rm dn A cap L) {ad : Addr} (ha : A = some ad) : ad.block ≠ m ∧ ad.block < w.heap.size := by
  subst ha
  rcases h.own.2 with ⟨e, _⟩ | ⟨g, c, cur, e, _, hg, _⟩
  · cases e
  · cases e
    refine ⟨fun e => ?_, lt_of_block hg⟩
    have := h.blk
    simp only at e
    subst e
    rw [hg] at this
    cases this
theorem RfB.footlt (h : RfB w m rm dn A cap L) {g : Nat} (hg : footR m A g) : g < w.heap.size := by
  rcases hg with rfl | ⟨ad, ha, rfl⟩
  · exact h.lt
  · exact (h.row ha).2
theorem RfB.keeps {F : Nat → Prop} (h : RfB w m rm dn A cap L) (k : Keeps F w w') (hF : ∀ g, footR m A g → ¬ F g) : RfB w' m rm dn A cap L :=
  ⟨by rw [k.block m h.lt (hF m (.inl rfl))]; exact h.blk, owns_keeps h.own k (fun g hg => hF g (.inr (by
    cases A with
    | none => cases hg
    | some ad => cases hg; exact ⟨ad, rfl, rfl⟩)))⟩
theorem RfB.below (h : RfB w m rm dn A cap L) (k : Below w.heap.size w w') : RfB w' m rm dn A cap L :=
  h.keeps (Keeps.of_below k (Nat.le_refl _) (fun _ => False)) (fun _ _ e => e)
theorem RfB.alloc (h : RfB w m rm dn A cap L) (o : Obj) : RfB (w.alloc o) m rm dn A cap L := h.below ((Below.refl _ _).alloc (Nat.le_refl _) o)
theorem RfB.drew (h : RfB w m rm dn A cap L) : RfB w.drew m rm dn A cap L := ⟨h.blk, h.own⟩
theorem RfB.drewN (h : RfB w m rm dn A cap L) (n : Nat) : RfB (w.drewN n) m rm dn A cap L := ⟨h.blk, h.own⟩
/-- A part's cells. -/
theorem RfB.at {x y : List Pt} {p : Pt} (h : RfB w m rm dn A cap (x ++ p :: y)) : ∃ g, A = some ⟨g, 0, none⟩ ∧ w.cell? ⟨g, x.length * 3, none⟩ = some (.int .i64 p.n) ∧ w.cell? ⟨g, x.length * 3 + 1, none⟩ = some (.string ⟨p.b.toArray⟩) ∧ w.cell? ⟨g, x.length * 3 + 2, none⟩ = some (.int .i64 (p.s : Nat)) ∧ (∀ o, w.frozen? ⟨g, o, none⟩ = false) := by
  have hh := h.own
  rcases h.own.2 with ⟨e, hn⟩ | ⟨g, c, cur, e, _, hg, _⟩
  · simp at hn
  · cases e
    have hc : ∀ j, j < 3 → w.cell? ⟨g, x.length * 3 + j, none⟩ = (partOf p)[j]? := fun j hj => by
      have h1 := World.ownsRow.cellAt hh (x.length * 3 + j) (by simp only [List.length_append, List.length_cons]; omega)
      rw [h1, partCells_at hj]
    exact ⟨g, rfl, hc 0 (by omega), hc 1 (by omega), hc 2 (by omega), fun o => World.ownsRow.frozenAt hh o⟩
/-- A part's cell is written. -/
theorem RfB.put {x y : List Pt} {p q : Pt} {g j : Nat} {u : Value} (h : RfB w m rm dn (some ⟨g, 0, none⟩) cap (x ++ p :: y)) (hj : j < 3) (hq : (partOf p).set j u = partOf q) :
    RfB (w.setCell ⟨g, x.length * 3 + j, none⟩ u) m rm dn (some ⟨g, 0, none⟩) cap (x ++ q :: y) := by
  have hl : (x ++ q :: y).length = (x ++ p :: y).length := by simp
  refine ⟨?_, ?_⟩
  · rw [heap_set_other (a := ⟨g, x.length * 3 + j, none⟩) (fun e => (h.row rfl).1 e.symm), hl]
    exact h.blk
  · have := (World.ownsRow.stored h.own (x.length * 3 + j) u).1
    rw [partCells_set hj hq] at this
    unfold OwnP
    rw [hl]
    exact this
theorem RfB.setD (h : RfB w m rm dn A cap L) (dn' : Bool) : RfB (w.setCell ⟨m, 2, none⟩ (.bool dn')) m rm dn' A cap L :=
  ⟨by rw [heap_set_same h.blk]; rfl, owns_keeps (F := fun g => g = m) h.own ((Keeps.refl _ w).set _ _ (.inl rfl)) (fun g hg e => by
    cases A with
    | none => cases hg
    | some ad => cases hg; exact (h.row rfl).1 e)⟩
/-- The row is another one. -/
theorem RfB.setL {w : World} {A' : Option Addr} {cap' : Nat} {L' : List Pt} (h : w.heap[m]? = some (.cells (refCells rm dn A L.length cap) 47 (0, 0))) (ho : OwnP w 0 (.slice A' L'.length cap') L') :
    RfB (w.setCell ⟨m, 1, none⟩ (.slice A' L'.length cap')) m rm dn A' cap' L' :=
  ⟨by rw [heap_set_same h]; rfl, owns_keeps (F := fun g => g = m) ho ((Keeps.refl _ w).set _ _ (.inl rfl)) (fun g hg e => by
    rcases ho.2 with ⟨e', _⟩ | ⟨g', c, cur, e', _, hg', _⟩
    · rw [e'] at hg; cases hg
    · rw [e'] at hg
      cases hg
      subst e
      rw [hg'] at h
      cases h)⟩
end
theorem Rfd.keeps {w w' : World} {G F : Nat → Prop} {m rm : Nat} {dn : Bool} {L : List Pt} (h : Rfd w G m rm dn L) (k : Keeps F w w') (hF : ∀ g, G g → ¬ F g) : Rfd w' G m rm dn L := by
  obtain ⟨A, cap, h1, h2⟩ := h
  exact ⟨A, cap, h1.keeps k (fun g hg => hF g ((h2 g).2 hg)), h2⟩
theorem Rfd.below {w w' : World} {G : Nat → Prop} {m rm : Nat} {dn : Bool} {L : List Pt} (h : Rfd w G m rm dn L) (k : Below w.heap.size w w') : Rfd w' G m rm dn L :=
  h.keeps (Keeps.of_below k (Nat.le_refl _) (fun _ => False)) (fun _ _ e => e)
theorem Rfd.lt {w : World} {G : Nat → Prop} {m rm : Nat} {dn : Bool} {L : List Pt} (h : Rfd w G m rm dn L) {g : Nat} (hg : G g) : g < w.heap.size := by
  obtain ⟨A, cap, h1, h2⟩ := h
  exact h1.footlt ((h2 g).1 hg)
end Go.Proofs.YtgeahpfdaehjaaaGreatDoor
