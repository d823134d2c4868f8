/-
  What a disk's operations leave alone; and a disk in memory: its own block, its map, a row of bytes for each part, no two in one block.
-/
import Derived.Test.YtgohgmihoggcpaaDiskPure
import Derived.Test.YtgohgmihoggcpaaOwnB
import Derived.Maps.AppendAt
import Derived.Maps.OwnSet
namespace Go.Proofs.Ytgohgmihoggcpaa
open Go.ChangeShapes Go.WideShapes Go.ChangeAt Go.RowKit
open Go.WideElems (Fit rd rg pl rd_val elemAt)
set_option linter.unusedVariables false

/-- All blocks that were there stay, but those of F. -/
structure Keeps (F : Nat → Prop) (w w' : World) : Prop where
  os : w'.os = w.os
  tape : w'.tape = w.tape
  output : w'.output = w.output
  size : w.heap.size ≤ w'.heap.size
  block : ∀ k, k < w.heap.size → ¬ F k → w'.heap[k]? = w.heap[k]?
section
variable {F G : Nat → Prop} {w w1 w2 w' : World}
theorem Keeps.refl (F : Nat → Prop) (w : World) : Keeps F w w := ⟨rfl, rfl, rfl, Nat.le_refl _, fun _ _ _ => rfl⟩
theorem Keeps.trans (h : Keeps F w w1) (k : Keeps G w1 w2) (hG : ∀ g, G g → F g ∨ w.heap.size ≤ g) : Keeps F w w2 :=
  ⟨k.os.trans h.os, k.tape.trans h.tape, k.output.trans h.output, Nat.le_trans h.size k.size, fun i hi hF => by
    rw [k.block i (Nat.lt_of_lt_of_le hi h.size) (fun e => by rcases hG i e with e | e; exact hF e; omega), h.block i hi hF]⟩
theorem Keeps.of_below {B : Nat} (h : Below B w w') (hB : w.heap.size ≤ B) (F : Nat → Prop) : Keeps F w w' := ⟨h.os, h.tape, h.output, h.size, fun k hk _ => h.block k (by omega)⟩
theorem Keeps.of_grown {r : Option Nat} (h : w.grownBy w' r) (hr : ∀ g, r = some g → F g) : Keeps F w w' :=
  ⟨h.os, h.tape, h.output, h.size, fun k hk hF => h.block k hk (fun e => hF (hr k e.symm))⟩
theorem Keeps.wide (h : Keeps F w w') (hG : ∀ g, F g → g < w.heap.size → G g) : Keeps G w w' :=
  ⟨h.os, h.tape, h.output, h.size, fun k hk hF => h.block k hk (fun e => hF (hG k e hk))⟩
theorem Keeps.set (h : Keeps F w w1) (a : Addr) (v : Value) (ha : F a.block ∨ w.heap.size ≤ a.block) : Keeps F w (w1.setCell a v) :=
  ⟨h.os, h.tape, h.output, by rw [World.size_setCell]; exact h.size, fun k hk hF => by
    rw [heap_set_other (fun e => by subst e; rcases ha with e | e; exact hF e; omega)]; exact h.block k hk hF⟩
theorem Keeps.alloc (h : Keeps F w w1) (o : Obj) : Keeps F w (w1.alloc o) :=
  h.trans (Keeps.of_grown (World.grownBy_alloc w1 o none) (F := fun _ => False) (fun _ e => by cases e)) (fun _ e => e.elim)
theorem Keeps.drewN (h : Keeps F w w1) (n : Nat) : Keeps F w (w1.drewN n) := ⟨h.os, h.tape, h.output, h.size, h.block⟩
theorem Keeps.drew (h : Keeps F w w1) : Keeps F w w1.drew := ⟨h.os, h.tape, h.output, h.size, h.block⟩
theorem Keeps.below {B : Nat} (h : Keeps F w w') (hF : ∀ g, F g → B ≤ g) (hB : B ≤ w.heap.size) : Below B w w' :=
  ⟨h.os, h.tape, h.output, h.size, fun k hk => h.block k (by omega) (fun e => by have := hF k e; omega)⟩
theorem Keeps.cell (h : Keeps F w w') {p : Addr} {v : Value} (hc : w.cell? p = some v) (hp : ¬ F p.block) : w'.cell? p = some v := by
  rw [World.cell?_of_block (w := w) (h.block _ (World.block_lt_of_cell? w _ hc) hp)]; exact hc
theorem owns_keeps {base : Nat} {e : TypeId} {sz : Nat} {v : Value} {n : Nat} {l : List Value} (h : w.ownsRow base e sz v n l) (k : Keeps F w w') (hF : ∀ g, v.ownBlock = some g → ¬ F g) : w'.ownsRow base e sz v n l := by
  refine ⟨h.1, ?_⟩
  rcases h.2 with h | ⟨g, cap, cur, rfl, hb, hg, r⟩
  · exact .inl h
  · exact .inr ⟨g, cap, cur, rfl, hb, by rw [k.block g (lt_of_block hg) (hF g rfl)]; exact hg, r⟩
theorem map_keeps {k : TypeId} {b n : Nat} {D : DataW Value} (h : w.ownsMap Try.prog k RV b n D) (g : Keeps F w w') (hb : ¬ F b) : w'.ownsMap Try.prog k RV b n D := by
  obtain ⟨es, clock, hes, r⟩ := h
  exact ⟨es, clock, by rw [g.block b (lt_of_block hes) hb]; exact hes, r⟩
theorem map_turned {b : Nat} (h : w.mapTurned w' b) (F : Nat → Prop) (hF : F b) : Keeps F w w' := Keeps.of_grown h.grown (fun g e => by cases e; exact hF)
theorem map_tight {k : TypeId} {b n : Nat} {l : List En} (h : w.ownsMap Try.prog k RV b n (.map l)) : w.ownsMap Try.prog k RV b l.length (.map l) := by
  obtain ⟨es, clock, hes, F, _, hD⟩ := h
  refine ⟨es, clock, hes, F, ?_, hD⟩
  have : l.length = es.size := by cases hD; rw [length_sorted]; simp
  omega
theorem map_len {k : TypeId} {b n : Nat} {l : List En} (h : w.ownsMap Try.prog k RV b n (.map l)) : l.length ≤ n := by
  have := h.size_le
  exact this
end

theorem keyed : Maps.Keyed Try.prog 3 := Maps.int_keyed Try.underlying3
theorem key_of (n : Int) (h0 : -9223372036854775808 ≤ n) (h1 : n ≤ 9223372036854775807) : keyOf Try.prog 3 (.int .i64 n) = some (.int .i64 n) := Maps.keyOf_int_mk Try.underlying3 (WalkArith.wf_i64 (by omega))

def diskCells (rm us : Nat) (dn : Bool) (b : Nat) : Array Value := #[.int .i64 (rm : Nat), .int .i64 (us : Nat), .bool dn, .map (some b)]
/-- A disk behind a pointer at block a: its room, its count of bytes, whether it is down, its map in block b that reads as D, and the parts zs whose bytes are its own. -/
structure DkG (w : World) (a b rm us : Nat) (dn : Bool) (n : Nat) (D : DataW Value) (zs : List (Pt × Value)) : Prop where
  blk : w.heap[a]? = some (.cells (diskCells rm us dn b) 43 (0, 0))
  map : w.ownsMap Try.prog 3 RV b n D
  own : ∀ x ∈ zs, OB w 0 x.2 x.1.b
  apart : zs.Pairwise (fun x y => ∀ g, x.2.ownBlock = some g → y.2.ownBlock ≠ some g)
abbrev pts (xs : List (Pt × Value)) : List Pt := xs.map (·.1)
abbrev DkB (w : World) (a b rm : Nat) (dn : Bool) (xs : List (Pt × Value)) : Prop := DkG w a b rm (used (pts xs)) dn xs.length (ents xs) xs
/-- The blocks that are a disk's own. -/
def foot (a b : Nat) (xs : List (Pt × Value)) (g : Nat) : Prop := g = a ∨ g = b ∨ ∃ x ∈ xs, x.2.ownBlock = some g
section
variable {w w' : World} {a b rm us n : Nat} {dn : Bool} {D : DataW Value} {zs : List (Pt × Value)}
theorem DkG.c0 (h : DkG w a b rm us dn n D zs) : w.cell? ⟨a, 0, none⟩ = some (.int .i64 (rm : Nat)) := cell_of_block h.blk
theorem DkG.c1 (h : DkG w a b rm us dn n D zs) : w.cell? ⟨a, 1, none⟩ = some (.int .i64 (us : Nat)) := cell_of_block h.blk
theorem DkG.c2 (h : DkG w a b rm us dn n D zs) : w.cell? ⟨a, 2, none⟩ = some (.bool dn) := cell_of_block h.blk
theorem DkG.c3 (h : DkG w a b rm us dn n D zs) : w.cell? ⟨a, 3, none⟩ = some (.map (some b)) := cell_of_block h.blk
theorem DkG.f (h : DkG w a b rm us dn n D zs) (o : Nat) : w.frozen? ⟨a, o, none⟩ = false := frozen_of_block h.blk
theorem DkG.lt (h : DkG w a b rm us dn n D zs) : a < w.heap.size := lt_of_block h.blk
theorem DkG.blt (h : DkG w a b rm us dn n D zs) : b < w.heap.size := h.map.lt
theorem DkG.ne (h : DkG w a b rm us dn n D zs) : a ≠ b := by
  intro e; subst e
  obtain ⟨es, c, hb, _⟩ := h.map
  have := h.blk
  rw [hb] at this; cases this
theorem DkG.row (h : DkG w a b rm us dn n D zs) {x : Pt × Value} (hx : x ∈ zs) {g : Nat} (hg : x.2.ownBlock = some g) : g ≠ a ∧ g ≠ b ∧ g < w.heap.size := by
  obtain ⟨c, fz, hc⟩ := (h.own x hx).kind g hg
  refine ⟨?_, ?_, lt_of_block hc⟩
  · intro e; subst e; have := h.blk; rw [hc] at this; cases this
  · intro e; subst e; obtain ⟨es, cl, hb, _⟩ := h.map; rw [hc] at hb; cases hb
theorem DkG.footlt (h : DkG w a b rm us dn n D zs) {g : Nat} (hg : foot a b zs g) : g < w.heap.size := by
  rcases hg with rfl | rfl | ⟨x, hx, hg⟩
  · exact h.lt
  · exact h.blt
  · exact (h.row hx hg).2.2
theorem DkG.keeps {F : Nat → Prop} (h : DkG w a b rm us dn n D zs) (k : Keeps F w w') (hF : ∀ g, foot a b zs g → ¬ F g) : DkG w' a b rm us dn n D zs where
  blk := by rw [k.block a h.lt (hF a (.inl rfl))]; exact h.blk
  map := map_keeps h.map k (hF b (.inr (.inl rfl)))
  own x hx := owns_keeps (h.own x hx) k (fun g hg => hF g (.inr (.inr ⟨x, hx, hg⟩)))
  apart := h.apart
theorem DkG.below {B : Nat} (h : DkG w a b rm us dn n D zs) (k : Below B w w') (hB : w.heap.size ≤ B) : DkG w' a b rm us dn n D zs :=
  h.keeps (Keeps.of_below k hB (fun _ => False)) (fun _ _ e => e)
theorem DkG.alloc (h : DkG w a b rm us dn n D zs) (o : Obj) : DkG (w.alloc o) a b rm us dn n D zs := h.below ((Below.refl w.heap.size w).alloc (Nat.le_refl _) o) (Nat.le_refl _)
theorem DkG.drewN (h : DkG w a b rm us dn n D zs) (q : Nat) : DkG (w.drewN q) a b rm us dn n D zs := ⟨h.blk, h.map, h.own, h.apart⟩
theorem DkG.drew (h : DkG w a b rm us dn n D zs) : DkG w.drew a b rm us dn n D zs := ⟨h.blk, h.map, h.own, h.apart⟩
theorem DkG.set (h : DkG w a b rm us dn n D zs) (p : Addr) (v : Value) (hp : ¬ foot a b zs p.block) : DkG (w.setCell p v) a b rm us dn n D zs :=
  h.keeps (F := fun g => g = p.block) ((Keeps.refl _ w).set p v (.inl rfl)) (fun g hg e => hp (by rw [← e]; exact hg))
/-- Its own cells are written. -/
theorem DkG.setU (h : DkG w a b rm us dn n D zs) (us' : Nat) : DkG (w.setCell ⟨a, 1, none⟩ (.int .i64 (us' : Nat))) a b rm us' dn n D zs where
  blk := by rw [heap_set_same h.blk]; rfl
  map := h.map.setCell (a := ⟨a, 1, none⟩) (fun e => h.ne e.symm) _
  own x hx := owns_keeps (F := fun g => g = a) (h.own x hx) ((Keeps.refl _ w).set _ _ (.inl rfl)) (fun g hg => (h.row hx hg).1)
  apart := h.apart
theorem DkG.setD (h : DkG w a b rm us dn n D zs) (dn' : Bool) : DkG (w.setCell ⟨a, 2, none⟩ (.bool dn')) a b rm us dn' n D zs where
  blk := by rw [heap_set_same h.blk]; rfl
  map := h.map.setCell (a := ⟨a, 2, none⟩) (fun e => h.ne e.symm) _
  own x hx := owns_keeps (F := fun g => g = a) (h.own x hx) ((Keeps.refl _ w).set _ _ (.inl rfl)) (fun g hg => (h.row hx hg).1)
  apart := h.apart
/-- Its map is written. -/
theorem DkG.turned {n' : Nat} {D' : DataW Value} (h : DkG w a b rm us dn n D zs) (hm : w'.ownsMap Try.prog 3 RV b n' D') (ht : w.mapTurned w' b) : DkG w' a b rm us dn n' D' zs where
  blk := by rw [(map_turned ht (fun g => g = b) rfl).block a h.lt h.ne]; exact h.blk
  map := hm
  own x hx := owns_keeps (h.own x hx) (map_turned ht (fun g => g = b) rfl) (fun g hg => (h.row hx hg).2.1)
  apart := h.apart
theorem DkG.less {x y : List (Pt × Value)} {q : Pt × Value} (h : DkG w a b rm us dn n D (x ++ q :: y)) : DkG w a b rm us dn n D (x ++ y) ∧ OB w 0 q.2 q.1.b ∧ (∀ g, q.2.ownBlock = some g → ¬ foot a b (x ++ y) g) := by
  obtain ⟨h1, h2, h3⟩ := List.pairwise_append.1 h.apart
  obtain ⟨h4, h5⟩ := List.pairwise_cons.1 h2
  have hq : q ∈ x ++ q :: y := by simp
  have sub : ∀ z ∈ x ++ y, z ∈ x ++ q :: y := fun z hz => by
    rcases List.mem_append.1 hz with hz | hz
    · exact List.mem_append.2 (.inl hz)
    · exact List.mem_append.2 (.inr (by simp [hz]))
  refine ⟨⟨h.blk, h.map, fun z hz => h.own z (sub z hz), List.pairwise_append.2 ⟨h1, h5, fun c hc d hd => h3 c hc d (by simp [hd])⟩⟩, h.own q hq, fun g hg hf => ?_⟩
  obtain ⟨r1, r2, _⟩ := h.row hq hg
  rcases hf with e | e | ⟨z, hz, e⟩
  · exact r1 e
  · exact r2 e
  · rcases List.mem_append.1 hz with hz | hz
    · exact h3 z hz q (by simp) g e hg
    · exact h4 z hz g hg e
theorem DkG.more {x y : List (Pt × Value)} {p : Pt × Value} (h : DkG w a b rm us dn n (ents (x ++ p :: y)) (x ++ y)) (ho : OB w 0 p.2 p.1.b) (hf : ∀ g, p.2.ownBlock = some g → ¬ foot a b (x ++ y) g) (hu : us = used (pts (x ++ p :: y))) :
    DkB w a b rm dn (x ++ p :: y) := by
  subst hu
  obtain ⟨h1, h2, h3⟩ := List.pairwise_append.1 h.apart
  refine ⟨h.blk, ?_, fun z hz => ?_, List.pairwise_append.2 ⟨h1, List.pairwise_cons.2 ⟨fun z hz g hg e => hf g hg (.inr (.inr ⟨z, by simp [hz], e⟩)), h2⟩, fun c hc d hd => ?_⟩⟩
  · have := map_tight h.map
    rw [List.length_map] at this
    exact this
  · rcases List.mem_append.1 hz with hz | hz
    · exact h.own z (by simp [hz])
    · rcases List.mem_cons.1 hz with rfl | hz
      · exact ho
      · exact h.own z (by simp [hz])
  · rcases List.mem_cons.1 hd with rfl | hd
    · intro g hg e
      exact hf g e (.inr (.inr ⟨c, by simp [hc], hg⟩))
    · exact h3 c hc d hd
theorem DkG.tight (h : DkG w a b rm us dn n (ents zs) zs) : DkG w a b rm us dn zs.length (ents zs) zs := ⟨h.blk, by have := map_tight h.map; rw [List.length_map] at this; exact this, h.own, h.apart⟩
end
theorem foot_mono {a b : Nat} {x y : List (Pt × Value)} (h : ∀ z ∈ x, z ∈ y) {g : Nat} (hg : foot a b x g) : foot a b y g := by
  rcases hg with e | e | ⟨z, hz, e⟩
  · exact .inl e
  · exact .inr (.inl e)
  · exact .inr (.inr ⟨z, h z hz, e⟩)

/-- A row of bytes of one's own grows by a row that reads so: in its own block, or in a new one. -/
theorem ob_grow {w : World} {v : Value} {l : List UInt8} (h : OB w 0 v l) {A : Option Addr} {cap : Nat} {y : List UInt8} (hr : RdS w A cap y) (hl : l.length + y.length ≤ 1000000) :
    ∃ v' w', (Builtin.append_ #[32, 32] 32 #[v, .slice A y.length cap]).run Try.prog w = .ok v' w' ∧ OB w' 0 v' (l ++ y) ∧ w.grownBy w' v.ownBlock ∧ (v'.ownBlock = v.ownBlock ∨ v'.ownBlock = some w.heap.size) := by
  obtain ⟨i, hi, hz0, hz1, hz2⟩ := info_parts infoB
  cases A with
  | none =>
    obtain rfl := hr.nn rfl
    have h0 : y = [] := List.length_eq_zero_iff.1 (by have := hr.le; omega)
    subst h0
    exact ⟨v, w, run_append_owned_none (P := Try.prog) (w := w) 0 32 32 5 i 1 Try.underlying32 hi _ _ _ h, by simpa using h, grown_refl _ _, .inl rfl⟩
  | some ad =>
    obtain ⟨v', w', hrun, hown, hgr, _, hat⟩ := run_append_own_at (P := Try.prog) w 0 32 32 5 i (.int .u8 0) 1 1 Try.underlying32 hi hz0 hz1 hz2 rfl (by omega) _ _ _ h ad y.length cap (Lib.byteCells y) (by simp [Lib.byteCells_length])
      (fun j u hu => by
        unfold Lib.byteCells at hu
        rw [List.getElem?_map] at hu
        cases hj : y[j]? with
        | none => rw [hj] at hu; cases hu
        | some c => rw [hj] at hu; cases hu; exact hr.rd ad rfl j c hj)
      (fun u hu => by unfold Lib.byteCells at hu; obtain ⟨x, _, rfl⟩ := List.mem_map.1 hu; rfl) (by unfold maxLen; omega) (by omega) (Nat.zero_le _)
    refine ⟨v', w', hrun, ?_, hgr, hat⟩
    unfold OB
    rw [byteCells_app, List.length_append]
    exact hown
theorem addr_block (ad : Addr) (i : Nat) : (ad.add i).block = ad.block := by unfold Addr.add; split <;> rfl
theorem RdS.keeps {F : Nat → Prop} {w w' : World} {A : Option Addr} {cap : Nat} {l : List UInt8} (h : RdS w A cap l) (k : Keeps F w w') (hA : ∀ ad, A = some ad → ¬ F ad.block) : RdS w' A cap l :=
  ⟨h.le, h.nn, fun ad ha i c hc => k.cell (h.rd ad ha i c hc) (by rw [addr_block]; exact hA ad ha)⟩
end Go.Proofs.Ytgohgmihoggcpaa
