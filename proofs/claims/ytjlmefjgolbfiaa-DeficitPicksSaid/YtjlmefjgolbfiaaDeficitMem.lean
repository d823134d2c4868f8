/-
  Layer 12 (deficit): turns behind a pointer, the program's or the document's; to go on, to pay.
-/
import Derived.Test.YtjlmefjgolbfiaaDeficitPure
import Derived.Test.YtjlmefjgolbfiaaDeficitBase
namespace Go.Proofs.Ytjlmefjgolbfiaa
open Go.ChangeShapes Go.WideShapes Go.ChangeAt Go.RowKit
set_option linter.unusedVariables false

/-- Turns behind a pointer at block a, of type st: their quanta lie at A, outside of E, where all lies that is written. -/
structure Tg (st : TypeId) (w : World) (E : Nat → Prop) (a : Nat) (A : Option Addr) (cap : Nat) (vc : Value) (q : List Int) (s : Tn) : Prop where
  blk : w.heap[a]? = some (.cells #[.slice A q.length cap, vc, .int .i64 (s.k : Nat), .bool s.v] st (0, 0))
  row : w.ownsRow 0 3 1 vc s.c.length (s.c.map encN)
  rd : RdQ w E A cap q
  inE : ∀ g, (g = a ∨ vc.ownBlock = some g) → E g
section
variable {st : TypeId} {w w' : World} {E G : Nat → Prop} {a : Nat} {A : Option Addr} {cap : Nat} {vc : Value} {q : List Int} {s : Tn}
theorem Tg.c0 (h : Tg st w E a A cap vc q s) : w.cell? ⟨a, 0, none⟩ = some (.slice A q.length cap) := cell_of_block h.blk
theorem Tg.c1 (h : Tg st w E a A cap vc q s) : w.cell? ⟨a, 1, none⟩ = some vc := cell_of_block h.blk
theorem Tg.c2 (h : Tg st w E a A cap vc q s) : w.cell? ⟨a, 2, none⟩ = some (.int .i64 (s.k : Nat)) := cell_of_block h.blk
theorem Tg.c3 (h : Tg st w E a A cap vc q s) : w.cell? ⟨a, 3, none⟩ = some (.bool s.v) := cell_of_block h.blk
theorem Tg.fr (h : Tg st w E a A cap vc q s) (o : Nat) : w.frozen? ⟨a, o, none⟩ = false := frozen_of_block h.blk
theorem Tg.lt (h : Tg st w E a A cap vc q s) : a < w.heap.size := lt_of_block h.blk
theorem Tg.ne (h : Tg st w E a A cap vc q s) (he : st ≠ 3) : vc.ownBlock ≠ some a := owns_off h.row h.blk he
theorem Tg.keeps (h : Tg st w E a A cap vc q s) (k : Keeps G w w') (hG : ∀ g, G g → E g) (ha : ¬ G a) (hv : ∀ g, vc.ownBlock = some g → ¬ G g) : Tg st w' E a A cap vc q s :=
  ⟨keeps_out k h.blk ha, owns_keeps h.row k hv, h.rd.keeps k hG, h.inE⟩
theorem Tg.still (h : Tg st w E a A cap vc q s) (b : Below w.heap.size w w') : Tg st w' E a A cap vc q s :=
  h.keeps (Keeps.of_below b (Nat.le_refl _) (fun _ => False)) (fun _ e => e.elim) (fun e => e) (fun _ _ e => e)
theorem Tg.drewN (h : Tg st w E a A cap vc q s) (n : Nat) : Tg st (w.drewN n) E a A cap vc q s := h.still (below_drewN w n)
theorem Tg.drew (h : Tg st w E a A cap vc q s) : Tg st w.drew E a A cap vc q s := h.still (below_drew w)
theorem Tg.set2 (h : Tg st w E a A cap vc q s) (he : st ≠ 3) (k' : Nat) : Tg st (w.setCell ⟨a, 2, none⟩ (.int .i64 (k' : Nat))) E a A cap vc q ⟨s.c, k', s.v⟩ :=
  ⟨by rw [heap_set_same h.blk]; rfl, owns_keeps (F := fun g => g = a) h.row ((Keeps.refl _ w).set _ _ (.inl rfl)) (fun g hg e' => h.ne he (by rw [← e']; exact hg)),
   h.rd.keeps (G := fun g => g = a) ((Keeps.refl _ w).set _ _ (.inl rfl)) (fun g e => h.inE g (.inl e)), h.inE⟩
theorem Tg.set3 (h : Tg st w E a A cap vc q s) (he : st ≠ 3) (v' : Bool) : Tg st (w.setCell ⟨a, 3, none⟩ (.bool v')) E a A cap vc q ⟨s.c, s.k, v'⟩ :=
  ⟨by rw [heap_set_same h.blk]; rfl, owns_keeps (F := fun g => g = a) h.row ((Keeps.refl _ w).set _ _ (.inl rfl)) (fun g hg e' => h.ne he (by rw [← e']; exact hg)),
   h.rd.keeps (G := fun g => g = a) ((Keeps.refl _ w).set _ _ (.inl rfl)) (fun g e => h.inE g (.inl e)), h.inE⟩
/-- Where a credit lies. -/
theorem Tg.at (h : Tg st w E a A cap vc q s) (he : st ≠ 3) {j : Nat} {x : Int} (hj : s.c[j]? = some x) :
    ∃ g c, vc = .slice (some ⟨g, 0, none⟩) s.c.length c ∧ w.cell? ⟨g, j, none⟩ = some (.int .i64 x) ∧ (∀ o, w.frozen? ⟨g, o, none⟩ = false) ∧ a ≠ g ∧ E g ∧ g < w.heap.size := by
  have hlt := (List.getElem?_eq_some_iff.1 hj).1
  have hr := h.row
  rcases hr.2 with ⟨rfl, e1⟩ | ⟨g, c, cur, rfl, _⟩
  · omega
  · have k1 : w.cell? ⟨g, j, none⟩ = some (.int .i64 x) := by
      rw [World.ownsRow.cellAt hr j (by omega), List.getElem?_map, hj]; rfl
    exact ⟨g, c, rfl, k1, fun o => World.ownsRow.frozenAt hr o, fun e' => h.ne he (by subst e'; rfl), h.inE g (.inr rfl), World.block_lt_of_cell? w _ k1⟩
/-- A credit is written. -/
theorem Tg.place (h : Tg st w E a A cap vc q s) (he : st ≠ 3) {g c n : Nat} (hv : vc = .slice (some ⟨g, 0, none⟩) n c) (j : Nat) (x : Int) :
    Tg st (w.setCell ⟨g, j, none⟩ (.int .i64 x)) E a A cap vc q ⟨s.c.set j x, s.k, s.v⟩ := by
  have hne : a ≠ g := fun e' => h.ne he (by subst hv; subst e'; rfl)
  subst hv
  refine ⟨by rw [heap_set_other hne]; exact h.blk, ?_, h.rd.keeps (G := fun k => k = g) ((Keeps.refl _ w).set _ _ (.inl rfl)) (fun k e => h.inE k (.inr (by rw [e]; rfl))), h.inE⟩
  have hn : n = s.c.length := by
    rcases h.row.2 with ⟨e, _⟩ | ⟨g', c', cur, e, _⟩
    · cases e
    · cases e; rfl
  subst hn
  have := (World.ownsRow.stored h.row j (encN x)).1
  simp only
  rw [List.length_set, List.map_set]
  exact this
/-- What is written, of turns. -/
def Mt (a : Nat) (vc : Value) (w w' : World) : Prop := Keeps (fun g => g = a ∨ vc.ownBlock = some g) w w'
theorem Mt.refl (a : Nat) (vc : Value) (w : World) : Mt a vc w w := Keeps.refl _ w
theorem Mt.trans {w1 : World} (h : Mt a vc w w1) (k : Mt a vc w1 w') : Mt a vc w w' := Keeps.trans h k (fun g e => .inl e)
theorem Mt.drewN (h : Mt a vc w w') (n : Nat) : Mt a vc w (w'.drewN n) := Keeps.drewN h n
theorem Mt.drew (h : Mt a vc w w') : Mt a vc w w'.drew := Keeps.drew h
theorem Mt.own (h : Mt a vc w w') (o : Nat) (x : Value) : Mt a vc w (w'.setCell ⟨a, o, none⟩ x) := Keeps.set h _ _ (.inl (.inl rfl))
theorem Mt.row (h : Mt a vc w w') {g n c : Nat} (hv : vc = .slice (some ⟨g, 0, none⟩) n c) (o : Nat) (x : Value) : Mt a vc w (w'.setCell ⟨g, o, none⟩ x) := Keeps.set h _ _ (.inl (.inr (by rw [hv]; rfl)))
theorem set_same {l : List Int} {k : Nat} {x : Int} (h : l[k]? = some x) : l.set k x = l := by
  have := (List.getElem?_eq_some_iff.1 h)
  obtain ⟨h1, h2⟩ := this
  rw [← h2]
  exact List.set_getElem_self h1
end
theorem neT : 44 ≠ 3 := by decide
theorem neR : 34 ≠ 3 := by decide
section
variable {w w' : World} {E : Nat → Prop} {a : Nat} {A : Option Addr} {cap : Nat} {vc : Value} {q : List Int} {s : Tn}
set_option maxRecDepth 100000 in
theorem goOn_walk (h : Tg 44 w E a A cap vc q s) (h1 : 1 ≤ q.length) (h4 : q.length ≤ 4) (hk : s.k < q.length) :
    Calls Try.prog 15 #[.pointer (some ⟨a, 0, none⟩)] w fun e w' => e = .returned (.tuple #[]) ∧ Tg 44 w' E a A cap vc q ⟨s.c, (s.k + 1) % q.length, false⟩ ∧ Mt a vc w w' := by
  have c0 := h.c0
  have c2 := h.c2
  have c3 := h.c3
  have f2 := h.fr 2
  have f3 := h.fr 3
  obtain ⟨p, hp⟩ : ∃ p, (s.k + 1) % q.length = p := ⟨_, rfl⟩
  have z2 : ((s.k : Int) + 1).tmod (q.length : Int) = (p : Int) := by rw [Int.tmod_eq_emod_of_nonneg (by omega), ← hp]; simp
  have z1 : ¬ q.length = 0 := by omega
  have z0 : IntKind.i64.wrap ((s.k : Int) + 1) = (s.k : Int) + 1 := by rw [IntKind.wrap_i64]; omega
  have END := Lib.hid (((h.set2 neT p).drew).set3 neT false)
  rw [hp]
  generalize q.length = N at *
  generalize s.k = k at *
  clear h hp
  go_enter Try.func15, Try.ntmps15
  go_wp2_with fail
  go_region
  go_wp2_with fail
  go_end0
  exact ⟨rfl, END.out, ((Mt.refl a vc w).own _ _).drew.own _ _⟩
end
end Go.Proofs.Ytjlmefjgolbfiaa
