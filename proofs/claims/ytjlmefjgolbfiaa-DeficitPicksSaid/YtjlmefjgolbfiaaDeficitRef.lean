/-
  Layer 12 (deficit): the document's Pick, in memory.
-/
import Derived.Test.YtjlmefjgolbfiaaDeficitSome
namespace Go.Proofs.Ytjlmefjgolbfiaa
open Go.ChangeShapes Go.WideShapes Go.ChangeAt Go.RowKit
set_option linter.unusedVariables false

/-- Within a round of the document's: a copy of the credits, at block gc. -/
structure Cr (w : World) (E : Nat → Prop) (a : Nat) (A : Option Addr) (cap : Nat) (vc : Value) (q : List Int) (t : Tn) (gc cc n : Nat) (cl : List Int) (w1 : World) : Prop where
  tg : Tg 34 w1 E a A cap vc q t
  own : w1.ownsRow w.heap.size 3 1 (.slice (some ⟨gc, 0, none⟩) n cc) n (cl.map encN)
  len : cl.length = n
  kp : Keeps (fun g => g = a) w w1
  ge : w.heap.size ≤ gc
  gE : E gc
  nv : vc.ownBlock ≠ some gc
section
variable {w w' w1 wr : World} {E : Nat → Prop} {a : Nat} {A B : Option Addr} {cap cb : Nat} {vc : Value} {q l cl : List Int} {s s' t : Tn} {gc cc n : Nat}
theorem Cr.na (h : Cr w E a A cap vc q t gc cc n cl w1) : a ≠ gc := fun e => owns_off h.own h.tg.blk neR (by rw [e]; rfl)
theorem Cr.at (h : Cr w E a A cap vc q t gc cc n cl w1) {j : Nat} {x : Int} (hj : cl[j]? = some x) : w1.cell? ⟨gc, j, none⟩ = some (.int .i64 x) ∧ ∀ o, w1.frozen? ⟨gc, o, none⟩ = false := by
  have hlt := (List.getElem?_eq_some_iff.1 hj).1
  have hl := h.len
  refine ⟨?_, fun o => World.ownsRow.frozenAt h.own o⟩
  rw [World.ownsRow.cellAt h.own j (by omega), List.getElem?_map, hj]; rfl
theorem Cr.drew (h : Cr w E a A cap vc q t gc cc n cl w1) : Cr w E a A cap vc q t gc cc n cl w1.drew := ⟨h.tg.drew, h.own, h.len, h.kp.drew, h.ge, h.gE, h.nv⟩
theorem Cr.drewN (h : Cr w E a A cap vc q t gc cc n cl w1) (k : Nat) : Cr w E a A cap vc q t gc cc n cl (w1.drewN k) := ⟨h.tg.drewN k, h.own, h.len, h.kp.drewN k, h.ge, h.gE, h.nv⟩
theorem Cr.put (h : Cr w E a A cap vc q t gc cc n cl w1) (j : Nat) (x : Int) : Cr w E a A cap vc q t gc cc n (cl.set j x) (w1.setCell ⟨gc, j, none⟩ (.int .i64 x)) :=
  ⟨h.tg.keeps (G := fun g => g = gc) ((Keeps.refl _ w1).set _ _ (.inl rfl)) (fun g e => by rw [e]; exact h.gE) h.na (fun g e e' => h.nv (by rw [← e']; exact e)),
   by have := (World.ownsRow.stored h.own j (encN x)).1; rw [List.map_set]; exact this, by rw [List.length_set]; exact h.len, h.kp.set _ _ (.inr h.ge), h.ge, h.gE, h.nv⟩
theorem Cr.vis (h : Cr w E a A cap vc q t gc cc n cl w1) (v' : Bool) : Cr w E a A cap vc q ⟨t.c, t.k, v'⟩ gc cc n cl (w1.setCell ⟨a, 3, none⟩ (.bool v')) :=
  ⟨h.tg.set3 neR v', owns_keeps (F := fun g => g = a) h.own ((Keeps.refl _ w1).set _ _ (.inl rfl)) (fun g hg e' => h.na (by rw [← e']; cases hg; rfl)), h.len, h.kp.set _ _ (.inl rfl), h.ge, h.gE, h.nv⟩
/-- 't.Credits = c'. -/
theorem Cr.fin (h : Cr w E a A cap vc q t gc cc n cl w1) :
    Tg 34 (w1.setCell ⟨a, 1, none⟩ (.slice (some ⟨gc, 0, none⟩) n cc)) E a A cap (.slice (some ⟨gc, 0, none⟩) n cc) q ⟨cl, t.k, t.v⟩ ∧ Keeps (fun g => g = a) w (w1.setCell ⟨a, 1, none⟩ (.slice (some ⟨gc, 0, none⟩) n cc)) := by
  refine ⟨⟨by rw [heap_set_same h.tg.blk]; rfl, ?_, h.tg.rd.keeps (G := fun g => g = a) ((Keeps.refl _ w1).set _ _ (.inl rfl)) (fun g e => h.tg.inE g (.inl e)), fun g hg => ?_⟩, h.kp.set _ _ (.inl rfl)⟩
  · have := owns_keeps (F := fun g => g = a) h.own ((Keeps.refl _ w1).set ⟨a, 1, none⟩ (.slice (some ⟨gc, 0, none⟩) n cc) (.inl rfl)) (fun g hg e' => h.na (by rw [← e']; cases hg; rfl))
    simp only
    rw [h.len]
    exact own_base this (Nat.zero_le _)
  · rcases hg with rfl | hg
    · exact h.tg.inE _ (.inl rfl)
    · cases hg; exact h.gE
theorem Cr.on (h : Cr w E a A cap vc q t gc cc n cl w1) (p : Nat) :
    Tg 34 (((w1.setCell ⟨a, 1, none⟩ (.slice (some ⟨gc, 0, none⟩) n cc)).setCell ⟨a, 2, none⟩ (.int .i64 (p : Nat))).setCell ⟨a, 3, none⟩ (.bool false)) E a A cap (.slice (some ⟨gc, 0, none⟩) n cc) q ⟨cl, p, false⟩ ∧
      Keeps (fun g => g = a) w (((w1.setCell ⟨a, 1, none⟩ (.slice (some ⟨gc, 0, none⟩) n cc)).setCell ⟨a, 2, none⟩ (.int .i64 (p : Nat))).setCell ⟨a, 3, none⟩ (.bool false)) :=
  ⟨(h.fin.1.set2 neR p).set3 neR false, (h.fin.2.set _ _ (.inl rfl)).set _ _ (.inl rfl)⟩
/-- 'c := append([]int{}, t.Credits...)'. -/
theorem cr_start (h : Tg 34 wr E a A cap vc q t) (k : Keeps (fun g => g = a) w wr) (hn : t.c.length = n) (n1 : 1 ≤ n) (n4 : n ≤ 4) (hE : ∀ g, w.heap.size ≤ g → E g) :
    ∃ A2 c2, vc = .slice A2 n c2 ∧ ∃ gc cc w1, (Builtin.append_ #[22, 22] 22 #[.slice (some ⟨wr.heap.size, 0, none⟩) 0 0, .slice A2 n c2]).run Try.prog (wr.alloc (.cells #[] 3)) = .ok (.slice (some ⟨gc, 0, none⟩) n cc) w1 ∧
      Cr w E a A cap vc q t gc cc n t.c w1 := by
  subst hn
  obtain ⟨A2, c2, rfl, rd⟩ := owns_rdq (E := fun _ => False) h.row (fun _ _ e => e)
  have b0 : Below wr.heap.size wr (wr.alloc (.cells #[] 3)) := bel_alloc (Below.refl _ _) _
  obtain ⟨A1, c1, w1, r1, o1, g1, _⟩ := grow_ints (base := wr.heap.size) (World.ownsRow_made wr #[] 0 (Nat.le_refl _) (by simp) (by simp)) (rd.still b0) (by omega) b0.size
  have b1 : Below wr.heap.size wr w1 := b0.grown g1 b0.size (fun k hk => by cases hk; exact Nat.le_refl _)
  refine ⟨A2, c2, rfl, ?_⟩
  obtain ⟨gc, cc, e⟩ : ∃ gc cc, Value.slice A1 t.c.length c1 = .slice (some ⟨gc, 0, none⟩) t.c.length cc := by
    rcases o1.2 with ⟨_, e⟩ | ⟨g, c, cur, e, _⟩
    · omega
    · exact ⟨g, c, e⟩
  rw [e] at r1 o1
  have ge := (World.ownsRow.lt o1 gc rfl).1
  have sz := k.size
  refine ⟨gc, cc, w1, r1, ⟨h.still b1, own_base o1 sz, rfl, k.trans (Keeps.of_below b1 (Nat.le_refl _) (fun _ => False)) (fun g e => e.elim), by omega, hE gc (by omega), fun e' => ?_⟩⟩
  have := (World.ownsRow.lt h.row gc e').2
  omega
end
end Go.Proofs.Ytjlmefjgolbfiaa
