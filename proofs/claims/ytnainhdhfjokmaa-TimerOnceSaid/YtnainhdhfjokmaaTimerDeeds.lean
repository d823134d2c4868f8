/-
  Layer 13 (timer): the law's state: a queue of its own beside a row of its own, and a deed; two that are due held against each other; the row grown, and one taken out of it.
-/
import Derived.Test.YtnainhdhfjokmaaTimerUp
import Derived.Laws.StructEq
namespace Go.Proofs.Ytnainhdhfjokmaa
open Go.ChangeShapes Go.WideShapes Go.ChangeAt Go.RowKit Go.Shelf
set_option linter.unusedVariables false

theorem neq_codes (w : World) (a b : Int) : (binOp .neq 31 (.iface 33 (.int .i64 a)) (.iface 33 (.int .i64 b))).run Try.prog w = .ok (.bool (!(a == b))) w := by
  obtain ⟨i, hi, hcmp⟩ := Option.map_eq_some_iff.1 compC
  simp only [binOp]
  simp [Op.equal, Op.maxDepth, equalIn_ints (P := Try.prog) w 9998 a b Try.underlying31 Try.underlying33 hi hcmp]
theorem stoodD : Try.prog.stoodInHeld 35 = false := by kernel_rfl
theorem eqgD : Try.prog.eqGuardType Try.prog.depth 35 = false := by kernel_rfl
/-- The law's state: a queue, a row of what is set, and a deed in a block of its own. -/
structure Ps (W w : World) (F : Nat → Prop) (a : Nat) (L : List Du) (v : Value) (l : List Du) : Prop where
  bel : Below W.heap.size W w
  q : Qu w F a L
  r : OwnD w 0 v l
  fN : ∀ g, F g → W.heap.size ≤ g
  rN : ∀ g, v.ownBlock = some g → W.heap.size ≤ g
  ap : ∀ g, v.ownBlock = some g → ¬ F g
/-- .. a block that stays: none of these. -/
structure Aside2 (w : World) (F : Nat → Prop) (v : Value) (xb : Nat) (o : Obj) : Prop where
  blk : w.heap[xb]? = some o
  nF : ¬ F xb
  nv : v.ownBlock ≠ some xb
section
variable {W w w' : World} {F F' : Nat → Prop} {a xb : Nat} {L L' l l' : List Du} {v v' : Value} {o : Obj}
theorem Ps.still (h : Ps W w F a L v l) (b : Below w.heap.size w w') : Ps W w' F a L v l :=
  ⟨h.bel.trans (b.mono h.bel.size), h.q.still b, h.r.keeps (Keeps.of_below b (Nat.le_refl _) (fun _ => False)) (fun _ _ e => e), h.fN, h.rN, h.ap⟩
theorem Ps.rlt (h : Ps W w F a L v l) {g : Nat} (hg : v.ownBlock = some g) : g < w.heap.size := (h.r.block hg).2.1
theorem Ps.turn (h : Ps W w F a L v l) (q' : Qu w' F' a L') (m : Mv8 w F w' F') : Ps W w' F' a L' v l :=
  ⟨h.bel.trans (m.keeps.below h.fN h.bel.size), q', h.r.keeps m.keeps h.ap, fun g hg => by
    rcases m.own g hg with e | e
    · exact h.fN g e
    · have := h.bel.size; omega, h.rN, fun g hg hF => by
    rcases m.own g hF with e | e
    · exact h.ap g hg e
    · have := h.rlt hg; omega⟩
theorem Ps.row (h : Ps W w F a L v l) (b : Below w.heap.size w w') (r' : OwnD w' w.heap.size v' l') : Ps W w' F a L v' l' :=
  ⟨h.bel.trans (b.mono h.bel.size), h.q.still b, r'.less (Nat.zero_le _), h.fN, fun g hg => by have := (r'.block hg).1; have := h.bel.size; omega, fun g hg hF => by
    have := (r'.block hg).1; have := h.q.lt hF; omega⟩
theorem Aside2.still (h : Aside2 w F v xb o) (b : Below w.heap.size w w') : Aside2 w' F v xb o := ⟨by rw [b.block xb (lt_of_block h.blk)]; exact h.blk, h.nF, h.nv⟩
theorem Aside2.turn (h : Aside2 w F v xb o) (m : Mv8 w F w' F') : Aside2 w' F' v xb o :=
  ⟨keeps_out m.keeps h.blk h.nF, fun e => by
    rcases m.own xb e with e | e
    · exact h.nF e
    · have := lt_of_block h.blk; omega, h.nv⟩
theorem Aside2.row (h : Aside2 w F v xb o) (b : Below w.heap.size w w') (r' : OwnD w' w.heap.size v' l') : Aside2 w' F v' xb o :=
  ⟨(h.still b).blk, h.nF, fun e => by have := (r'.block e).1; have := lt_of_block h.blk; omega⟩
/-- A block that is laid now. -/
theorem Ps.aside (h : Ps W w F a L v l) (o : Obj) : Aside2 (w.alloc o) F v w.heap.size o :=
  ⟨heap_alloc_new w o, fun e => by have := h.q.lt e; omega, fun e => by have := h.rlt e; omega⟩
/-- A row grown by one: which of the two blocks is laid first, and when. -/
structure GrD (w w1 w2 wa wb : World) (A A1 A2 : Option Addr) (cap c1 c2 ge go n : Nat) (l : List Du) (x : Du) : Prop where
  r1 : (Builtin.append_ #[26, 26] 26 #[.slice (some ⟨ge, 0, none⟩) 0 0, .slice A n cap]).run Try.prog wa = .ok (.slice A1 n c1) w1
  b1 : Below w.heap.size w w1
  r2 : (Builtin.append_ #[26, 26] 26 #[.slice A1 n c1, .slice (some ⟨go, 0, none⟩) 1 1]).run Try.prog wb = .ok (.slice A2 (n + 1) c2) w2
  b2 : Below w.heap.size w w2
  own : OwnD w2 w.heap.size (.slice A2 (n + 1) c2) (l ++ [x])
def noObj : Obj := .cells #[] 35
theorem bel_alloc {B : Nat} (h : Below B w w') (hB : B ≤ w'.heap.size) (o : Obj) : Below B w (w'.alloc o) := h.alloc hB o
theorem own_none (w : World) {base : Nat} (hb : base ≤ w.heap.size) : OwnD (w.alloc noObj) base (.slice (some ⟨w.heap.size, 0, none⟩) 0 0) [] := World.ownsRow_made w #[] 0 hb (by simp) (by simp)
theorem own_still {base : Nat} (h : OwnD w base v l) (b : Below w.heap.size w w') : OwnD w' base v l := h.keeps (Keeps.of_below b (Nat.le_refl _) (fun _ => False)) (fun _ _ e => e)
theorem src_shape {A : Option Addr} {n cap : Nat} {base : Nat} (h : OwnD w base (.slice A n cap) l) : SrcD w A cap l ∧ l.length = n := by
  obtain ⟨A', c', e, hs, _⟩ := h.src
  cases e
  exact ⟨hs, rfl⟩
theorem own_shape {base n : Nat} (h : OwnD w base v l) (hn : l.length = n) : ∃ A c, v = .slice A n c := by
  obtain ⟨A', c', e, _, _⟩ := h.src
  rw [hn] at e
  exact ⟨A', c', e⟩
/-- 'append(append([]Due{}, l...), x)', in two steps. -/
theorem gr_one {wa : World} {A : Option Addr} {n cap : Nat} {base g : Nat} (own : OwnD wa base (.slice (some ⟨g, 0, none⟩) 0 0) []) (h : SrcD wa A cap l) (hn : l.length = n) (hl : n ≤ 1000) (hb : base ≤ wa.heap.size) :
    ∃ A1 c1 w1, (Builtin.append_ #[26, 26] 26 #[.slice (some ⟨g, 0, none⟩) 0 0, .slice A n cap]).run Try.prog wa = .ok (.slice A1 n c1) w1 ∧ OwnD w1 base (.slice A1 n c1) l ∧ wa.grownBy w1 (some g) := by
  subst hn
  obtain ⟨v', w', hrun, hown, hgr, _⟩ := ownD_app own h (by simp; omega) hb
  rw [List.nil_append] at hown
  obtain ⟨A1, c1, rfl⟩ := own_shape hown rfl
  exact ⟨A1, c1, w', hrun, hown, hgr⟩
theorem gr_two {wb : World} {A1 : Option Addr} {n c1 : Nat} {base : Nat} {A : Option Addr} {m cap : Nat} {M : List Du} (own : OwnD wb base (.slice A1 n c1) l) (h : SrcD wb A cap M) (hm : M.length = m) (hl : n + m ≤ 1000) (hb : base ≤ wb.heap.size) :
    ∃ A2 c2 w2, (Builtin.append_ #[26, 26] 26 #[.slice A1 n c1, .slice A m cap]).run Try.prog wb = .ok (.slice A2 (n + m) c2) w2 ∧ OwnD w2 base (.slice A2 (n + m) c2) (l ++ M) ∧ wb.grownBy w2 (Value.slice A1 n c1).ownBlock := by
  obtain ⟨_, hn⟩ := src_shape own
  subst hm
  obtain ⟨v', w', hrun, hown, hgr, _⟩ := ownD_app own h (by omega) hb
  obtain ⟨A2, c2, rfl⟩ := own_shape hown (n := n + M.length) (by rw [List.length_append, hn])
  exact ⟨A2, c2, w', hrun, hown, hgr⟩
theorem size_new (w : World) (o : Obj) : (w.alloc o).heap.size = w.heap.size + 1 := by simp
section
variable {A : Option Addr} {n cap : Nat}
theorem grA (h : OwnD w 0 (.slice A n cap) l) (hl : n < 1000) (x : Du) :
    ∃ A1 c1 w1 A2 c2 w2, GrD w w1 w2 (w.alloc noObj) (w1.alloc (oneObj x)) A A1 A2 cap c1 c2 w.heap.size w1.heap.size n l x := by
  have b0 : Below w.heap.size w (w.alloc noObj) := bel_alloc (Below.refl _ _) (Nat.le_refl _) _
  obtain ⟨hs, hn⟩ := src_shape h
  obtain ⟨A1, c1, w1, r1, o1, g1⟩ := gr_one (own_none w (Nat.le_refl _)) (hs.still b0) hn (by omega) b0.size
  have b1 : Below w.heap.size w w1 := b0.grown g1 b0.size (fun k hk => by cases hk; exact Nat.le_refl _)
  have b1' : Below w.heap.size w (w1.alloc (oneObj x)) := bel_alloc b1 b1.size _
  obtain ⟨A2, c2, w2, r2, o2, g2⟩ := gr_two (own_still o1 (bel_alloc (Below.refl _ _) (Nat.le_refl _) _)) (one_new w1 x).src rfl (by simp; omega) b1'.size
  exact ⟨A1, c1, w1, A2, c2, w2, r1, b1, r2, b1'.grown g2 b1'.size (fun k hk => (o1.block hk).1), o2⟩
theorem grB (h : OwnD w 0 (.slice A n cap) l) (hl : n < 1000) (x : Du) :
    ∃ A1 c1 w1 A2 c2 w2, GrD w w1 w2 ((w.alloc noObj).alloc (oneObj x)) w1 A A1 A2 cap c1 c2 w.heap.size (w.heap.size + 1) n l x := by
  have b0 : Below w.heap.size w (w.alloc noObj) := bel_alloc (Below.refl _ _) (Nat.le_refl _) _
  have b0' : Below w.heap.size w ((w.alloc noObj).alloc (oneObj x)) := bel_alloc b0 b0.size _
  obtain ⟨hs, hn⟩ := src_shape h
  obtain ⟨A1, c1, w1, r1, o1, g1⟩ := gr_one (own_still (own_none w (Nat.le_refl _)) (bel_alloc (Below.refl _ _) (Nat.le_refl _) (oneObj x))) (hs.still b0') hn (by omega) b0'.size
  have b1 : Below w.heap.size w w1 := b0'.grown g1 b0'.size (fun k hk => by cases hk; exact Nat.le_refl _)
  have x1 : One w1 (w.heap.size + 1) x := by
    have h0 := one_new (w.alloc noObj) x
    rw [size_new] at h0
    unfold One at h0 ⊢
    rw [g1.block _ (by rw [size_new, size_new]; omega) (by simp)]
    exact h0
  obtain ⟨A2, c2, w2, r2, o2, g2⟩ := gr_two o1 x1.src rfl (by simp; omega) b1.size
  exact ⟨A1, c1, w1, A2, c2, w2, r1, b1, r2, b1.grown g2 b1.size (fun k hk => (o1.block hk).1), o2⟩
theorem grC (h : OwnD w 0 (.slice A n cap) l) (hl : n < 1000) (x : Du) :
    ∃ A1 c1 w1 A2 c2 w2, GrD w w1 w2 ((w.alloc (oneObj x)).alloc noObj) w1 A A1 A2 cap c1 c2 (w.heap.size + 1) w.heap.size n l x := by
  have b0 : Below w.heap.size w (w.alloc (oneObj x)) := bel_alloc (Below.refl _ _) (Nat.le_refl _) _
  have b0' : Below w.heap.size w ((w.alloc (oneObj x)).alloc noObj) := bel_alloc b0 b0.size _
  obtain ⟨hs, hn⟩ := src_shape h
  have own := own_none (w.alloc (oneObj x)) (base := w.heap.size) b0.size
  rw [size_new] at own
  obtain ⟨A1, c1, w1, r1, o1, g1⟩ := gr_one own (hs.still b0') hn (by omega) b0'.size
  have b1 : Below w.heap.size w w1 := b0'.grown g1 b0'.size (fun k hk => by cases hk; omega)
  have x1 : One w1 w.heap.size x := by
    have h0 := one_new w x
    unfold One at h0 ⊢
    rw [g1.block _ (by rw [size_new, size_new]; omega) (by simp), heap_alloc_old _ _ (by rw [size_new]; omega)]
    exact h0
  obtain ⟨A2, c2, w2, r2, o2, g2⟩ := gr_two o1 x1.src rfl (by simp; omega) b1.size
  exact ⟨A1, c1, w1, A2, c2, w2, r1, b1, r2, b1.grown g2 b1.size (fun k hk => (o1.block hk).1), o2⟩
/-- 'append(append([]Due{}, l[:b]...), l[b+1:]...)'. -/
theorem cut_one (h : OwnD w 0 (.slice A n cap) l) (hl : n ≤ 1000) {b : Nat} (hb : b < n) :
    ∃ A9 c9 A1 c1 w1 A2 c2 w2, (∀ w, (Instr.slice 26 (.slice A n cap) none (some (.int .i64 (b : Int))) none).run Try.prog w = .ok (.slice A b cap) w) ∧
      (∀ w, (Instr.slice 26 (.slice A n cap) (some (.int .i64 ((b : Int) + 1))) none none).run Try.prog w = .ok (.slice A9 (n - (b + 1)) c9) w) ∧
      (Builtin.append_ #[26, 26] 26 #[.slice (some ⟨w.heap.size, 0, none⟩) 0 0, .slice A b cap]).run Try.prog (w.alloc noObj) = .ok (.slice A1 b c1) w1 ∧
      (Builtin.append_ #[26, 26] 26 #[.slice A1 b c1, .slice A9 (n - (b + 1)) c9]).run Try.prog w1 = .ok (.slice A2 (n - 1) c2) w2 ∧
      Below w.heap.size w w1 ∧ Below w.heap.size w w2 ∧ OwnD w2 w.heap.size (.slice A2 (n - 1) c2) (dropAt l b) := by
  have b0 : Below w.heap.size w (w.alloc noObj) := bel_alloc (Below.refl _ _) (Nat.le_refl _) _
  obtain ⟨hs, hn⟩ := src_shape h
  have hle := hs.le
  have htl : (l.take b).length = b := by rw [List.length_take]; omega
  have hdl : (l.drop (b + 1)).length = n - (b + 1) := by rw [List.length_drop, hn]
  obtain ⟨A9, s2, hs2, _⟩ := sliceD_from A cap l (b + 1) (by omega) hle hs.nn
  rw [hn, hdl, show ((b + 1 : Nat) : Int) = (b : Int) + 1 by omega] at s2
  obtain ⟨A1, c1, w1, r1, o1, g1⟩ := gr_one (own_none w (Nat.le_refl _)) ((hs.take b).still b0) htl (by omega) b0.size
  have b1 : Below w.heap.size w w1 := b0.grown g1 b0.size (fun k hk => by cases hk; exact Nat.le_refl _)
  obtain ⟨A2, c2, w2, r2, o2, g2⟩ := gr_two o1 ((hs2 w hs).still b1) hdl (by omega) b1.size
  rw [show b + (n - (b + 1)) = n - 1 by omega] at r2 o2
  exact ⟨A9, _, A1, c1, w1, A2, c2, w2, sliceD_to A n cap b (by omega) hs.nn, s2, r1, r2, b1, b1.grown g2 b1.size (fun k hk => (o1.block hk).1), o2⟩
end
end
end Go.Proofs.Ytnainhdhfjokmaa
