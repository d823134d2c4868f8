/-
  Layer 12 (deficit): the program's turns and the document's side by side.
-/
import Derived.Test.YtjlmefjgolbfiaaDeficitRefPick
import Derived.Test.YtjlmefjgolbfiaaDeficitUp
import Derived.Test.YtjlmefjgolbfiaaRowsQ
import Derived.Deep.RegionHeld
namespace Go.Proofs.Ytjlmefjgolbfiaa
open Go.ChangeShapes Go.WideShapes Go.ChangeAt Go.RowKit Go.Deep
set_option linter.unusedVariables false

theorem takeWanted {P : Program} {md : Region.Mode} {ops : Array Oper} {Q : Exit → Act → World → Prop} {S : World → Prop} (i d : Nat) {oi : Oper} {v : Value} {fuel : Nat} {listed : Array Bool} {a : Act} {w : World} (hi : ops[i]? = some oi) (hd : oi.dst = some d)
    (hs : Region.noSelect ops = true) (hf : Region.free md ops listed i = true) (hr : (Region.ready md ops listed).contains i = true)
    (hQ : ∀ c a w, Q (.panic c) (a.put (some d) v) w → Q (.panic c) a w) (hw : Region.wanted oi (yielded ops a.tmps) = true) (hy : ∀ w, S w → (execOp a.eval oi).run P w = .ok (.value v) w) (hS : S w)
    (h : wpAnyH P md ops Q S fuel (listed.setIfInBounds i true) (a.put (some d) v) w) : wpAnyH P md ops Q S (fuel + 1) listed a w := by
  rw [← hd] at hQ h
  exact wpAnyH_take hi hs hf hr hQ (Or.inl ⟨hw, hy⟩) hS h
theorem right_ok {q : List Int} (h : rightB q = true) : Qok q := by
  unfold rightB at h
  simp only [Bool.and_eq_true, Bool.not_eq_true', decide_eq_true_eq, List.any_eq_false] at h
  obtain ⟨⟨h0, h1⟩, h4⟩ := h
  refine ⟨h1, h4, fun i x hx => ?_⟩
  have := h0 x (List.mem_of_getElem? hx)
  simp [inB] at this
  omega
theorem cost_ok {q l : List Int} (h : costB q l = true) : Lok q l := by
  unfold costB at h
  simp only [Bool.and_eq_true, Bool.not_eq_true', decide_eq_true_eq, List.any_eq_false] at h
  obtain ⟨h1, h0⟩ := h
  refine ⟨h1, fun i x hx => ?_⟩
  have := h0 x (List.mem_of_getElem? hx)
  simp [inB] at this
  omega
theorem neq_codes (w : World) (a b : Int) : (binOp .neq 27 (.iface 31 (.int .i64 a)) (.iface 31 (.int .i64 b))).run Try.prog w = .ok (.bool (!(a == b))) w := by
  obtain ⟨i, hi, hcmp⟩ := Option.map_eq_some_iff.1 compC
  simp only [binOp]
  simp [Op.equal, Op.maxDepth, equalIn_ints (P := Try.prog) w 9998 a b Try.underlying27 Try.underlying31 hi hcmp]
/-- What the law has found amiss with the costs ahead of the i-th. -/
def badB (q l : List Int) (i : Nat) : Bool := !decide (l.length = q.length) || (l.take i).any (inB 0)
theorem badB_next {q l : List Int} {i : Nat} {x : Int} (h : l[i]? = some x) : badB q l (i + 1) = (badB q l i || inB 0 x) := by
  unfold badB
  rw [List.take_add_one, h, List.any_append, Bool.or_assoc]
  simp
theorem badB_all (q l : List Int) : badB q l l.length = !costB q l := by unfold badB costB; rw [List.take_length, Bool.not_and, Bool.not_not]
theorem badB_zero (q l : List Int) : badB q l 0 = !decide (l.length = q.length) := by unfold badB; simp
/-- Both turns, the program's at sp, the document's at sr. -/
structure Lw (W : World) (B gq a b : Nat) (A1 : Option Addr) (cap1 : Nat) (A : Option Addr) (c : Nat) (vc : Value) (q : List Int) (w : World) (sp sr : Tn) (vr : Value) : Prop where
  p : Tg 44 w (Eo B gq) a A1 cap1 vc q sp
  r : Tg 34 w (NewQ W) b A c vr q sr
  okp : Tok q sp
  okr : Tok q sr
  bel : Below W.heap.size W w
  hB : W.heap.size ≤ B
  hgq : gq < w.heap.size
  bE : Eo B gq b
  rE : ∀ g, vr.ownBlock = some g → Eo B gq g
  n1 : a ≠ b
  n2 : vc.ownBlock ≠ some b
  n3 : vr.ownBlock ≠ some a
  n4 : ∀ g, vr.ownBlock = some g → vc.ownBlock ≠ some g
section
variable {W w w' : World} {B gq a b : Nat} {A1 A : Option Addr} {cap1 c : Nat} {vc vr : Value} {q l : List Int} {sp sr s' : Tn} {r : Int}
theorem Lw.still (h : Lw W B gq a b A1 cap1 A c vc q w sp sr vr) (k : Below w.heap.size w w') : Lw W B gq a b A1 cap1 A c vc q w' sp sr vr :=
  ⟨h.p.still k, h.r.still k, h.okp, h.okr, h.bel.trans (k.mono h.bel.size), h.hB, Nat.lt_of_lt_of_le h.hgq k.size, h.bE, h.rE, h.n1, h.n2, h.n3, h.n4⟩
theorem Lw.drew (h : Lw W B gq a b A1 cap1 A c vc q w sp sr vr) : Lw W B gq a b A1 cap1 A c vc q w.drew sp sr vr := h.still (below_drew w)
theorem Lw.pickP (h : Lw W B gq a b A1 cap1 A c vc q w sp sr vr) (t : Tg 44 w' (Eo B gq) a A1 cap1 vc q s') (ok : Tok q s') (m : Mt a vc w w') : Lw W B gq a b A1 cap1 A c vc q w' s' sr vr := by
  have hB := h.hB
  have own : ∀ g, (g = a ∨ vc.ownBlock = some g) → W.heap.size ≤ g := fun g hg => by have := (h.p.inE g hg).1; omega
  exact ⟨t, h.r.keeps m own (fun e => by rcases e with e | e; exact h.n1 e.symm; exact h.n2 e) (fun g hg e => by rcases e with rfl | e; exact h.n3 hg; exact h.n4 g hg e), ok, h.okr,
    h.bel.trans (Keeps.below m own h.bel.size), h.hB, Nat.lt_of_lt_of_le h.hgq m.size, h.bE, h.rE, h.n1, h.n2, h.n3, h.n4⟩
theorem Lw.pickR (h : Lw W B gq a b A1 cap1 A c vc q w sp sr vr) {vr' : Value} (t : Tg 34 w' (NewQ W) b A c vr' q s') (ok : Tok q s') (k : Keeps (fun g => g = b) w w') (at' : ∀ g, vr'.ownBlock = some g → vr.ownBlock = some g ∨ w.heap.size ≤ g) :
    Lw W B gq a b A1 cap1 A c vc q w' sp s' vr' := by
  have hB := h.hB
  have la := h.p.lt
  have ea := (h.p.inE a (.inl rfl)).1
  have lg := h.hgq
  have eb := h.bE.1
  refine ⟨h.p.keeps k (fun g e => by rw [e]; exact h.bE) h.n1 (fun g hg e => h.n2 (by rw [← e]; exact hg)), t, h.okp, ok, h.bel.trans (Keeps.below k (fun g e => by rw [e]; omega) h.bel.size), h.hB, Nat.lt_of_lt_of_le h.hgq k.size, h.bE,
    fun g hg => ?_, h.n1, h.n2, fun hg => ?_, fun g hg hv => ?_⟩
  · rcases at' g hg with e | e
    · exact h.rE g e
    · exact ⟨by omega, by omega⟩
  · rcases at' a hg with e | e
    · exact h.n3 e
    · omega
  · rcases at' g hg with e | e
    · exact h.n4 g e hv
    · have := (World.ownsRow.lt h.p.row g hv).2
      omega
theorem Lw.start {w2 : World} (hB : W.heap.size ≤ B) (t : Tg 44 w2 (Eo B gq) a A1 cap1 vc q ⟨List.replicate q.length 0, 0, false⟩) (hq : Qok q) (bel : Below W.heap.size W w2) (hgq : gq < w2.heap.size) (rq : RdQ W (NewQ W) A c q) :
    Lw W B gq a (w2.heap.size + 1) A1 cap1 A c vc q ((w2.alloc (.cells (zs q.length) 3)).alloc (.cells #[.slice A q.length c, .slice (some ⟨w2.heap.size, 0, none⟩) q.length q.length, .int .i64 0, .bool false] 34))
      ⟨List.replicate q.length 0, 0, false⟩ ⟨List.replicate q.length 0, 0, false⟩ (.slice (some ⟨w2.heap.size, 0, none⟩) q.length q.length) := by
  have b1 : Below w2.heap.size w2 (w2.alloc (.cells (zs q.length) 3)) := bel_alloc (Below.refl _ _) _
  have b2 : Below w2.heap.size w2 ((w2.alloc (.cells (zs q.length) 3)).alloc (.cells #[.slice A q.length c, .slice (some ⟨w2.heap.size, 0, none⟩) q.length q.length, .int .i64 0, .bool false] 34)) := bel_alloc b1 _
  have s1 : (w2.alloc (.cells (zs q.length) 3)).heap.size = w2.heap.size + 1 := by simp
  have own := World.ownsRow.alloc (make_zeros w2 hq.n4).2 (.cells #[.slice A q.length c, .slice (some ⟨w2.heap.size, 0, none⟩) q.length q.length, .int .i64 0, .bool false] 34)
  have bl := bel.size
  have la := t.lt
  have ea := (t.inE a (.inl rfl)).1
  have blk := heap_alloc_new (w2.alloc (.cells (zs q.length) 3)) (.cells #[.slice A q.length c, .slice (some ⟨w2.heap.size, 0, none⟩) q.length q.length, .int .i64 0, .bool false] 34)
  rw [s1] at blk
  refine ⟨t.still b2, ⟨blk, ?_, (rq.still bel).still b2, fun g hg => ?_⟩, new_tok hq, new_tok hq, bel.trans (b2.mono bl), hB, Nat.lt_of_lt_of_le hgq b2.size, ⟨by omega, by omega⟩, fun g hg => ?_, by omega, fun e => ?_, fun e => ?_, fun g hg hv => ?_⟩
  · simp only [List.length_replicate]
    exact own_base own (Nat.zero_le _)
  · unfold NewQ
    rcases hg with rfl | hg
    · omega
    · cases hg; exact bl
  · simp only [Value.ownBlock, Option.some.injEq] at hg
    exact ⟨by omega, by omega⟩
  · have := (World.ownsRow.lt t.row _ e).2
    omega
  · simp only [Value.ownBlock, Option.some.injEq] at e
    omega
  · simp only [Value.ownBlock, Option.some.injEq] at hg
    have := (World.ownsRow.lt t.row _ hv).2
    omega
/-- One pick, of costs that may be. -/
theorem pick_good (h : Lw W B gq a b A1 cap1 A c vc q w sp sr vr) {C : Option Addr} {cc : Nat} (hl : RdQ w (NewQ W) C cc l) (lok : Lok q l) (pk : Picks q l sp r s') (ok' : Tok q s') :
    Calls Try.prog 7 #[.pointer (some ⟨a, 0, none⟩), .slice C l.length cc] w fun e w' => e = .returned (.tuple #[.int .i64 r, .nilIface]) ∧ Lw W B gq a b A1 cap1 A c vc q w' s' sr vr := by
  have hl' : RdQ w (Eo B gq) C cc l := hl.less (fun g hg _ => Nat.le_trans h.hB hg.1)
  rcases pk with ⟨hz, rfl, rfl⟩ | ⟨hp, rfl, n, hg⟩
  · refine (pick_none h.p h.okp hl' lok hz).mono ?_
    rintro e w' ⟨rfl, t, m⟩
    exact ⟨rfl, h.pickP t ok' m⟩
  · refine (pick_some h.p h.okp hl' lok hp hg).mono ?_
    rintro e w' ⟨rfl, t, m⟩
    exact ⟨rfl, h.pickP t ok' m⟩
theorem ref_good (h : Lw W B gq a b A1 cap1 A c vc q w sp sr vr) {C : Option Addr} {cc : Nat} (hl : RdQ w (NewQ W) C cc l) (lok : Lok q l) (pk : Picks q l sr r s') (ok' : Tok q s') :
    Calls Try.prog 8 #[.pointer (some ⟨b, 0, none⟩), .slice C l.length cc] w fun e w' => e = .returned (.int .i64 r) ∧ ∃ vr', Lw W B gq a b A1 cap1 A c vc q w' sp s' vr' := by
  have hE : ∀ g, w.heap.size ≤ g → NewQ W g := fun g hg => Nat.le_trans h.bel.size hg
  rcases pk with ⟨hz, rfl, rfl⟩ | ⟨hp, rfl, n, hg⟩
  · refine (ref_none h.r h.okr hl lok hz hE).mono ?_
    rintro e w' ⟨rfl, vr', t, k, o⟩
    exact ⟨rfl, vr', h.pickR t ok' k o⟩
  · refine (ref_some h.r h.okr hl lok hp hg hE).mono ?_
    rintro e w' ⟨rfl, vr', t, k, o⟩
    exact ⟨rfl, vr', h.pickR t ok' k o⟩
/-- The document's pick, then both credits, held against each other. -/
theorem ref_three (h : Lw W B gq a b A1 cap1 A c vc q w s' sr vr) {C : Option Addr} {cc : Nat} (hl : RdQ w (NewQ W) C cc l) (lok : Lok q l) (pk : Picks q l sr r s') (ok' : Tok q s') :
    Calls Try.prog 8 #[.pointer (some ⟨b, 0, none⟩), .slice C l.length cc] w fun e w5 => e = .returned (.int .i64 r) ∧ ∃ vr' A5 c5, Lw W B gq a b A1 cap1 A c vc q w5 s' s' vr' ∧
      (∀ w6, Below w5.heap.size w5 w6 → w6.cell? ⟨b, 1, none⟩ = some (.slice A5 q.length c5)) ∧
      Calls Try.prog 10 #[.pointer (some ⟨a, 0, none⟩)] w5 fun e w6 => ∃ A6 c6, e = .returned (.slice A6 q.length c6) ∧ Below w5.heap.size w5 w6 ∧
        Calls Try.prog 9 #[.slice A6 q.length c6, .slice A5 q.length c5] w6 fun e w7 => e = .returned (.bool true) ∧ ∃ n, w7 = w6.drewN n := by
  refine (ref_good h hl lok pk ok').mono ?_
  rintro e w5 ⟨rfl, vr', l5⟩
  obtain ⟨A5, c5, rfl, rd5⟩ := owns_rdq (E := fun _ => False) l5.r.row (fun _ _ e => e)
  have hlen := ok'.len
  have h4 := ok'.ok.n4
  refine ⟨rfl, _, A5, c5, l5, fun w6 k => by have := (l5.r.still k).c1; rw [hlen] at this; exact this, ?_⟩
  refine (credits_walk l5.p ok').mono ?_
  rintro e w6 ⟨v, rfl, o6, k6⟩
  obtain ⟨A6, c6, rfl, rd6⟩ := owns_rdq (E := fun _ => False) o6 (fun _ _ e => e)
  rw [← hlen]
  exact ⟨A6, c6, rfl, k6, ints_walk rd6 (rd5.still k6) (by omega)⟩
end
end Go.Proofs.Ytjlmefjgolbfiaa
