/-
  Layer 24 (sender), the pure part: a sender as a step.
  Layer 24 (sender): a sender in memory, over its spill, its wait and its fuse.
  Layer 24 (sender): isOutcome, came, failed, At, Try.
  Layer 24 (sender): Try.
  Layer 24 (sender): New; a sender of the call's own.
  Layer 24, of no program: batches without rows, that begin at the same tick, put one after another; what is at the head.
  Layer 24: the head of its laws: the document's example; the ways of a Try.
  Layer 24: the spill that its laws open on an empty disk.
  A list of structs of a bool, an int64 and two ints that is handed in, of any type.
-/
import Derived.Test.YtgeahpfdaehjaaaGreatDoorGrpL
import Derived.Test.YtgeahpfdaehjaaaGreatDoorGrpO
import Derived.Test.YtgeahpfdaehjaaaGreatDoorQSpillOps
import Derived.Test.YtgeahpfdaehjaaaGreatDoorGrpA
import Derived.OwnWalk
import Derived.Deep.Fields
namespace Go.Proofs.YtgeahpfdaehjaaaGreatDoor
set_option linter.unusedVariables false

/-- Its numbers: the spill's, the wait's, the fuse's. -/
structure Nz where
  rm : Nat
  many : Int
  room : Int
  b : Int
  l : Int
  f : Int
  p : Int
/-- What it is: the tick ahead of which it doesn't try, how many failures in a row, its fuse, the spill's head and parts. -/
structure Zs where
  tk : Int
  n : Nat
  s : Fz
  head : Int
  G : List Sg
structure ZOk (c : Nz) (z : Zs) : Prop where
  sp : SOk c.rm c.many c.room z.head z.G
  gb : GoodB c.b c.l
  gf : GoodF c.f c.p
  fz : FzOk c.f z.s
  t0 : 0 ≤ z.tk
  t1 : z.tk ≤ 1099512627776
/-- What may be asked. -/
def ArgZ (now out : Int) : Prop := WiF now ∧ 0 ≤ out ∧ out ≤ 3
instance (now out : Int) : Decidable (ArgZ now out) := inferInstanceAs (Decidable (_ ∧ _))
/-- Is one sent? -/
def GoZ (c : Nz) (z : Zs) (now : Int) : Prop := z.head < nxG z.G ∧ ¬ now < z.tk ∧ YesF c.p z.s now
instance (c : Nz) (z : Zs) (now : Int) : Decidable (GoZ c z now) := inferInstanceAs (Decidable (_ ∧ _))
/-- The bytes at the head. -/
def headZ (z : Zs) : Rc := (recs z.G)[(z.head - fsG z.G).toNat]?.getD []
def cameZ (c : Nz) (z : Zs) (now : Int) : Zs := ⟨z.tk, 0, goodF (askF c.p z.s now), z.head + 1, trimG z.G (z.head + 1)⟩
def failZ (c : Nz) (z : Zs) (now jit : Int) : Zs := ⟨now + jitZ jit (bwZ c.b c.l z.n), z.n + 1, badF c.f (askF c.p z.s now) now, z.head, z.G⟩
def sendZ (c : Nz) (z : Zs) (now out jit : Int) : Zs :=
  if ArgZ now out ∧ GoZ c z now then (if out = 0 then cameZ c z now else failZ c z now jit) else z
def codeZ (now out : Int) : Nat := if ArgZ now out then 0 else 1
def sentZ (c : Nz) (z : Zs) (now out : Int) : Bool := decide (ArgZ now out ∧ GoZ c z now)
def tellZ (c : Nz) (z : Zs) (now out : Int) : Rc := if ArgZ now out ∧ GoZ c z now then headZ z else []
section
variable {c : Nz} {z : Zs} {now out jit : Int}
theorem ZOk.new {G : List Sg} (g : GoodB c.b c.l) (k : GoodF c.f c.p) (s : SOk c.rm c.many c.room 0 G) : ZOk c ⟨0, 0, Fz.new, 0, G⟩ := ⟨s, g, k, FzOk.new k, Int.le_refl _, by show (0 : Int) ≤ _; omega⟩
theorem ZOk.came (ok : ZOk c z) (h : z.head < nxG z.G) : ZOk c (cameZ c z now) := ⟨ok.sp.ack h, ok.gb, ok.gf, (ok.fz.ask c.p now).good ok.gf, ok.t0, ok.t1⟩
theorem ZOk.fail (ok : ZOk c z) (h : WiF now) : ZOk c (failZ c z now jit) := by
  obtain ⟨h0, h1⟩ := h
  have b := bw_bd ok.gb z.n
  have := ok.gb.b1
  have := ok.gb.l1
  have j := jit_bd (w := bwZ c.b c.l z.n) (by omega) jit
  exact ⟨ok.sp, ok.gb, ok.gf, (ok.fz.ask c.p now).bad ok.gf now, by show 0 ≤ now + _; omega, by show now + _ ≤ _; omega⟩
theorem ZOk.send (ok : ZOk c z) : ZOk c (sendZ c z now out jit) := by
  unfold sendZ
  split
  · rename_i h
    split
    · exact ok.came h.2.1
    · exact ok.fail h.1.1
  · exact ok
theorem ZOk.head (ok : ZOk c z) (h : z.head < nxG z.G) : ∃ k b, (recs z.G)[k]? = some (headZ z) ∧ (headZ z).length ≤ 4096 ∧ z.head = jFirst (ns z.G) + (k : Nat) ∧ getF (headZ z) = some b ∧ b.seq = z.head := by
  obtain ⟨k, r, b, h1, h2, h3, h4, h5⟩ := ok.sp.at h
  have e : headZ z = r := by
    have h6 : jFirst (ns z.G) = fsG z.G := rfl
    unfold headZ
    rw [show (z.head - fsG z.G).toNat = k by omega, h1]
    rfl
  rw [e]
  exact ⟨k, b, h1, h2, h3, h4, h5⟩
/-- The ways of a Try. -/
theorem try_ways (c : Nz) (z : Zs) (now out jit : Int) (ok : ZOk c z) :
    (¬ ArgZ now out ∧ codeZ now out = 1 ∧ sentZ c z now out = false ∧ tellZ c z now out = [] ∧ sendZ c z now out jit = z) ∨
    (ArgZ now out ∧ z.head = nxG z.G ∧ codeZ now out = 0 ∧ sentZ c z now out = false ∧ tellZ c z now out = [] ∧ sendZ c z now out jit = z) ∨
    (ArgZ now out ∧ z.head < nxG z.G ∧ now < z.tk ∧ codeZ now out = 0 ∧ sentZ c z now out = false ∧ tellZ c z now out = [] ∧ sendZ c z now out jit = z) ∨
    (ArgZ now out ∧ z.head < nxG z.G ∧ ¬ now < z.tk ∧ ¬ YesF c.p z.s now ∧ codeZ now out = 0 ∧ sentZ c z now out = false ∧ tellZ c z now out = [] ∧ sendZ c z now out jit = z) ∨
    (ArgZ now out ∧ z.head < nxG z.G ∧ ¬ now < z.tk ∧ YesF c.p z.s now ∧ out = 0 ∧ codeZ now out = 0 ∧ sentZ c z now out = true ∧ tellZ c z now out = headZ z ∧ sendZ c z now out jit = cameZ c z now) ∨
    (ArgZ now out ∧ z.head < nxG z.G ∧ ¬ now < z.tk ∧ YesF c.p z.s now ∧ out ≠ 0 ∧ codeZ now out = 0 ∧ sentZ c z now out = true ∧ tellZ c z now out = headZ z ∧ sendZ c z now out jit = failZ c z now jit) := by
  unfold codeZ sentZ tellZ sendZ
  by_cases a : ArgZ now out
  · by_cases h1 : z.head < nxG z.G
    · by_cases h2 : now < z.tk
      · have n : ¬ (ArgZ now out ∧ GoZ c z now) := fun x => x.2.2.1 h2
        exact .inr (.inr (.inl ⟨a, h1, h2, if_pos a, decide_eq_false n, if_neg n, if_neg n⟩))
      · by_cases h3 : YesF c.p z.s now
        · have y : ArgZ now out ∧ GoZ c z now := ⟨a, h1, h2, h3⟩
          by_cases h4 : out = 0
          · exact .inr (.inr (.inr (.inr (.inl ⟨a, h1, h2, h3, h4, if_pos a, decide_eq_true y, if_pos y, by rw [if_pos y, if_pos h4]⟩))))
          · exact .inr (.inr (.inr (.inr (.inr ⟨a, h1, h2, h3, h4, if_pos a, decide_eq_true y, if_pos y, by rw [if_pos y, if_neg h4]⟩))))
        · have n : ¬ (ArgZ now out ∧ GoZ c z now) := fun x => h3 x.2.2.2
          exact .inr (.inr (.inr (.inl ⟨a, h1, h2, h3, if_pos a, decide_eq_false n, if_neg n, if_neg n⟩)))
    · have n : ¬ (ArgZ now out ∧ GoZ c z now) := fun x => h1 x.2.1
      exact .inr (.inl ⟨a, by have := ok.sp.h1; omega, if_pos a, decide_eq_false n, if_neg n, if_neg n⟩)
  · have n : ¬ (ArgZ now out ∧ GoZ c z now) := fun x => a x.1
    exact .inl ⟨a, if_neg a, decide_eq_false n, if_neg n, if_neg n⟩
theorem send_n (c : Nz) (z : Zs) (now out jit : Int) : (sendZ c z now out jit).n ≤ z.n + 1 := by
  unfold sendZ
  split
  · split
    · show 0 ≤ _; omega
    · exact Nat.le_refl _
  · omega
theorem send_nx (ok : ZOk c z) : nxG (sendZ c z now out jit).G = nxG z.G ∧ (sendZ c z now out jit).G.length ≤ z.G.length := by
  unfold sendZ
  split
  · split
    · exact ⟨(trim_clean z.G (z.head + 1) ok.sp.g.clean (by have := ok.sp.h0; omega)).2.2.1, trim_le _ _⟩
    · exact ⟨rfl, Nat.le_refl _⟩
  · exact ⟨rfl, Nat.le_refl _⟩
end
end Go.Proofs.YtgeahpfdaehjaaaGreatDoor
namespace Go.Proofs.YtgeahpfdaehjaaaGreatDoor
open Go.ChangeShapes Go.WideShapes Go.ChangeAt Go.RowKit
set_option linter.unusedVariables false

def snCells (sp wb fb : Nat) (tk : Int) : Array Value := #[.pointer (some ⟨sp, 0, none⟩), .pointer (some ⟨wb, 0, none⟩), .pointer (some ⟨fb, 0, none⟩), .int .i64 tk]
structure ApN (x wb fb : Nat) : Prop where
  nxw : x ≠ wb
  nxf : x ≠ fb
  nwf : wb ≠ fb
  lx : 6 ≤ x
  lw : 6 ≤ wb
  lf : 6 ≤ fb
/-- A sender's blocks are K. -/
structure Sn (w : World) (K : Nat → Prop) (x sp wb fb ad : Nat) (c : Nz) (z : Zs) : Prop where
  ex : ∃ K0 aj, Sx w K0 sp ad aj c.rm c.many c.room z.head z.G ∧ ¬ K0 x ∧ ¬ K0 wb ∧ ¬ K0 fb ∧ ∀ g, K g ↔ K0 g ∨ g = x ∨ g = wb ∨ g = fb
  blk : w.heap[x]? = some (.cells (snCells sp wb fb z.tk) 88 (0, 0))
  wt : Wp w wb c.b c.l z.n
  fu : Fb 118 w fb c.f c.p z.s
  ap : ApN x wb fb
section
variable {w w' : World} {K : Nat → Prop} {x sp wb fb ad : Nat} {c : Nz} {z : Zs}
theorem Sn.c0 (h : Sn w K x sp wb fb ad c z) : w.cell? ⟨x, 0, none⟩ = some (.pointer (some ⟨sp, 0, none⟩)) := cell_of_block h.blk
theorem Sn.c1 (h : Sn w K x sp wb fb ad c z) : w.cell? ⟨x, 1, none⟩ = some (.pointer (some ⟨wb, 0, none⟩)) := cell_of_block h.blk
theorem Sn.c2 (h : Sn w K x sp wb fb ad c z) : w.cell? ⟨x, 2, none⟩ = some (.pointer (some ⟨fb, 0, none⟩)) := cell_of_block h.blk
theorem Sn.c3 (h : Sn w K x sp wb fb ad c z) : w.cell? ⟨x, 3, none⟩ = some (.int .i64 z.tk) := cell_of_block h.blk
theorem Sn.fr (h : Sn w K x sp wb fb ad c z) (o : Nat) : w.frozen? ⟨x, o, none⟩ = false := frozen_of_block h.blk
theorem Sn.kx (h : Sn w K x sp wb fb ad c z) : K x := by obtain ⟨K0, aj, _, _, _, _, hk⟩ := h.ex; exact (hk x).2 (.inr (.inl rfl))
theorem Sn.kw (h : Sn w K x sp wb fb ad c z) : K wb := by obtain ⟨K0, aj, _, _, _, _, hk⟩ := h.ex; exact (hk wb).2 (.inr (.inr (.inl rfl)))
theorem Sn.kf (h : Sn w K x sp wb fb ad c z) : K fb := by obtain ⟨K0, aj, _, _, _, _, hk⟩ := h.ex; exact (hk fb).2 (.inr (.inr (.inr rfl)))
theorem Sn.laid (h : Sn w K x sp wb fb ad c z) : Laid w := by obtain ⟨K0, aj, s, _⟩ := h.ex; exact s.laid
theorem Sn.lo (h : Sn w K x sp wb fb ad c z) : ∀ g, K g → 6 ≤ g := by
  obtain ⟨K0, aj, s, _, _, _, hk⟩ := h.ex
  intro g hg
  rcases (hk g).1 hg with e | rfl | rfl | rfl
  · exact s.lo g e
  · exact h.ap.lx
  · exact h.ap.lw
  · exact h.ap.lf
theorem Sn.lt (h : Sn w K x sp wb fb ad c z) : ∀ g, K g → g < w.heap.size := by
  obtain ⟨K0, aj, s, _, _, _, hk⟩ := h.ex
  intro g hg
  rcases (hk g).1 hg with e | rfl | rfl | rfl
  · exact s.lt e
  · exact lt_of_block h.blk
  · exact h.wt.lt
  · exact h.fu.lt
theorem Sn.keeps {F : Nat → Prop} (h : Sn w K x sp wb fb ad c z) (k : Keeps F w w') (hF : ∀ g, K g → ¬ F g) (hg : ∀ g, F g → 6 ≤ g) : Sn w' K x sp wb fb ad c z := by
  obtain ⟨⟨K0, aj, s, n1, n2, n3, hk⟩, b, t, f, r⟩ := id h
  exact ⟨⟨K0, aj, s.keeps k (fun g e => hF g ((hk g).2 (.inl e))) hg, n1, n2, n3, hk⟩, keeps_out k b (hF x h.kx), t.keeps k (hF wb h.kw), f.keeps k (hF fb h.kf), r⟩
theorem Sn.below (h : Sn w K x sp wb fb ad c z) (hb : Below w.heap.size w w') : Sn w' K x sp wb fb ad c z :=
  h.keeps (Keeps.of_below hb (Nat.le_refl _) (fun _ => False)) (fun _ _ e => e) (fun _ e => e.elim)
theorem Sn.drewN (h : Sn w K x sp wb fb ad c z) (q : Nat) : Sn (w.drewN q) K x sp wb fb ad c z := h.below (below_drewN w q)
/-- The wait turns. -/
theorem Sn.turnW {n : Nat} (h : Sn w K x sp wb fb ad c z) (m : Mwp w w' wb c.b c.l n) : Sn w' K x sp wb fb ad c ⟨z.tk, n, z.s, z.head, z.G⟩ ∧ Mv8 w K w' K := by
  obtain ⟨⟨K0, aj, s, n1, n2, n3, hk⟩, b, t, f, r⟩ := id h
  exact ⟨⟨⟨K0, aj, s.keeps m.kp (fun g e q => n2 (by rw [← q]; exact e)) (fun g e => by rw [e]; exact h.ap.lw), n1, n2, n3, hk⟩, keeps_out m.kp b h.ap.nxw, m.p, f.keeps m.kp (fun e => h.ap.nwf e.symm), r⟩, m.kp.wide (fun g e _ => by rw [e]; exact h.kw), fun g e => .inl e⟩
/-- The fuse turns. -/
theorem Sn.turnF {k : Fz} (h : Sn w K x sp wb fb ad c z) (m : Mfz 118 w w' fb c.f c.p k) : Sn w' K x sp wb fb ad c ⟨z.tk, z.n, k, z.head, z.G⟩ ∧ Mv8 w K w' K := by
  obtain ⟨⟨K0, aj, s, n1, n2, n3, hk⟩, b, t, f, r⟩ := id h
  exact ⟨⟨⟨K0, aj, s.keeps m.kp (fun g e q => n3 (by rw [← q]; exact e)) (fun g e => by rw [e]; exact h.ap.lf), n1, n2, n3, hk⟩, keeps_out m.kp b h.ap.nxf, t.keeps m.kp h.ap.nwf, m.f, r⟩, m.kp.wide (fun g e _ => by rw [e]; exact h.kf), fun g e => .inl e⟩
/-- The tick is stored. -/
theorem Sn.setT (h : Sn w K x sp wb fb ad c z) (v : Int) : Sn (w.setCell ⟨x, 3, none⟩ (.int .i64 v)) K x sp wb fb ad c ⟨v, z.n, z.s, z.head, z.G⟩ ∧ Mv8 w K (w.setCell ⟨x, 3, none⟩ (.int .i64 v)) K := by
  obtain ⟨⟨K0, aj, s, n1, n2, n3, hk⟩, b, t, f, r⟩ := id h
  have k : Keeps (fun g => g = x) w (w.setCell ⟨x, 3, none⟩ (.int .i64 v)) := (Keeps.refl _ w).set _ _ (.inl rfl)
  exact ⟨⟨⟨K0, aj, s.keeps k (fun g e q => n1 (by rw [← q]; exact e)) (fun g e => by rw [e]; exact h.ap.lx), n1, n2, n3, hk⟩, by rw [heap_set_same b]; rfl, t.keeps k (fun e => h.ap.nxw e.symm), f.keeps k (fun e => h.ap.nxf e.symm), r⟩, k.wide (fun g e _ => by rw [e]; exact h.kx), fun g e => .inl e⟩
/-- The spill turns. -/
theorem Sn.callS {E : Ending → Prop} {f : FuncId} {args : Array Value} {head : Int} {G : List Sg} (h : Sn w K x sp wb fb ad c z)
    (hc : ∀ K0 aj, Sx w K0 sp ad aj c.rm c.many c.room z.head z.G → Calls Tryz.prog f args w fun e w' => E e ∧ ∃ K', Sx w' K' sp ad aj c.rm c.many c.room head G ∧ Mv8 w K0 w' K') :
    Calls Tryz.prog f args w fun e w' => E e ∧ ∃ K', Sn w' K' x sp wb fb ad c ⟨z.tk, z.n, z.s, head, G⟩ ∧ Mv8 w K w' K' := by
  obtain ⟨⟨K0, aj, s, n1, n2, n3, hk⟩, b, t, f, r⟩ := id h
  refine (hc K0 aj s).mono ?_
  rintro e w' ⟨he, K', s', m⟩
  have out : ∀ g, g < w.heap.size → ¬ K0 g → ¬ K' g := fun g hl hn hk' => by
    rcases m.own g hk' with e | e
    · exact hn e
    · omega
  refine ⟨he, fun g => K' g ∨ g = x ∨ g = wb ∨ g = fb, ⟨⟨K', aj, s', out x (h.lt x h.kx) n1, out wb (h.lt wb h.kw) n2, out fb (h.lt fb h.kf) n3, fun g => Iff.rfl⟩, keeps_out m.keeps b n1, t.keeps m.keeps n2, f.keeps m.keeps n3, r⟩, m.keeps.wide (fun g e _ => (hk g).2 (.inl e)), fun g hg => ?_⟩
  rcases hg with e | rfl | rfl | rfl
  · rcases m.own g e with e | e
    · exact .inl ((hk g).2 (.inl e))
    · exact .inr e
  · exact .inl h.kx
  · exact .inl h.kw
  · exact .inl h.kf
/-- What is asked of the spill. -/
theorem Sn.askS {f : FuncId} {args : Array Value} {Q : Ending → World → Prop} (h : Sn w K x sp wb fb ad c z)
    (hc : ∀ K0 aj, Sx w K0 sp ad aj c.rm c.many c.room z.head z.G → Calls Tryz.prog f args w Q) : Calls Tryz.prog f args w Q := by
  obtain ⟨K0, aj, s, _⟩ := h.ex
  exact hc K0 aj s
end
end Go.Proofs.YtgeahpfdaehjaaaGreatDoor
namespace Go.Proofs.YtgeahpfdaehjaaaGreatDoor
open Go.ChangeShapes Go.WideShapes Go.ChangeAt Go.RowKit
set_option linter.unusedVariables false

theorem isOut_yes (w : World) {o : Int} (h : 0 ≤ o ∧ o ≤ 3) :
    Calls Tryz.prog 33 #[.int .i64 o] w fun e w' => e = .returned (.bool true) ∧ w = w' := by
  rcases (by omega : o = 0 ∨ o = 1 ∨ o = 2 ∨ o = 3) with rfl | rfl | rfl | rfl
  all_goals
    clear h
    go_enter Tryz.func33, Tryz.ntmps33
    go_wp2_with fail
    go_ret
    exact ⟨rfl, rfl⟩
theorem isOut_no (w : World) {o : Int} (h : ¬ (0 ≤ o ∧ o ≤ 3)) :
    Calls Tryz.prog 33 #[.int .i64 o] w fun e w' => e = .returned (.bool false) ∧ w = w' := by
  have e0 : (o == 0) = false := beq_eq_false_iff_ne.2 (by omega)
  have e1 : (o == 1) = false := beq_eq_false_iff_ne.2 (by omega)
  have e2 : (o == 2) = false := beq_eq_false_iff_ne.2 (by omega)
  have e3 : (o == 3) = false := beq_eq_false_iff_ne.2 (by omega)
  have n0 : ¬ o = 0 := by omega
  have n1 : ¬ o = 1 := by omega
  have n2 : ¬ o = 2 := by omega
  have n3 : ¬ o = 3 := by omega
  clear h
  go_enter Tryz.func33, Tryz.ntmps33
  go_wp2_with fail
  go_ret
  exact ⟨rfl, rfl⟩
theorem ask_not {p n : Int} {s : Fz} (h : ¬ YesF p s n) : askF p s n = s := if_neg (fun y => h y.1)
section
variable {w w' : World} {K : Nat → Prop} {x sp wb fb ad : Nat} {c : Nz} {z : Zs}
theorem at_walk (h : Sn w K x sp wb fb ad c z) :
    Calls Tryz.prog 17 #[.pointer (some ⟨x, 0, none⟩)] w fun e w' => e = .returned (.int .i64 z.tk) ∧ w = w' := by
  have c3 := h.c3
  clear h
  go_enter Tryz.func17, Tryz.ntmps17
  go_wp2
  go_ret
  exact ⟨rfl, rfl⟩
set_option maxRecDepth 100000 in
theorem came_walk (h : Sn w K x sp wb fb ad c z) (ok : SOk c.rm c.many c.room z.head z.G) (hl : z.head < nxG z.G) :
    Calls Tryz.prog 36 #[.pointer (some ⟨x, 0, none⟩), .int .i64 z.head] w fun e w' => e = .returned .nilIface ∧ ∃ K', Sn w' K' x sp wb fb ad c ⟨z.tk, 0, goodF z.s, z.head + 1, trimG z.G (z.head + 1)⟩ ∧ Mv8 w K w' K' := by
  have c1 := h.c1
  have CW := Lib.hid (goodB_walk h.wt)
  have H := Lib.hid h
  have OK := Lib.hid ok
  have HL := Lib.hid hl
  obtain ⟨q, hq⟩ : ∃ q, z.head = q := ⟨_, rfl⟩
  rw [hq]
  have HQ := Lib.hid hq
  clear h ok hl hq
  go_enter Tryz.func36, Tryz.ntmps36
  go_wp2_with fail
  refine CW.out.mono ?_
  rintro e w1 ⟨rfl, m1⟩
  obtain ⟨s1, v1⟩ := H.out.turnW m1
  have c2 := s1.c2
  have CF := Lib.hid (good_walk s1.fu)
  have S1 := Lib.hid s1
  have V1 := Lib.hid v1
  clear m1 s1 v1 CW H c1
  go_wp2_with fail
  refine CF.out.mono ?_
  rintro e w2 ⟨rfl, m2⟩
  obtain ⟨s2, v2⟩ := S1.out.turnF m2
  have c0 := s2.c0
  have V2 := Lib.hid (V1.out.trans v2)
  have CA := s2.callS (f := 68) (args := #[.pointer (some ⟨sp, 0, none⟩), .int .i64 q]) (E := fun e => e = .returned .nilIface) (head := q + 1) (G := trimG z.G (q + 1)) (fun K0 aj s => by
    have OK := OK.out
    have HL := HL.out
    have := HQ.out
    rw [this] at OK HL
    dsimp only at s
    rw [this] at s
    exact ackS_ok s OK HL)
  have CA := Lib.hid CA
  clear m2 s2 v2 CF S1 V1 c2
  go_wp2_with fail
  refine CA.out.mono ?_
  rintro e w3 ⟨rfl, K3, s3, v3⟩
  have S3 := Lib.hid s3
  have V3 := Lib.hid (V2.out.trans v3)
  clear s3 v3 CA
  go_wp2_with fail
  go_ret
  exact ⟨rfl, K3, S3.out, V3.out⟩
set_option maxRecDepth 100000 in
theorem failed_walk (h : Sn w K x sp wb fb ad c z) (gb : GoodB c.b c.l) (gf : GoodF c.f c.p) (fz : FzOk c.f z.s) (hn : z.n ≤ 1000) {now : Int} (hw : WiF now) (jit : Int) (j0 : -9223372036854775808 ≤ jit) (j1 : jit ≤ 9223372036854775807) :
    Calls Tryz.prog 37 #[.pointer (some ⟨x, 0, none⟩), .int .i64 now, .int .i64 jit] w fun e w' => e = .returned (.tuple #[]) ∧ Sn w' K x sp wb fb ad c ⟨now + jitZ jit (bwZ c.b c.l z.n), z.n + 1, badF c.f z.s now, z.head, z.G⟩ ∧ Mv8 w K w' K := by
  obtain ⟨h0, h1⟩ := hw
  have c2 := h.c2
  have CB := Lib.hid (bad_walk h.fu gf fz now (by omega) (by omega))
  have b := bw_bd gb z.n
  have b1 := gb.b1
  have b2 := gb.l1
  have j := jit_bd (w := bwZ c.b c.l z.n) (by omega) jit
  have CW := Lib.hid (fun w1 (t : Wp w1 wb c.b c.l z.n) => fail_walk t gb hn jit j0 j1)
  have H := Lib.hid h
  obtain ⟨v, hv⟩ : ∃ v, jitZ jit (bwZ c.b c.l z.n) = v := ⟨_, rfl⟩
  rw [hv] at CW j ⊢
  have z1 : IntKind.i64.wrap (now + v) = now + v := IntWalk.i64_in _ (by omega)
  clear h gb gf fz hn j0 j1 hv b b1 b2 j
  go_enter Tryz.func37, Tryz.ntmps37
  go_wp2_with fail
  refine CB.out.mono ?_
  rintro e w1 ⟨rfl, m1⟩
  obtain ⟨s1, v1⟩ := H.out.turnF m1
  have c1 := s1.c1
  have CX := Lib.hid (CW.out w1 s1.wt)
  have S1 := Lib.hid s1
  have V1 := Lib.hid v1
  clear m1 s1 v1 CB CW H c2
  go_wp2_with fail
  refine CX.out.mono ?_
  rintro e w2 ⟨rfl, m2⟩
  obtain ⟨s2, v2⟩ := S1.out.turnW m2
  have c3 := s2.c3
  have f3 := s2.fr 3
  obtain ⟨s3, v3⟩ := s2.setT (now + v)
  have S3 := Lib.hid s3
  have V3 := Lib.hid ((V1.out.trans v2).trans v3)
  clear m2 s2 v2 s3 v3 CX S1 V1 c1
  go_wp2_with fail
  go_end0
  exact ⟨rfl, S3.out, V3.out⟩
/-- What a Try makes. -/
def TryPost (w : World) (K : Nat → Prop) (x sp wb fb ad : Nat) (c : Nz) (t : Rc) (is : Bool) (r : Nat) (z' : Zs) (e : Ending) (w' : World) : Prop :=
  ∃ A cap, e = .returned (.tuple #[.slice A t.length cap, .bool is, ErrV r]) ∧ RdS w' A cap t ∧ (∀ a, A = some a → w.heap.size ≤ a.block) ∧ ∃ K', Sn w' K' x sp wb fb ad c z' ∧ Mv8 w K w' K'
end
end Go.Proofs.YtgeahpfdaehjaaaGreatDoor
namespace Go.Proofs.YtgeahpfdaehjaaaGreatDoor
open Go.ChangeShapes Go.WideShapes Go.ChangeAt Go.RowKit
set_option linter.unusedVariables false

section
variable {w w' : World} {K : Nat → Prop} {x sp wb fb ad : Nat} {c : Nz} {z : Zs} {now out : Int}
/-- None is sent. -/
def NoneSent (w : World) (K : Nat → Prop) (x sp wb fb ad : Nat) (c : Nz) (z : Zs) (r : Value) (e : Ending) (w' : World) : Prop :=
  e = .returned (.tuple #[.slice none 0 0, .bool false, r]) ∧ Sn w' K x sp wb fb ad c z ∧ Mv8 w K w' K
set_option maxRecDepth 100000 in
theorem try_arg (h : Sn w K x sp wb fb ad c z) (a : ¬ ArgZ now out) (jit : Int) :
    Calls Tryz.prog 15 #[.pointer (some ⟨x, 0, none⟩), .int .i64 now, .int .i64 out, .int .i64 jit] w (NoneSent w K x sp wb fb ad c z (.iface 41 (.int .i64 1))) := by
  have R := Lib.hid (And.intro h (Mv8.still (F := K) (Below.refl w.heap.size w)))
  clear h
  by_cases hw : WiF now
  · have CO := Lib.hid (isOut_no w (o := out) (fun y => a ⟨hw, y⟩))
    obtain ⟨h0, h1⟩ := hw
    have x0 : ¬ now < 0 := by omega
    have x1 : ¬ 1099511627776 < now := by omega
    clear a h0 h1
    go_enter Tryz.func15, Tryz.ntmps15
    go_wp2_with fail
    refine CO.out.mono ?_
    rintro e w1 ⟨rfl, rfl⟩
    clear CO
    go_wp2_with fail
    go_ret3
    exact ⟨rfl, R.out⟩
  · rcases wif_out hw with y | ⟨y1, y2⟩
    all_goals
      clear a hw
      go_enter Tryz.func15, Tryz.ntmps15
      go_wp2_with fail
      go_ret3
      exact ⟨rfl, R.out⟩
set_option maxRecDepth 100000 in
theorem try_none (h : Sn w K x sp wb fb ad c z) (ok : SOk c.rm c.many c.room z.head z.G) (a : ArgZ now out) (hl : z.head = nxG z.G) (jit : Int) :
    Calls Tryz.prog 15 #[.pointer (some ⟨x, 0, none⟩), .int .i64 now, .int .i64 out, .int .i64 jit] w (NoneSent w K x sp wb fb ad c z .nilIface) := by
  obtain ⟨⟨h0, h1⟩, h2⟩ := a
  have CO := Lib.hid (isOut_yes w h2)
  have CH := Lib.hid (h.askS (fun K0 aj s => headS_none s ok hl))
  have H := Lib.hid h
  have c0 := h.c0
  have x0 : ¬ now < 0 := by omega
  have x1 : ¬ 1099511627776 < now := by omega
  clear h ok hl h0 h1 h2
  unfold ReadBad btVal at CH
  go_enter Tryz.func15, Tryz.ntmps15
  go_wp2_with fail
  refine CO.out.mono ?_
  rintro e w1 ⟨rfl, rfl⟩
  clear CO
  go_wp2_with fail
  refine CH.out.mono ?_
  rintro e w1 ⟨rfl, b1⟩
  have B1 := Lib.hid (b1.alloc b1.size (.cells #[.int .i64 0, .int .i64 0, .slice none 0 0] 60))
  clear CH b1
  go_wp2_with fail
  go_ret3
  exact ⟨rfl, H.out.below B1.out, Mv8.still B1.out⟩
set_option maxRecDepth 100000 in
theorem try_early (h : Sn w K x sp wb fb ad c z) (ok : ZOk c z) (a : ArgZ now out) (hl : z.head < nxG z.G) (ht : now < z.tk) (jit : Int) :
    Calls Tryz.prog 15 #[.pointer (some ⟨x, 0, none⟩), .int .i64 now, .int .i64 out, .int .i64 jit] w (NoneSent w K x sp wb fb ad c z .nilIface) := by
  obtain ⟨⟨h0, h1⟩, h2⟩ := a
  have CO := Lib.hid (isOut_yes w h2)
  obtain ⟨k, b, hk, hr, hd, hb, hs⟩ := ok.head hl
  have CH := Lib.hid (h.askS (fun K0 aj s => headS s ok.sp hk hr hd hb hs))
  have H := Lib.hid h
  have c0 := h.c0
  have x0 : ¬ now < 0 := by omega
  have x1 : ¬ 1099511627776 < now := by omega
  clear h ok hl h0 h1 h2 hk hr hd hb hs
  unfold ReadGood btVal at CH
  generalize (headZ z).length = N at *
  generalize b.rows.length = M at *
  go_enter Tryz.func15, Tryz.ntmps15
  go_wp2_with fail
  refine CO.out.mono ?_
  rintro e w1 ⟨rfl, rfl⟩
  clear CO
  go_wp2_with fail
  refine CH.out.mono ?_
  rintro e w1 ⟨B, cc, A, cap, rfl, _, _, b1, _⟩
  have B1 := Lib.hid (b1.alloc b1.size (.cells #[.int .i64 b.seq, .int .i64 b.start, .slice B M cc] 60))
  have c3 := (H.out.below B1.out).c3
  clear CH b1
  go_wp2_with fail
  go_ret3
  exact ⟨rfl, H.out.below B1.out, Mv8.still B1.out⟩
set_option maxRecDepth 100000 in
theorem try_shut (h : Sn w K x sp wb fb ad c z) (ok : ZOk c z) (a : ArgZ now out) (hl : z.head < nxG z.G) (ht : ¬ now < z.tk) (hy : ¬ YesF c.p z.s now) (jit : Int) :
    Calls Tryz.prog 15 #[.pointer (some ⟨x, 0, none⟩), .int .i64 now, .int .i64 out, .int .i64 jit] w (NoneSent w K x sp wb fb ad c z .nilIface) := by
  obtain ⟨⟨h0, h1⟩, h2⟩ := a
  have CO := Lib.hid (isOut_yes w h2)
  obtain ⟨k, b, hk, hr, hd, hb, hs⟩ := ok.head hl
  have CH := Lib.hid (h.askS (fun K0 aj s => headS s ok.sp hk hr hd hb hs))
  have CA := Lib.hid (fun wx (t : Sn wx K x sp wb fb ad c z) => by
    have := ask_walk t.fu ok.gf ok.fz now (by omega) (by omega)
    rw [askV_no hy, ask_not hy] at this
    exact this)
  unfold errF at CA
  have H := Lib.hid h
  have c0 := h.c0
  have x0 : ¬ now < 0 := by omega
  have x1 : ¬ 1099511627776 < now := by omega
  clear h ok hl h0 h1 h2 hk hr hd hb hs
  unfold ReadGood btVal at CH
  generalize (headZ z).length = N at *
  generalize b.rows.length = M at *
  go_enter Tryz.func15, Tryz.ntmps15
  go_wp2_with fail
  refine CO.out.mono ?_
  rintro e w1 ⟨rfl, rfl⟩
  clear CO
  go_wp2_with fail
  refine CH.out.mono ?_
  rintro e w1 ⟨B, cc, A, cap, rfl, _, _, b1, _⟩
  have B1 := Lib.hid (b1.alloc b1.size (.cells #[.int .i64 b.seq, .int .i64 b.start, .slice B M cc] 60))
  have S1 := Lib.hid (H.out.below B1.out)
  have c3 := S1.out.c3
  have c2 := S1.out.c2
  have CX := Lib.hid (CA.out _ S1.out)
  clear CH b1 CA H
  go_wp2_with fail
  refine CX.out.mono ?_
  rintro e w2 ⟨rfl, m2⟩
  have S2 := Lib.hid (S1.out.turnF m2)
  clear m2 CX S1 c2 c3
  go_wp2_with fail
  go_ret3
  exact ⟨rfl, S2.out.1, (Mv8.still B1.out).trans S2.out.2⟩
set_option maxRecDepth 100000 in
theorem try_acked (h : Sn w K x sp wb fb ad c z) (ok : ZOk c z) (a : ArgZ now 0) (hl : z.head < nxG z.G) (ht : ¬ now < z.tk) (hy : YesF c.p z.s now) (jit : Int) :
    Calls Tryz.prog 15 #[.pointer (some ⟨x, 0, none⟩), .int .i64 now, .int .i64 0, .int .i64 jit] w (TryPost w K x sp wb fb ad c (headZ z) true 0 (cameZ c z now)) := by
  obtain ⟨⟨h0, h1⟩, h2⟩ := a
  have CO := Lib.hid (isOut_yes w h2)
  obtain ⟨k, b, hk, hr, hd, hb, hs⟩ := ok.head hl
  have CH := Lib.hid (h.askS (fun K0 aj s => headS s ok.sp hk hr hd hb hs))
  have CA := Lib.hid (fun wx (t : Sn wx K x sp wb fb ad c z) => by
    have := ask_walk t.fu ok.gf ok.fz now (by omega) (by omega)
    rw [askV_yes hy] at this
    exact this)
  have CC := Lib.hid (fun wx (t : Sn wx K x sp wb fb ad c ⟨z.tk, z.n, askF c.p z.s now, z.head, z.G⟩) => came_walk t ok.sp hl)
  have H := Lib.hid h
  have c0 := h.c0
  have hlo := Lib.hid h.lt
  have x0 : ¬ now < 0 := by omega
  have x1 : ¬ 1099511627776 < now := by omega
  dsimp only at CC
  unfold ReadGood btVal at CH
  rw [hs] at CH
  clear h ok hl h0 h1 h2 hk hr hd hb hs
  obtain ⟨N, hN⟩ : ∃ N, (headZ z).length = N := ⟨_, rfl⟩
  have HN := Lib.hid hN
  unfold TryPost
  rw [hN] at CH ⊢
  clear hN
  generalize b.rows.length = M at *
  go_enter Tryz.func15, Tryz.ntmps15
  go_wp2_with fail
  refine CO.out.mono ?_
  rintro e w1 ⟨rfl, rfl⟩
  clear CO
  go_wp2_with fail
  refine CH.out.mono ?_
  rintro e w1 ⟨B, cc, A, cap, rfl, _, r1, b1, n1⟩
  have B1 := Lib.hid (b1.alloc b1.size (.cells #[.int .i64 z.head, .int .i64 b.start, .slice B M cc] 60))
  have S1 := Lib.hid (H.out.below B1.out)
  have R1 := Lib.hid (r1.alloc (.cells #[.int .i64 z.head, .int .i64 b.start, .slice B M cc] 60))
  have K1 := Lib.hid (heap_alloc_new w1 (.cells #[.int .i64 z.head, .int .i64 b.start, .slice B M cc] 60))
  have N1 := Lib.hid n1
  have T1 := Lib.hid b1.size
  have c3 := S1.out.c3
  have c2 := S1.out.c2
  have CX := Lib.hid (CA.out _ S1.out)
  clear CH b1 r1 n1 CA H
  go_wp2_with fail
  refine CX.out.mono ?_
  rintro e w2 ⟨rfl, m2⟩
  have S2 := Lib.hid (S1.out.turnF m2)
  have hf : ¬ w1.heap.size = fb := fun e => by have := hlo.out fb S2.out.1.kf; have := T1.out; omega
  have q0 : w2.cell? ⟨w1.heap.size, 0, none⟩ = some (.int .i64 z.head) := cell_of_block (keeps_out m2.kp K1.out hf)
  have R2 := Lib.hid (R1.out.keeps m2.kp (fun a e q => by have := N1.out a e; have := hlo.out fb S2.out.1.kf; omega))
  have CC := Lib.hid (CC.out _ S2.out.1)
  clear m2 CX S1 c2 c3 hf K1 R1
  go_wp2_with fail
  refine CC.out.mono ?_
  rintro e w3 ⟨rfl, K3, s3, v3⟩
  have R3 := Lib.hid (R2.out.keeps v3.keeps (fun a e q => by have := N1.out a e; have := hlo.out a.block q; omega))
  have S3 := Lib.hid (And.intro s3 (((Mv8.still B1.out).trans S2.out.2).trans v3))
  clear s3 v3 CC S2 R2 q0
  go_wp2_with fail
  go_ret3
  exact ⟨A, cap, rfl, R3.out, N1.out, K3, S3.out⟩
set_option maxRecDepth 100000 in
theorem try_failed (h : Sn w K x sp wb fb ad c z) (ok : ZOk c z) (hn : z.n ≤ 1000) (a : ArgZ now out) (hl : z.head < nxG z.G) (ht : ¬ now < z.tk) (hy : YesF c.p z.s now) (ho : out ≠ 0) (jit : Int) (j0 : -9223372036854775808 ≤ jit) (j1 : jit ≤ 9223372036854775807) :
    Calls Tryz.prog 15 #[.pointer (some ⟨x, 0, none⟩), .int .i64 now, .int .i64 out, .int .i64 jit] w (TryPost w K x sp wb fb ad c (headZ z) true 0 (failZ c z now jit)) := by
  obtain ⟨⟨h0, h1⟩, h2⟩ := a
  have CO := Lib.hid (isOut_yes w h2)
  obtain ⟨k, b, hk, hr, hd, hb, hs⟩ := ok.head hl
  have CH := Lib.hid (h.askS (fun K0 aj s => headS s ok.sp hk hr hd hb hs))
  have CA := Lib.hid (fun wx (t : Sn wx K x sp wb fb ad c z) => by
    have := ask_walk t.fu ok.gf ok.fz now (by omega) (by omega)
    rw [askV_yes hy] at this
    exact this)
  have CC := Lib.hid (fun wx (t : Sn wx K x sp wb fb ad c ⟨z.tk, z.n, askF c.p z.s now, z.head, z.G⟩) => failed_walk t ok.gb ok.gf (ok.fz.ask c.p now) hn (now := now) ⟨h0, h1⟩ jit j0 j1)
  have H := Lib.hid h
  have c0 := h.c0
  have hlo := Lib.hid h.lt
  have x0 : ¬ now < 0 := by omega
  have x1 : ¬ 1099511627776 < now := by omega
  have x2 : (out == 0) = false := beq_eq_false_iff_ne.2 ho
  dsimp only at CC
  clear h ok hl h0 h1 h2 hk hr hd hb hs hn j0 j1
  unfold ReadGood btVal at CH
  obtain ⟨N, hN⟩ : ∃ N, (headZ z).length = N := ⟨_, rfl⟩
  have HN := Lib.hid hN
  unfold TryPost
  rw [hN] at CH ⊢
  clear hN
  generalize b.rows.length = M at *
  go_enter Tryz.func15, Tryz.ntmps15
  go_wp2_with fail
  refine CO.out.mono ?_
  rintro e w1 ⟨rfl, rfl⟩
  clear CO
  go_wp2_with fail
  refine CH.out.mono ?_
  rintro e w1 ⟨B, cc, A, cap, rfl, _, r1, b1, n1⟩
  have B1 := Lib.hid (b1.alloc b1.size (.cells #[.int .i64 b.seq, .int .i64 b.start, .slice B M cc] 60))
  have S1 := Lib.hid (H.out.below B1.out)
  have R1 := Lib.hid (r1.alloc (.cells #[.int .i64 b.seq, .int .i64 b.start, .slice B M cc] 60))
  have N1 := Lib.hid n1
  have c3 := S1.out.c3
  have c2 := S1.out.c2
  have CX := Lib.hid (CA.out _ S1.out)
  clear CH b1 r1 n1 CA H
  go_wp2_with fail
  refine CX.out.mono ?_
  rintro e w2 ⟨rfl, m2⟩
  have S2 := Lib.hid (S1.out.turnF m2)
  have R2 := Lib.hid (R1.out.keeps m2.kp (fun a e q => by have := N1.out a e; have := hlo.out fb S2.out.1.kf; omega))
  have CC := Lib.hid (CC.out _ S2.out.1)
  clear m2 CX S1 c2 c3 R1
  go_wp2_with fail
  refine CC.out.mono ?_
  rintro e w3 ⟨rfl, s3, v3⟩
  have R3 := Lib.hid (R2.out.keeps v3.keeps (fun a e q => by have := N1.out a e; have := hlo.out a.block q; omega))
  have S3 := Lib.hid (And.intro s3 (((Mv8.still B1.out).trans S2.out.2).trans v3))
  clear s3 v3 CC S2 R2
  go_wp2_with fail
  go_ret3
  exact ⟨A, cap, rfl, R3.out, N1.out, K, S3.out⟩
theorem try_walk (h : Sn w K x sp wb fb ad c z) (ok : ZOk c z) (hn : z.n ≤ 1000) (now out jit : Int) (j0 : -9223372036854775808 ≤ jit) (j1 : jit ≤ 9223372036854775807) :
    Calls Tryz.prog 15 #[.pointer (some ⟨x, 0, none⟩), .int .i64 now, .int .i64 out, .int .i64 jit] w (TryPost w K x sp wb fb ad c (tellZ c z now out) (sentZ c z now out) (codeZ now out) (sendZ c z now out jit)) := by
  have none_ : ∀ (r : Nat) (v : Value), ErrV r = v → ∀ e w', NoneSent w K x sp wb fb ad c z v e w' → TryPost w K x sp wb fb ad c [] false r z e w' := fun r v hv e w' ⟨e1, s, m⟩ =>
    ⟨none, 0, by rw [hv]; exact e1, RdS.nil _, (fun a e => by cases e), K, s, m⟩
  rcases try_ways c z now out jit ok with ⟨a, e1, e2, e3, e4⟩ | ⟨a, hl, e1, e2, e3, e4⟩ | ⟨a, hl, ht, e1, e2, e3, e4⟩ | ⟨a, hl, ht, hy, e1, e2, e3, e4⟩ | ⟨a, hl, ht, hy, rfl, e1, e2, e3, e4⟩ | ⟨a, hl, ht, hy, ho, e1, e2, e3, e4⟩
  all_goals rw [e1, e2, e3, e4]
  · exact (try_arg h a jit).mono (none_ 1 _ rfl)
  · exact (try_none h ok.sp a hl jit).mono (none_ 0 _ rfl)
  · exact (try_early h ok a hl ht jit).mono (none_ 0 _ rfl)
  · exact (try_shut h ok a hl ht hy jit).mono (none_ 0 _ rfl)
  · exact try_acked h ok a hl ht hy jit
  · exact try_failed h ok hn a hl ht hy ho jit j0 j1
end
end Go.Proofs.YtgeahpfdaehjaaaGreatDoor
namespace Go.Proofs.YtgeahpfdaehjaaaGreatDoor
open Go.ChangeShapes Go.WideShapes Go.ChangeAt Go.RowKit
set_option linter.unusedVariables false

theorem newZ_nil (w : World) (b l f p : Int) :
    Calls Tryz.prog 8 #[.pointer none, .int .i64 b, .int .i64 l, .int .i64 f, .int .i64 p] w fun e w' => e = .returned (.tuple #[.pointer none, .iface 41 (.int .i64 1)]) ∧ w = w' := by
  go_enter Tryz.func8, Tryz.ntmps8
  go_wp2_with fail
  go_ret2
  exact ⟨rfl, rfl⟩
theorem newZ_badB (w : World) (a : Addr) (b l f p : Int) (h : ¬ GoodB b l) :
    Calls Tryz.prog 8 #[.pointer (some a), .int .i64 b, .int .i64 l, .int .i64 f, .int .i64 p] w fun e w' => e = .returned (.tuple #[.pointer none, .iface 41 (.int .i64 1)]) ∧ w = w' := by
  have C := Lib.hid (newB_bad w b l h)
  unfold errB at C
  clear h
  go_enter Tryz.func8, Tryz.ntmps8
  go_wp2_with fail
  refine C.out.mono ?_
  rintro e w1 ⟨rfl, rfl⟩
  clear C
  go_wp2_with fail
  go_ret2
  exact ⟨rfl, rfl⟩
theorem newZ_badF (w : World) (a : Addr) (b l f p : Int) (g : GoodB b l) (h : ¬ GoodF f p) :
    Calls Tryz.prog 8 #[.pointer (some a), .int .i64 b, .int .i64 l, .int .i64 f, .int .i64 p] w fun e w' => e = .returned (.tuple #[.pointer none, .iface 41 (.int .i64 1)]) ∧ Below w.heap.size w w' := by
  have C := Lib.hid (newB_good w b l g)
  have D := Lib.hid (fun w => newF_bad w f p h)
  unfold errF at D
  clear g h
  go_enter Tryz.func8, Tryz.ntmps8
  go_wp2_with fail
  refine C.out.mono ?_
  rintro e w1 ⟨rfl, _, b1⟩
  clear C
  go_wp2_with fail
  refine (D.out _).mono ?_
  rintro e w2 ⟨rfl, rfl⟩
  clear D
  go_wp2_with fail
  go_ret2
  exact ⟨rfl, b1⟩
set_option maxRecDepth 100000 in
theorem newZ_good {w : World} {K0 : Nat → Prop} {sp ad aj : Nat} {c : Nz} {head : Int} {G : List Sg} (s : Sx w K0 sp ad aj c.rm c.many c.room head G) (g : GoodB c.b c.l) (k : GoodF c.f c.p) :
    Calls Tryz.prog 8 #[.pointer (some ⟨sp, 0, none⟩), .int .i64 c.b, .int .i64 c.l, .int .i64 c.f, .int .i64 c.p] w fun e w' => ∃ x wb fb K, e = .returned (.tuple #[.pointer (some ⟨x, 0, none⟩), .nilIface]) ∧ Sn w' K x sp wb fb ad c ⟨0, 0, Fz.new, head, G⟩ ∧ Mv8 w K0 w' K := by
  have C := Lib.hid (newB_good w c.b c.l g)
  have D := Lib.hid (fun w => newF_good w c.f c.p k)
  have S := Lib.hid s
  clear s g k
  go_enter Tryz.func8, Tryz.ntmps8
  go_wp2_with fail
  refine C.out.mono ?_
  rintro e w1 ⟨rfl, h1, b1⟩
  have H1 := Lib.hid (And.intro h1 b1)
  clear C h1 b1
  go_wp2_with fail
  refine (D.out _).mono ?_
  rintro e w2 ⟨rfl, h2, b2⟩
  have H2 := Lib.hid (And.intro h2 b2)
  clear D h2 b2
  go_wp2_with fail
  go_ret2
  obtain ⟨h1, b1⟩ := H1.out
  obtain ⟨h2, b2⟩ := H2.out
  have S := S.out
  have q1 := h1.lt
  have q2 := h2.lt
  have q3 := b1.size
  have q4 := b2.size
  have hn := S.laid.n
  have hlt : ∀ g, K0 g → g < w.heap.size := fun g hg => S.lt hg
  have b3 := b2.alloc b2.size (.cells #[.pointer (some ⟨sp, 0, none⟩), .pointer (some ⟨w.heap.size, 0, none⟩), .pointer (some ⟨w1.heap.size, 0, none⟩), .int .i64 0] 88)
  have b4 := b1.trans (b3.mono b1.size)
  refine ⟨w2.heap.size, w.heap.size, w1.heap.size, fun g => K0 g ∨ g = w2.heap.size ∨ g = w.heap.size ∨ g = w1.heap.size, rfl, ⟨⟨K0, aj, S.below b4, fun e => by have := hlt _ e; omega, fun e => by have := hlt _ e; omega, fun e => by have := hlt _ e; omega, fun g => Iff.rfl⟩, heap_alloc_new w2 _, h1.still b3, h2.still ((Below.refl _ w2).alloc (Nat.le_refl _) _), ⟨by omega, by omega, by omega, by omega, by omega, by omega⟩⟩, Keeps.of_below b4 (Nat.le_refl _) _, fun g hg => ?_⟩
  rcases hg with e | rfl | rfl | rfl
  · exact .inl e
  · exact .inr (by omega)
  · exact .inr (Nat.le_refl _)
  · exact .inr (by omega)
/-- .. and what was there is as it was. -/
def Sq (W w : World) (K : Nat → Prop) (x sp wb fb ad : Nat) (c : Nz) (z : Zs) : Prop :=
  Sn w K x sp wb fb ad c z ∧ (∀ g, K g → W.heap.size ≤ g) ∧ Below W.heap.size W w
section
variable {W w w' : World} {K K' : Nat → Prop} {x sp wb fb ad : Nat} {c : Nz} {z z' : Zs}
theorem Sq.step (h : Sq W w K x sp wb fb ad c z) (s : Sn w' K' x sp wb fb ad c z') (m : Mv8 w K w' K') : Sq W w' K' x sp wb fb ad c z' := by
  obtain ⟨_, h2, h3⟩ := h
  obtain ⟨b1, b2⟩ := m.below h2 h3.size
  exact ⟨s, b2, h3.trans b1⟩
theorem Sq.still (h : Sq W w K x sp wb fb ad c z) (hb : Below w.heap.size w w') : Sq W w' K x sp wb fb ad c z := h.step (h.1.below hb) (Mv8.still hb)
/-- A Try. -/
theorem Sq.try_ (h : Sq W w K x sp wb fb ad c z) (ok : ZOk c z) (hn : z.n ≤ 1000) (now out jit : Int) (j0 : -9223372036854775808 ≤ jit) (j1 : jit ≤ 9223372036854775807) :
    Calls Tryz.prog 15 #[.pointer (some ⟨x, 0, none⟩), .int .i64 now, .int .i64 out, .int .i64 jit] w fun e w' => ∃ A cap K', e = .returned (.tuple #[.slice A (tellZ c z now out).length cap, .bool (sentZ c z now out), ErrV (codeZ now out)]) ∧ RdS w' A cap (tellZ c z now out) ∧ Sq W w' K' x sp wb fb ad c (sendZ c z now out jit) := by
  refine (try_walk h.1 ok hn now out jit j0 j1).mono ?_
  rintro e w' ⟨A, cap, he, r, _, K', s, m⟩
  exact ⟨A, cap, K', he, r, h.step s m⟩
theorem Sq.len (h : Sq W w K x sp wb fb ad c z) (ok : SOk c.rm c.many c.room z.head z.G) :
    Calls Tryz.prog 18 #[.pointer (some ⟨sp, 0, none⟩)] w fun e w' => e = .returned (.int .i64 (nxG z.G - z.head)) ∧ ∃ m, w' = w.drewN m :=
  h.1.askS (fun K0 aj s => lenS s ok)
/-- A Put. -/
theorem Sq.put (h : Sq W w K x sp wb fb ad c z) (ok : SOk c.rm c.many c.room z.head z.G) {b : Bt} (hb : b.rows = []) (hm : mayOk b = true) (hs : b.seq = nxG z.G) (h1 : ¬ c.room ≤ nxG z.G - z.head) (h2 : ¬ 4096 < (putL b).length) (h3 : (encR (putL b)).length ≤ c.rm - used (pts' z.G)) :
    Calls Tryz.prog 13 #[.pointer (some ⟨sp, 0, none⟩), btVal b.seq b.start none 0 0] w fun e w' => e = .returned .nilIface ∧ ∃ K', Sq W w' K' x sp wb fb ad c ⟨z.tk, z.n, z.s, z.head, putG c.many z.G (putL b)⟩ := by
  have hl : b.rows.length = 0 := by rw [hb]; rfl
  have := h.1.callS (f := 13) (args := #[.pointer (some ⟨sp, 0, none⟩), btVal b.seq b.start none 0 0]) (E := fun e => e = .returned .nilIface) (head := z.head) (G := putG c.many z.G (putL b)) (fun K0 aj s => by
    have := putS_ok (b := b) (A := none) (c := 0) s ok (by rw [hb]; exact RdR.nil _ _) (by rw [hb]; exact sized_nil21) (fun r h => by rw [hb] at h; simp at h) hm hs h1 h2 h3
    rw [hl] at this
    exact this)
  refine this.mono ?_
  rintro e w' ⟨he, K', s, m⟩
  exact ⟨he, K', h.step s m⟩
end
end Go.Proofs.YtgeahpfdaehjaaaGreatDoor
namespace Go.Proofs.YtgeahpfdaehjaaaGreatDoor
open Go.ChangeShapes Go.WideShapes Go.ChangeAt Go.RowKit
set_option linter.unusedVariables false

def bt5 (t i : Nat) : Bt := ⟨(i : Nat), (t : Nat), []⟩
def rc5 (t i : Nat) : Rc := putL (bt5 t i)
theorem rc5_eq {t i : Nat} (hi : i < 128) (ht : t < 128) : rc5 t i = [UInt8.ofNat i, UInt8.ofNat t, 0] := by
  unfold rc5 putL putHead rowsL bt5
  simp only [List.flatMap_nil, List.append_nil, List.length_nil]
  rw [show ((i : Nat) : Int).toNat = i by omega, show ((t : Nat) : Int).toNat = t by omega, enc_one hi, enc_one ht, enc_one (n := 0) (by omega)]
  rfl
theorem rc5_len {t i : Nat} (hi : i < 128) (ht : t < 128) : (rc5 t i).length = 3 := by rw [rc5_eq hi ht]; rfl
theorem flat_5 {t : Nat} : ∀ l : List Rc, (∀ r ∈ l, r.length = 3) → (flat l).length = 4 * l.length
  | [], _ => rfl
  | r :: l, h => by
    rw [show r :: l = [r] ++ l from rfl, flat_app, List.length_append, flat_one, encR_21 (h r (by simp)), flat_5 (t := t) l (fun r hr => h r (by simp [hr])), List.length_append]
    simp only [List.length_cons, List.length_nil]
    omega
/-- All that waits are such batches, one after another. -/
def R5 (t : Nat) (G : List Sg) : Prop := ∀ k r, (recs G)[k]? = some r → r = rc5 t (fsG G + (k : Nat)).toNat
theorem R5.nil (t : Nat) : R5 t [] := fun k r h => by simp [recs_nil] at h
theorem R5.put {t i : Nat} {many : Int} {G : List Sg} (h : R5 t G) (hn : nxG G = (i : Nat)) : R5 t (putG many G (rc5 t i)) := fun k r hk => by
  rw [recs_put] at hk
  rw [fs_put]
  by_cases hl : k < (recs G).length
  · rw [List.getElem?_append_left hl] at hk
    exact h k r hk
  · rw [List.getElem?_append_right (by omega)] at hk
    have hk0 : k - (recs G).length = 0 := by
      by_cases e : k - (recs G).length = 0
      · exact e
      · rw [List.getElem?_eq_none (by simp; omega)] at hk; cases hk
    rw [hk0] at hk
    rw [nxG_eq] at hn
    rw [show fsG G + (k : Nat) = (i : Nat) by omega]
    exact (Option.some.inj hk).symm
theorem R5.trim {t : Nat} {G : List Sg} {h : Int} (hr : R5 t G) (hc : CleanG G) (hf : fsG G ≤ h) : R5 t (trimG G h) := fun k q hq => by
  obtain ⟨a, b, c, d, e⟩ := trim_clean G h hc hf
  rw [e, List.getElem?_drop] at hq
  rw [hr _ q hq]
  congr 1
  omega
theorem R5.head {t : Nat} {c : Nz} {z : Zs} (h : R5 t z.G) (ok : ZOk c z) (hl : z.head < nxG z.G) : headZ z = rc5 t z.head.toNat := by
  obtain ⟨k, b, h1, _, h3, _⟩ := ok.head hl
  have h4 : jFirst (ns z.G) = fsG z.G := rfl
  rw [h _ _ h1]
  congr 1
  omega
theorem R5.room {t rm : Nat} {G : List Sg} {i : Nat} (h : R5 t G) (hc : CleanG G) (ht : t < 128) (hn : nxG G ≤ 100) (hi : i < 128) (hrm : 4 * nxG G + 4 ≤ (rm : Int)) : (encR (rc5 t i)).length ≤ rm - used (pts' G) := by
  have h0 := hc.lo
  have h1 : ∀ r ∈ recs G, r.length = 3 := fun r hr => by
    obtain ⟨k, hk, rfl⟩ := List.mem_iff_getElem.1 hr
    have := h k _ (List.getElem?_eq_getElem hk)
    rw [this]
    rw [nxG_eq] at hn
    exact rc5_len (by omega) ht
  rw [used_pts' hc, flat_5 (t := t) _ h1, encR_21 (rc5_len hi ht)]
  rw [nxG_eq] at hrm
  omega
/-- So many put. -/
structure G5 (c : Nz) (t i : Nat) (G : List Sg) : Prop where
  ok : SOk c.rm c.many c.room 0 G
  nx : nxG G = (i : Nat)
  len : G.length ≤ i
  r : R5 t G
theorem G5.nil {c : Nz} (t : Nat) (h1 : c.rm ≤ 65536) (h2 : 1 ≤ c.many ∧ c.many ≤ 100) (h3 : 1 ≤ c.room ∧ c.room ≤ 1000) : G5 c t 0 [] := ⟨SOk.nil h1 h2 h3, rfl, Nat.le_refl _, R5.nil t⟩
theorem G5.put {c : Nz} {t i : Nat} {G : List Sg} (g : G5 c t i G) (ht : t < 128) (hi : i < 100) (hrm : 4 * i + 4 ≤ c.rm) : G5 c t (i + 1) (putG c.many G (rc5 t i)) := by
  have h1 := g.nx
  have h2 := g.len
  refine ⟨g.ok.put (b := bt5 t i) (fun r h => by simp [bt5] at h) (may_21 i (by omega) t (by omega)) (by rw [h1]; rfl) (by rw [show putL (bt5 t i) = rc5 t i from rfl, rc5_len (by omega) ht]; omega) (g.r.room g.ok.g.clean ht (by omega) (by omega) (by omega)) (by omega) (by omega), by rw [nx_put, h1]; omega, by have := len_put (many := c.many) (G := G) (r := rc5 t i); omega, g.r.put h1⟩
end Go.Proofs.YtgeahpfdaehjaaaGreatDoor
namespace Go.Proofs.YtgeahpfdaehjaaaGreatDoor
open Go.ChangeShapes Go.WideShapes Go.ChangeAt Go.RowKit
set_option linter.unusedVariables false

section
variable {c : Nz} {z : Zs}
/-- A Try, one way or another. -/
theorem Sq.three (W : World) (x sp wb fb ad : Nat) (ok : ZOk c z) (hn : z.n ≤ 1000) (now out jit : Int) (j0 : -9223372036854775808 ≤ jit) (j1 : jit ≤ 9223372036854775807) :
    (∃ v, (v = .nilIface ∨ v = .iface 41 (.int .i64 1)) ∧ ∀ w K, Sq W w K x sp wb fb ad c z → Calls Tryz.prog 15 #[.pointer (some ⟨x, 0, none⟩), .int .i64 now, .int .i64 out, .int .i64 jit] w fun e w' => e = .returned (.tuple #[.slice none 0 0, .bool false, v]) ∧ Sq W w' K x sp wb fb ad c z) ∨
    (out = 0 ∧ z.head < nxG z.G ∧ ¬ now < z.tk ∧ ∀ w K, Sq W w K x sp wb fb ad c z → Calls Tryz.prog 15 #[.pointer (some ⟨x, 0, none⟩), .int .i64 now, .int .i64 out, .int .i64 jit] w fun e w' => ∃ A cap K', e = .returned (.tuple #[.slice A (headZ z).length cap, .bool true, .nilIface]) ∧ RdS w' A cap (headZ z) ∧ Sq W w' K' x sp wb fb ad c (cameZ c z now)) ∨
    (out ≠ 0 ∧ z.head < nxG z.G ∧ ¬ now < z.tk ∧ WiF now ∧ ∀ w K, Sq W w K x sp wb fb ad c z → Calls Tryz.prog 15 #[.pointer (some ⟨x, 0, none⟩), .int .i64 now, .int .i64 out, .int .i64 jit] w fun e w' => ∃ A cap K', e = .returned (.tuple #[.slice A (headZ z).length cap, .bool true, .nilIface]) ∧ RdS w' A cap (headZ z) ∧ Sq W w' K' x sp wb fb ad c (failZ c z now jit)) := by
  rcases try_ways c z now out jit ok with ⟨a, _⟩ | ⟨a, hl, _⟩ | ⟨a, hl, ht, _⟩ | ⟨a, hl, ht, hy, _⟩ | ⟨a, hl, ht, hy, rfl, _⟩ | ⟨a, hl, ht, hy, ho, _⟩
  · exact .inl ⟨_, .inr rfl, fun w K h => (try_arg h.1 a jit).mono fun e w' ⟨e1, s, m⟩ => ⟨e1, h.step s m⟩⟩
  · exact .inl ⟨_, .inl rfl, fun w K h => (try_none h.1 ok.sp a hl jit).mono fun e w' ⟨e1, s, m⟩ => ⟨e1, h.step s m⟩⟩
  · exact .inl ⟨_, .inl rfl, fun w K h => (try_early h.1 ok a hl ht jit).mono fun e w' ⟨e1, s, m⟩ => ⟨e1, h.step s m⟩⟩
  · exact .inl ⟨_, .inl rfl, fun w K h => (try_shut h.1 ok a hl ht hy jit).mono fun e w' ⟨e1, s, m⟩ => ⟨e1, h.step s m⟩⟩
  · exact .inr (.inl ⟨rfl, hl, ht, fun w K h => (try_acked h.1 ok a hl ht hy jit).mono fun e w' ⟨A, cap, e1, r, _, K', s, m⟩ => ⟨A, cap, K', e1, r, h.step s m⟩⟩)
  · exact .inr (.inr ⟨ho, hl, ht, a.1, fun w K h => (try_failed h.1 ok hn a hl ht hy ho jit j0 j1).mono fun e w' ⟨A, cap, e1, r, _, K', s, m⟩ => ⟨A, cap, K', e1, r, h.step s m⟩⟩)
end
theorem wif_0 : WiF 0 := by unfold WiF; omega
theorem arg_00 : ArgZ 0 0 := ⟨wif_0, Int.le_refl _, by omega⟩
def cU : Nz := ⟨100, 2, 2, 1, 1, 1, 1⟩
theorem gbU : GoodB 1 1 := ⟨by omega, by omega, by omega⟩
theorem gfU : GoodF 1 1 := ⟨by omega, by omega, by omega, by omega⟩
theorem yesU : YesF 1 Fz.new 0 := ⟨wif_0, .inl rfl⟩
set_option maxHeartbeats 1000000 in
set_option maxRecDepth 100000 in
theorem up_send (W : World) (hL : Laid W) : Calls Tryz.prog 5 #[] W (Holds W) := by
  have HL := Lib.hid hL
  have C1 := Lib.hid (new_good W 100 (by omega) (by omega))
  have eqc := eql_codes
  clear hL
  go_enter Tryz.func5, Tryz.ntmps5
  go_wp2_with fail
  refine C1.out.mono ?_
  rintro e w1 ⟨ad, F, rfl, d1, b1, hF⟩
  have hn := HL.out.n
  have C2 := openS (many := 2) (room := 2) (G := []) (HL.out.below b1) (fun g hg => by have := hF g hg; omega) d1 (Inv.nil (by omega)) segs_nil (by omega) (by omega)
  have C2 : Hid (Calls Tryz.prog 7 #[.pointer (some ⟨ad, 0, none⟩), .int .i64 2, .int .i64 2] w1 fun e w' => ∃ sp aj K, e = .returned (.tuple #[.pointer (some ⟨sp, 0, none⟩), .nilIface]) ∧ Sw W w' K sp ad aj 100 2 2 0 []) := Lib.hid (C2.mono fun e w' h => by
    rcases h with ⟨_, sp, aj, K', rfl, s, m⟩ | ⟨h, _⟩
    · obtain ⟨q1, q2⟩ := m.below hF b1.size
      exact ⟨sp, aj, K', rfl, s, q2, b1.trans q1⟩
    · cases h)
  clear C1 d1 b1 hF hn HL
  go_wp2_with fail
  refine C2.out.mono ?_
  rintro e w2 ⟨sp, aj, K2, rfl, S2⟩
  have S2 := Lib.hid S2
  have C3 := Lib.hid (newZ_nil w2 1 1 1 1)
  have C4 : Hid (Calls Tryz.prog 8 #[.pointer (some ⟨sp, 0, none⟩), .int .i64 1, .int .i64 1, .int .i64 1, .int .i64 1] w2 fun e w' => ∃ x wb fb K, e = .returned (.tuple #[.pointer (some ⟨x, 0, none⟩), .nilIface]) ∧ Sq W w' K x sp wb fb ad cU ⟨0, 0, Fz.new, 0, []⟩) := Lib.hid ((newZ_good (c := cU) S2.out.1 gbU gfU).mono fun e w' ⟨x, wb, fb, K, e1, s, m⟩ => by
    obtain ⟨q1, q2⟩ := m.below S2.out.2.1 S2.out.2.2.size
    exact ⟨x, wb, fb, K, e1, s, q2, S2.out.2.2.trans q1⟩)
  clear C2 S2
  go_wp2_with fail
  refine C3.out.mono ?_
  rintro e w3 ⟨rfl, rfl⟩
  clear C3
  go_wp2_with fail
  refine C4.out.mono ?_
  rintro e w4 ⟨x, wb, fb, K4, rfl, Q4⟩
  have g0 := G5.nil (c := cU) 0 (by decide) (by decide) (by decide)
  have g1 := g0.put (by omega) (by omega) (by decide)
  have g0 := Lib.hid g0
  have g1 := Lib.hid g1
  have C5 : Hid (Calls Tryz.prog 15 #[.pointer (some ⟨x, 0, none⟩), .int .i64 0, .int .i64 0, .int .i64 0] w4 fun e w' => e = .returned (.tuple #[.slice none 0 0, .bool false, .nilIface]) ∧ Sq W w' K4 x sp wb fb ad cU ⟨0, 0, Fz.new, 0, []⟩) := Lib.hid ((try_none Q4.1 g0.out.ok arg_00 rfl 0).mono fun e w' ⟨e1, s, m⟩ => ⟨e1, Q4.step s m⟩)
  clear C4 Q4
  go_wp2_with fail
  refine C5.out.mono ?_
  rintro e w5 ⟨rfl, Q5⟩
  have C6 := Q5.put g0.out.ok (b := bt5 0 0) rfl (may_21 0 (by omega) 0 (by omega)) rfl (by show ¬ (2 : Int) ≤ 0 - 0; omega) (by rw [show putL (bt5 0 0) = rc5 0 0 from rfl, rc5_len (by omega) (by omega)]; omega) (g0.out.r.room g0.out.ok.g.clean (by omega) (by rw [g0.out.nx]; omega) (by omega) (by rw [g0.out.nx]; decide))
  unfold btVal at C6
  have C6 : Hid (Calls Tryz.prog 13 #[.pointer (some ⟨sp, 0, none⟩), .agg #[.int .i64 0, .int .i64 0, .slice none 0 0]] w5 fun e w' => e = .returned .nilIface ∧ ∃ K', Sq W w' K' x sp wb fb ad cU ⟨0, 0, Fz.new, 0, putG 2 [] (rc5 0 0)⟩) := Lib.hid C6
  clear C5 Q5
  go_wp2_with fail
  refine C6.out.mono ?_
  rintro e w6 ⟨rfl, K6, Q6⟩
  have OK6 : Hid (ZOk cU ⟨0, 0, Fz.new, 0, putG 2 [] (rc5 0 0)⟩) := Lib.hid (ZOk.new gbU gfU g1.out.ok)
  have HL6 : Hid ((0 : Int) < nxG (putG 2 [] (rc5 0 0))) := Lib.hid (by have := g1.out.nx; rw [show putG cU.many [] (rc5 0 0) = putG 2 [] (rc5 0 0) from rfl] at this; rw [this]; omega)
  have HN6 : Hid ((headZ ⟨0, 0, Fz.new, 0, putG 2 [] (rc5 0 0)⟩).length = 3) := Lib.hid (by rw [R5.head (c := cU) g1.out.r OK6.out HL6.out]; exact rc5_len (by decide) (by decide))
  have C7 : Hid (Calls Tryz.prog 15 #[.pointer (some ⟨x, 0, none⟩), .int .i64 0, .int .i64 0, .int .i64 0] w6 fun e w' => ∃ A cap K', e = .returned (.tuple #[.slice A 3 cap, .bool true, .nilIface]) ∧ Sq W w' K' x sp wb fb ad cU (cameZ cU ⟨0, 0, Fz.new, 0, putG 2 [] (rc5 0 0)⟩ 0)) := Lib.hid ((try_acked Q6.1 OK6.out arg_00 HL6.out (by show ¬ (0 : Int) < 0; omega) yesU 0).mono fun e w' ⟨A, cap, e1, _, _, K', s, m⟩ => ⟨A, cap, K', by rw [← HN6.out]; exact e1, Q6.step s m⟩)
  clear C6 Q6
  go_wp2_with fail
  refine C7.out.mono ?_
  rintro e w7 ⟨A7, cap7, K7, rfl, Q7⟩
  have C8 := Q7.len (OK6.out.came HL6.out).sp
  rw [show nxG (cameZ cU ⟨0, 0, Fz.new, 0, putG 2 [] (rc5 0 0)⟩ 0).G = 1 from (trim_clean (putG 2 [] (rc5 0 0)) 1 g1.out.ok.g.clean (by have := g1.out.ok.h0; exact Int.le_trans this (by decide))).2.2.1.trans g1.out.nx, show (cameZ cU ⟨0, 0, Fz.new, 0, putG 2 [] (rc5 0 0)⟩ 0).head = 1 from rfl] at C8
  have C8 : Hid (Calls Tryz.prog 18 #[.pointer (some ⟨sp, 0, none⟩)] w7 fun e w' => e = .returned (.int .i64 0) ∧ ∃ m, w' = w7.drewN m) := Lib.hid C8
  have B7 := Lib.hid Q7.2.2
  clear C7 Q7 OK6 HL6 HN6 g0 g1
  go_wp2_with fail
  refine C8.out.mono ?_
  rintro e w8 ⟨rfl, m8, rfl⟩
  go_wp2_with fail
  go_ret
  exact ⟨rfl, B7.out.trans ((below_drewN _ _).mono B7.out.size)⟩
end Go.Proofs.YtgeahpfdaehjaaaGreatDoor
namespace Go.Proofs.YtgeahpfdaehjaaaGreatDoor
open Go.ChangeShapes Go.WideShapes Go.ChangeAt Go.RowKit
set_option linter.unusedVariables false

section
variable {W : World}
/-- The spill at the start. -/
theorem open24 {w : World} {ad : Nat} {F : Nat → Prop} (hL : Laid w) (hW : Below W.heap.size W w) (hF : ∀ g, F g → W.heap.size ≤ g) (hn : 6 ≤ W.heap.size) (rm : Nat) (hrm : rm ≤ 65536) (d : Dsk w F ad rm false []) :
    Calls Tryz.prog 7 #[.pointer (some ⟨ad, 0, none⟩), .int .i64 3, .int .i64 100] w fun e w' => ∃ sp aj K, e = .returned (.tuple #[.pointer (some ⟨sp, 0, none⟩), .nilIface]) ∧ Sw W w' K sp ad aj rm 3 100 0 [] := by
  refine (openS (many := 3) (room := 100) (G := []) hL (fun g hg => by have := hF g hg; omega) d (Inv.nil hrm) segs_nil (by omega) (by omega)).mono ?_
  rintro e w' h
  rcases h with ⟨_, sp, aj, K', rfl, s, m⟩ | ⟨h, _⟩
  · obtain ⟨q1, q2⟩ := m.below hF hW.size
    exact ⟨sp, aj, K', rfl, s, q2, hW.trans q1⟩
  · cases h
end
end Go.Proofs.YtgeahpfdaehjaaaGreatDoor
namespace Go.Proofs.YtgeahpfdaehjaaaGreatDoor
open Go.ChangeShapes Go.WideShapes Go.ChangeAt Go.RowKit Go.Deep
set_option linter.unusedVariables false

/-- One of them. -/
structure Qd where
  p : Bool
  t : Int
  o : Int
  j : Int
def InQ (x : Int) : Prop := -9223372036854775808 ≤ x ∧ x ≤ 9223372036854775807
structure FitQ (d : Qd) : Prop where
  t : InQ d.t
  o : InQ d.o
  j : InQ d.j
def qdOf (d : Qd) : List Value := [.bool d.p, .int .i64 d.t, .int .i64 d.o, .int .i64 d.j]
def RdQd (w : World) (A : Option Addr) (l : List Qd) : Prop := l = [] ∨ ∃ b o, A = some ⟨b, o, none⟩ ∧ ∀ (i : Nat) (t : Qd), l[i]? = some t → ∀ j, j < 4 → w.cell? ⟨b, o + i * 4 + j, none⟩ = (qdOf t)[j]?
theorem RdQd.at {w : World} {A : Option Addr} {l : List Qd} (h : RdQd w A l) {i : Nat} {d : Qd} (hi : l[i]? = some d) :
    ∃ b o, A = some ⟨b, o, none⟩ ∧ ∀ w', Below w.heap.size w w' → w'.cell? ⟨b, o + i * 4, none⟩ = some (.bool d.p) ∧ w'.cell? ⟨b, o + i * 4 + 1, none⟩ = some (.int .i64 d.t) ∧ w'.cell? ⟨b, o + i * 4 + 2, none⟩ = some (.int .i64 d.o) ∧ w'.cell? ⟨b, o + i * 4 + 3, none⟩ = some (.int .i64 d.j) := by
  rcases h with rfl | ⟨b, o, e, hc⟩
  · simp at hi
  · have hj := hc i d hi
    refine ⟨b, o, e, fun w' hb => ?_⟩
    have h0 : w.cell? ⟨b, o + i * 4, none⟩ = some (.bool d.p) := hj 0 (by omega)
    have h1 : w.cell? ⟨b, o + i * 4 + 1, none⟩ = some (.int .i64 d.t) := hj 1 (by omega)
    have h2 : w.cell? ⟨b, o + i * 4 + 2, none⟩ = some (.int .i64 d.o) := hj 2 (by omega)
    have h3 : w.cell? ⟨b, o + i * 4 + 3, none⟩ = some (.int .i64 d.j) := hj 3 (by omega)
    have hl := World.block_lt_of_cell? w _ h0
    exact ⟨by rw [hb.cell (p := ⟨b, o + i * 4, none⟩) hl]; exact h0, by rw [hb.cell (p := ⟨b, o + i * 4 + 1, none⟩) hl]; exact h1, by rw [hb.cell (p := ⟨b, o + i * 4 + 2, none⟩) hl]; exact h2, by rw [hb.cell (p := ⟨b, o + i * 4 + 3, none⟩) hl]; exact h3⟩
theorem cells_i64Q : Tryz.prog.cellsOf 2 = 1 := by kernel_rfl
theorem cells_intQ : Tryz.prog.cellsOf 3 = 1 := by kernel_rfl
theorem cells_boolQ : Tryz.prog.cellsOf 4 = 1 := by kernel_rfl
section
variable {H : Type} {enc : TypeId × Value → H} {W : World}
set_option maxRecDepth 100000 in
theorem open_quad {te : TypeId} {f0 f1 f2 f3 : Field} (hte : Tryz.prog.underlying te = some (.struct #[f0, f1, f2, f3])) (ce : Tryz.prog.cellsOf te = 4) (o0 : f0.offset = 0) (o1 : f1.offset = 1) (o2 : f2.offset = 2) (o3 : f3.offset = 3) (t0 : f0.type = 4) (t1 : f1.type = 2) (t2 : f2.type = 3) (t3 : f3.type = 3)
    {fuel : Nat} {cs : List Value} {x : DataW H × List MemPlace} (h : DataW.trod enc Tryz.prog W 0 (fun _ => true) true fuel te cs = some x) :
    ∃ t : Qd, cs = qdOf t ∧ FitQ t := by
  obtain ⟨xs, n, _, _, hlen, hxs, hg⟩ := DataW.trod_struct hte h
  rw [ce] at hlen
  match cs, hlen with
  | [a0, a1, a2, a3], _ =>
    match xs, hxs with
    | [y0, y1, y2, y3], _ =>
      have g0 := hg 0 f0 rfl
      have g1 := hg 1 f1 rfl
      have g2 := hg 2 f2 rfl
      have g3 := hg 3 f3 rfl
      rw [o0, t0, cells_boolQ] at g0
      rw [o1, t1, cells_i64Q] at g1
      rw [o2, t2, cells_intQ] at g2
      rw [o3, t3, cells_intQ] at g3
      simp only [List.drop_zero, List.drop_succ_cons, List.take_succ_cons, List.take_zero] at g0 g1 g2 g3
      obtain ⟨k0, e0, _⟩ := DataW.trod_bool Tryz.underlying4 g0
      obtain ⟨k1, e1, _, w1⟩ := DataW.trod_int Tryz.underlying2 g1
      obtain ⟨k2, e2, _, w2⟩ := DataW.trod_int Tryz.underlying3 g2
      obtain ⟨k3, e3, _, w3⟩ := DataW.trod_int Tryz.underlying3 g3
      simp at e0 e1 e2 e3
      subst e0 e1 e2 e3
      exact ⟨⟨k0, k1, k2, k3⟩, rfl, bounds_i64 w1, bounds_i64 w2, bounds_i64 w3⟩
set_option maxRecDepth 100000 in
theorem open_quads {ts te : TypeId} {f0 f1 f2 f3 : Field} (hts : Tryz.prog.underlying ts = some (.slice te)) (hte : Tryz.prog.underlying te = some (.struct #[f0, f1, f2, f3])) (ce : Tryz.prog.cellsOf te = 4) (o0 : f0.offset = 0) (o1 : f1.offset = 1) (o2 : f2.offset = 2) (o3 : f3.offset = 3) (t0 : f0.type = 4) (t1 : f1.type = 2) (t2 : f2.type = 3) (t3 : f3.type = 3)
    {v : Value} {x : DataW H} {ps : List MemPlace} {r : Reach} {b0 : Nat}
    (hval : Value.okWide Tryz.prog W r b0 ts v) (hd : DataW.Trod enc Tryz.prog W 0 (fun _ => true) true ts v x ps) :
    ∃ (A : Option Addr) (c : Nat) (l : List Qd), v = .slice A l.length c ∧ RdQd W A l ∧ l.length ≤ maxLen ∧ ∀ t ∈ l, FitQ t := by
  obtain ⟨A0, len0, cap0, rfl⟩ := okWide_slice hts hval
  obtain ⟨fuel, h⟩ := hd
  rcases open_slice hts h with ⟨hcs, _⟩ | ⟨a, len, cap, m, n, D, Pl, hcs, _, hl, hm, hmm, _, hx⟩
  · simp [Value.cells] at hcs
    obtain ⟨rfl, rfl, rfl⟩ := hcs
    exact ⟨none, 0, [], rfl, .inl rfl, by simp, fun d h => by simp at h⟩
  · simp [Value.cells] at hcs
    obtain ⟨rfl, rfl, rfl⟩ := hcs
    simp only [if_true] at hmm
    subst hmm
    have each : ∀ i, i < len0 → ∃ t : Qd, (∀ j, j < 4 → W.cell? (a.add (i * 4 + j)) = (qdOf t)[j]?) ∧ FitQ t := by
      intro i hi
      obtain ⟨cs', h1, h2⟩ := hx i (by omega)
      rw [ce] at h1
      obtain ⟨_, hlen, hcell⟩ := World.cells?_some h1
      obtain ⟨t, rfl, hf⟩ := open_quad hte ce o0 o1 o2 o3 t0 t1 t2 t3 h2
      exact ⟨t, fun j hj => by have := hcell j hj; rwa [Go.Deep.add_add] at this, hf⟩
    obtain ⟨f, hf⟩ : ∃ f : Nat → Qd, ∀ i, i < len0 → (∀ j, j < 4 → W.cell? (a.add (i * 4 + j)) = (qdOf (f i))[j]?) ∧ FitQ (f i) :=
      ⟨fun i => if h : i < len0 then Classical.choose (each i h) else ⟨false, 0, 0, 0⟩, fun i hi => by simp only [dif_pos hi]; exact Classical.choose_spec (each i hi)⟩
    have hlen : ((List.range len0).map f).length = len0 := by simp
    refine ⟨some a, _, (List.range len0).map f, by rw [hlen], ?_, by omega, ?_⟩
    · by_cases h0 : len0 = 0
      · subst h0; exact .inl rfl
      · obtain ⟨b, o, spot⟩ := a
        have hsp : spot = none := by
          have h8 : W.cell? ((⟨b, o, spot⟩ : Addr).add (0 * 4 + 0)) = some (.bool (f 0).p) := (hf 0 (by omega)).1 0 (by omega)
          have := World.cell?_spot h8
          simpa [Addr.add] using this
        subst hsp
        refine .inr ⟨b, o, rfl, fun i t hi j hj => ?_⟩
        rw [List.getElem?_map] at hi
        by_cases hil : i < len0
        · rw [List.getElem?_range hil] at hi
          obtain rfl := Option.some.inj hi
          have := (hf i hil).1 j hj
          rw [Go.WideShapes.add_plain] at this
          rw [Nat.add_assoc]
          exact this
        · rw [List.getElem?_eq_none (by simp; omega)] at hi
          cases hi
    · intro t ht
      obtain ⟨i, hi, rfl⟩ := List.mem_map.1 ht
      exact (hf i (by simpa using hi)).2
end
end Go.Proofs.YtgeahpfdaehjaaaGreatDoor
