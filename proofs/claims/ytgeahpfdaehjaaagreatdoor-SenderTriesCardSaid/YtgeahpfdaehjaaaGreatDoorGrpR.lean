/-
  Layer 24: the document's sender, over its spill, its wait and its fuse; its Try.
  Layer 24: the program's sender and the document's side by side.
  Layer 24: where the law SenderTries ends ahead of its deeds; an error's number.
-/
import Derived.Test.YtgeahpfdaehjaaaGreatDoorGrpP
import Derived.Test.YtgeahpfdaehjaaaGreatDoorGrpO
import Derived.Test.YtgeahpfdaehjaaaGreatDoorQRefSpill4
import Derived.OwnWalk
import Derived.Test.YtgeahpfdaehjaaaGreatDoorGrpT
namespace Go.Proofs.YtgeahpfdaehjaaaGreatDoor
open Go.ChangeShapes Go.WideShapes Go.ChangeAt Go.RowKit
set_option linter.unusedVariables false

def rnCells (ms wr fr : Nat) (tk : Int) : Array Value := #[.pointer (some ⟨ms, 0, none⟩), .pointer (some ⟨wr, 0, none⟩), .pointer (some ⟨fr, 0, none⟩), .int .i64 tk]
structure ApR (y wr fr : Nat) : Prop where
  nyw : y ≠ wr
  nyf : y ≠ fr
  nwf : wr ≠ fr
/-- The document's sender; its blocks are M. -/
structure Rn24 (w : World) (M : Nat → Prop) (y ms wr fr mj m : Nat) (c : Nz) (z : Zs) : Prop where
  ex : ∃ M0, Rsp w M0 ms mj m c.rm false c.many c.room z.head (pts' z.G) ∧ ¬ M0 y ∧ ¬ M0 wr ∧ ¬ M0 fr ∧ ∀ g, M g ↔ M0 g ∨ g = y ∨ g = wr ∨ g = fr
  blk : w.heap[y]? = some (.cells (rnCells ms wr fr z.tk) 54 (0, 0))
  wt : Wr w wr c.b c.l z.n
  fu : Fb 40 w fr c.f c.p z.s
  ap : ApR y wr fr
section
variable {w w' : World} {M : Nat → Prop} {y ms wr fr mj m : Nat} {c : Nz} {z : Zs}
theorem Rn24.c0 (h : Rn24 w M y ms wr fr mj m c z) : w.cell? ⟨y, 0, none⟩ = some (.pointer (some ⟨ms, 0, none⟩)) := cell_of_block h.blk
theorem Rn24.c1 (h : Rn24 w M y ms wr fr mj m c z) : w.cell? ⟨y, 1, none⟩ = some (.pointer (some ⟨wr, 0, none⟩)) := cell_of_block h.blk
theorem Rn24.c2 (h : Rn24 w M y ms wr fr mj m c z) : w.cell? ⟨y, 2, none⟩ = some (.pointer (some ⟨fr, 0, none⟩)) := cell_of_block h.blk
theorem Rn24.c3 (h : Rn24 w M y ms wr fr mj m c z) : w.cell? ⟨y, 3, none⟩ = some (.int .i64 z.tk) := cell_of_block h.blk
theorem Rn24.fr_ (h : Rn24 w M y ms wr fr mj m c z) (o : Nat) : w.frozen? ⟨y, o, none⟩ = false := frozen_of_block h.blk
theorem Rn24.ky (h : Rn24 w M y ms wr fr mj m c z) : M y := by obtain ⟨M0, _, _, _, _, hk⟩ := h.ex; exact (hk y).2 (.inr (.inl rfl))
theorem Rn24.kw (h : Rn24 w M y ms wr fr mj m c z) : M wr := by obtain ⟨M0, _, _, _, _, hk⟩ := h.ex; exact (hk wr).2 (.inr (.inr (.inl rfl)))
theorem Rn24.kf (h : Rn24 w M y ms wr fr mj m c z) : M fr := by obtain ⟨M0, _, _, _, _, hk⟩ := h.ex; exact (hk fr).2 (.inr (.inr (.inr rfl)))
theorem Rn24.s2 (h : Rn24 w M y ms wr fr mj m c z) : w.cell? ⟨ms, 2, none⟩ = some (.int .i64 z.head) := by obtain ⟨M0, s, _⟩ := h.ex; exact s.c2
theorem Rn24.lt (h : Rn24 w M y ms wr fr mj m c z) : ∀ g, M g → g < w.heap.size := by
  obtain ⟨M0, s, _, _, _, hk⟩ := h.ex
  intro g hg
  rcases (hk g).1 hg with e | rfl | rfl | rfl
  · exact s.lt e
  · exact lt_of_block h.blk
  · exact h.wt.lt
  · exact h.fu.lt
theorem Rn24.keeps {F : Nat → Prop} (h : Rn24 w M y ms wr fr mj m c z) (k : Keeps F w w') (hF : ∀ g, M g → ¬ F g) : Rn24 w' M y ms wr fr mj m c z := by
  obtain ⟨⟨M0, s, n1, n2, n3, hk⟩, b, t, f, r⟩ := id h
  exact ⟨⟨M0, s.keeps k (fun g e => hF g ((hk g).2 (.inl e))), n1, n2, n3, hk⟩, keeps_out k b (hF y h.ky), t.keeps k (hF wr h.kw), f.keeps k (hF fr h.kf), r⟩
theorem Rn24.below (h : Rn24 w M y ms wr fr mj m c z) (hb : Below w.heap.size w w') : Rn24 w' M y ms wr fr mj m c z :=
  h.keeps (Keeps.of_below hb (Nat.le_refl _) (fun _ => False)) (fun _ _ e => e)
theorem Rn24.turnW {n : Nat} (h : Rn24 w M y ms wr fr mj m c z) (k : Mwr w w' wr c.b c.l n) : Rn24 w' M y ms wr fr mj m c ⟨z.tk, n, z.s, z.head, z.G⟩ ∧ Mv8 w M w' M := by
  obtain ⟨⟨M0, s, n1, n2, n3, hk⟩, b, t, f, r⟩ := id h
  exact ⟨⟨⟨M0, s.keeps k.kp (fun g e q => n2 (by rw [← q]; exact e)), n1, n2, n3, hk⟩, keeps_out k.kp b h.ap.nyw, k.p, f.keeps k.kp (fun e => h.ap.nwf e.symm), r⟩, k.kp.wide (fun g e _ => by rw [e]; exact h.kw), fun g e => .inl e⟩
theorem Rn24.turnF {k : Fz} (h : Rn24 w M y ms wr fr mj m c z) (q : Mfz 40 w w' fr c.f c.p k) : Rn24 w' M y ms wr fr mj m c ⟨z.tk, z.n, k, z.head, z.G⟩ ∧ Mv8 w M w' M := by
  obtain ⟨⟨M0, s, n1, n2, n3, hk⟩, b, t, f, r⟩ := id h
  exact ⟨⟨⟨M0, s.keeps q.kp (fun g e q => n3 (by rw [← q]; exact e)), n1, n2, n3, hk⟩, keeps_out q.kp b h.ap.nyf, t.keeps q.kp h.ap.nwf, q.f, r⟩, q.kp.wide (fun g e _ => by rw [e]; exact h.kf), fun g e => .inl e⟩
theorem Rn24.setT (h : Rn24 w M y ms wr fr mj m c z) (v : Int) : Rn24 (w.setCell ⟨y, 3, none⟩ (.int .i64 v)) M y ms wr fr mj m c ⟨v, z.n, z.s, z.head, z.G⟩ ∧ Mv8 w M (w.setCell ⟨y, 3, none⟩ (.int .i64 v)) M := by
  obtain ⟨⟨M0, s, n1, n2, n3, hk⟩, b, t, f, r⟩ := id h
  have k : Keeps (fun g => g = y) w (w.setCell ⟨y, 3, none⟩ (.int .i64 v)) := (Keeps.refl _ w).set _ _ (.inl rfl)
  exact ⟨⟨⟨M0, s.keeps k (fun g e q => n1 (by rw [← q]; exact e)), n1, n2, n3, hk⟩, by rw [heap_set_same b]; rfl, t.keeps k (fun e => h.ap.nyw e.symm), f.keeps k (fun e => h.ap.nyf e.symm), r⟩, k.wide (fun g e _ => by rw [e]; exact h.ky), fun g e => .inl e⟩
theorem Rn24.callS {E : Ending → Prop} {f : FuncId} {args : Array Value} {head : Int} {G : List Sg} (h : Rn24 w M y ms wr fr mj m c z)
    (hc : ∀ M0, Rsp w M0 ms mj m c.rm false c.many c.room z.head (pts' z.G) → Calls Tryz.prog f args w fun e w' => E e ∧ ∃ M', Rsp w' M' ms mj m c.rm false c.many c.room head (pts' G) ∧ Mv8 w M0 w' M') :
    Calls Tryz.prog f args w fun e w' => E e ∧ ∃ M', Rn24 w' M' y ms wr fr mj m c ⟨z.tk, z.n, z.s, head, G⟩ ∧ Mv8 w M w' M' := by
  obtain ⟨⟨M0, s, n1, n2, n3, hk⟩, b, t, f, r⟩ := id h
  refine (hc M0 s).mono ?_
  rintro e w' ⟨he, M', s', mv⟩
  have out : ∀ g, g < w.heap.size → ¬ M0 g → ¬ M' g := fun g hl hn hk' => by
    rcases mv.own g hk' with e | e
    · exact hn e
    · omega
  refine ⟨he, fun g => M' g ∨ g = y ∨ g = wr ∨ g = fr, ⟨⟨M', s', out y (h.lt y h.ky) n1, out wr (h.lt wr h.kw) n2, out fr (h.lt fr h.kf) n3, fun g => Iff.rfl⟩, keeps_out mv.keeps b n1, t.keeps mv.keeps n2, f.keeps mv.keeps n3, r⟩, mv.keeps.wide (fun g e _ => (hk g).2 (.inl e)), fun g hg => ?_⟩
  rcases hg with e | rfl | rfl | rfl
  · rcases mv.own g e with e | e
    · exact .inl ((hk g).2 (.inl e))
    · exact .inr e
  · exact .inl h.ky
  · exact .inl h.kw
  · exact .inl h.kf
theorem Rn24.askS {f : FuncId} {args : Array Value} {Q : Ending → World → Prop} (h : Rn24 w M y ms wr fr mj m c z)
    (hc : ∀ M0, Rsp w M0 ms mj m c.rm false c.many c.room z.head (pts' z.G) → Calls Tryz.prog f args w Q) : Calls Tryz.prog f args w Q := by
  obtain ⟨M0, s, _⟩ := h.ex
  exact hc M0 s
/-- What a Try tells and makes. -/
def RfPost (w : World) (M : Nat → Prop) (y ms wr fr mj m : Nat) (c : Nz) (t : Rc) (is : Bool) (r : Nat) (z' : Zs) (e : Ending) (w' : World) : Prop :=
  e = .returned (.tuple #[.string ⟨t.toArray⟩, .bool is, .int .i64 (r : Nat)]) ∧ ∃ M', Rn24 w' M' y ms wr fr mj m c z' ∧ Mv8 w M w' M'
variable {now out : Int}
set_option maxRecDepth 100000 in
theorem ref_arg (h : Rn24 w M y ms wr fr mj m c z) (a : ¬ ArgZ now out) (jit : Int) :
    Calls Tryz.prog 16 #[.pointer (some ⟨y, 0, none⟩), .int .i64 now, .int .i64 out, .int .i64 jit] w (RfPost w M y ms wr fr mj m c [] false 1 z) := by
  have R : Hid (∃ M', Rn24 w M' y ms wr fr mj m c z ∧ Mv8 w M w M') := Lib.hid ⟨M, h, Mv8.still (Below.refl w.heap.size w)⟩
  have hw : now < 0 ∨ (¬ now < 0 ∧ 1099511627776 < now) ∨ (¬ now < 0 ∧ ¬ 1099511627776 < now ∧ out < 0) ∨ (¬ now < 0 ∧ ¬ 1099511627776 < now ∧ ¬ out < 0 ∧ 3 < out) := by unfold ArgZ WiF at a; omega
  clear h a
  rcases hw with y1 | ⟨y1, y2⟩ | ⟨y1, y2, y3⟩ | ⟨y1, y2, y3, y4⟩
  all_goals
    go_enter Tryz.func16, Tryz.ntmps16
    go_wp2_with fail
    go_ret3
    exact ⟨rfl, R.out⟩
set_option maxRecDepth 100000 in
theorem ref_none (h : Rn24 w M y ms wr fr mj m c z) (ok : SOk c.rm c.many c.room z.head z.G) (a : ArgZ now out) (hl : z.head = nxG z.G) (jit : Int) :
    Calls Tryz.prog 16 #[.pointer (some ⟨y, 0, none⟩), .int .i64 now, .int .i64 out, .int .i64 jit] w (RfPost w M y ms wr fr mj m c [] false 0 z) := by
  obtain ⟨⟨h0, h1⟩, h2, h3⟩ := a
  have CH := Lib.hid (h.askS (fun M0 s => rs_front_none s ok.g hl))
  have H := Lib.hid h
  have c0 := h.c0
  have x0 : ¬ now < 0 := by omega
  have x1 : ¬ 1099511627776 < now := by omega
  have x2 : ¬ out < 0 := by omega
  have x3 : ¬ 3 < out := by omega
  clear h ok hl h0 h1 h2 h3
  go_enter Tryz.func16, Tryz.ntmps16
  go_wp2_with fail
  refine CH.out.mono ?_
  rintro e w1 ⟨rfl, b1⟩
  clear CH
  go_wp2_with fail
  go_ret3
  exact ⟨rfl, M, H.out.below b1, Mv8.still b1⟩
set_option maxRecDepth 100000 in
theorem ref_early (h : Rn24 w M y ms wr fr mj m c z) (ok : ZOk c z) (a : ArgZ now out) (hl : z.head < nxG z.G) (ht : now < z.tk) (jit : Int) :
    Calls Tryz.prog 16 #[.pointer (some ⟨y, 0, none⟩), .int .i64 now, .int .i64 out, .int .i64 jit] w (RfPost w M y ms wr fr mj m c [] false 0 z) := by
  obtain ⟨⟨h0, h1⟩, h2, h3⟩ := a
  obtain ⟨k, b, hk, hr, hd, hb, hs⟩ := ok.head hl
  have CH := Lib.hid (h.askS (fun M0 s => rs_front s ok.sp.g hk hd))
  have H := Lib.hid h
  have c0 := h.c0
  have x0 : ¬ now < 0 := by omega
  have x1 : ¬ 1099511627776 < now := by omega
  have x2 : ¬ out < 0 := by omega
  have x3 : ¬ 3 < out := by omega
  clear h ok hl h0 h1 h2 h3 hk hr hd hb hs
  go_enter Tryz.func16, Tryz.ntmps16
  go_wp2_with fail
  refine CH.out.mono ?_
  rintro e w1 ⟨rfl, b1⟩
  have c3 := (H.out.below b1).c3
  clear CH
  go_wp2_with fail
  go_ret3
  exact ⟨rfl, M, H.out.below b1, Mv8.still b1⟩
set_option maxRecDepth 100000 in
theorem ref_shut (h : Rn24 w M y ms wr fr mj m c z) (ok : ZOk c z) (a : ArgZ now out) (hl : z.head < nxG z.G) (ht : ¬ now < z.tk) (hy : ¬ YesF c.p z.s now) (jit : Int) :
    Calls Tryz.prog 16 #[.pointer (some ⟨y, 0, none⟩), .int .i64 now, .int .i64 out, .int .i64 jit] w (RfPost w M y ms wr fr mj m c [] false 0 z) := by
  obtain ⟨⟨h0, h1⟩, h2, h3⟩ := a
  obtain ⟨k, b, hk, hr, hd, hb, hs⟩ := ok.head hl
  have CH := Lib.hid (h.askS (fun M0 s => rs_front s ok.sp.g hk hd))
  have CA := Lib.hid (fun wx (t : Rn24 wx M y ms wr fr mj m c z) => by
    have := ref_ask t.fu ok.gf ok.fz now (by omega) (by omega)
    rw [decide_eq_false hy, (show askF c.p z.s now = z.s from if_neg (fun q => hy q.1))] at this
    exact this)
  have H := Lib.hid h
  have c0 := h.c0
  have x0 : ¬ now < 0 := by omega
  have x1 : ¬ 1099511627776 < now := by omega
  have x2 : ¬ out < 0 := by omega
  have x3 : ¬ 3 < out := by omega
  clear h ok hl h0 h1 h2 h3 hk hr hd hb hs
  go_enter Tryz.func16, Tryz.ntmps16
  go_wp2_with fail
  refine CH.out.mono ?_
  rintro e w1 ⟨rfl, b1⟩
  have S1 := Lib.hid (H.out.below b1)
  have c3 := S1.out.c3
  have c2 := S1.out.c2
  have CX := Lib.hid (CA.out _ S1.out)
  have B1 := Lib.hid b1
  clear CH CA H b1
  go_wp2_with fail
  refine CX.out.mono ?_
  rintro e w2 ⟨rfl, m2⟩
  have S2 := Lib.hid (S1.out.turnF m2)
  clear m2 CX S1 c2 c3
  go_wp2_with fail
  go_ret3
  exact ⟨rfl, M, S2.out.1, (Mv8.still B1.out).trans S2.out.2⟩
set_option maxHeartbeats 1000000 in
set_option maxRecDepth 100000 in
theorem ref_acked (h : Rn24 w M y ms wr fr mj m c z) (ok : ZOk c z) (a : ArgZ now 0) (hl : z.head < nxG z.G) (ht : ¬ now < z.tk) (hy : YesF c.p z.s now) (jit : Int) :
    Calls Tryz.prog 16 #[.pointer (some ⟨y, 0, none⟩), .int .i64 now, .int .i64 0, .int .i64 jit] w (RfPost w M y ms wr fr mj m c (headZ z) true 0 (cameZ c z now)) := by
  obtain ⟨⟨h0, h1⟩, h2, h3⟩ := a
  obtain ⟨k, b, hk, hr, hd, hb, hs⟩ := ok.head hl
  have CH := Lib.hid (h.askS (fun M0 s => rs_front s ok.sp.g hk hd))
  have CA := Lib.hid (fun wx (t : Rn24 wx M y ms wr fr mj m c z) => by
    have := ref_ask t.fu ok.gf ok.fz now (by omega) (by omega)
    rw [decide_eq_true hy] at this
    exact this)
  have CK : Hid (∀ wx, Rn24 wx M y ms wr fr mj m c ⟨z.tk, 0, goodF (askF c.p z.s now), z.head, z.G⟩ → Calls Tryz.prog 41 #[.pointer (some ⟨ms, 0, none⟩), .int .i64 z.head] wx fun e w' => e = .returned (.int .i64 0) ∧ ∃ M', Rn24 w' M' y ms wr fr mj m c (cameZ c z now) ∧ Mv8 wx M w' M') := Lib.hid (fun wx t => t.callS (E := fun e => e = .returned (.int .i64 0)) (fun M0 s => rs_ack_ok s ok.sp.g hl (by have := ok.sp.bds; omega)))
  have H := Lib.hid h
  have c0 := h.c0
  have x0 : ¬ now < 0 := by omega
  have x1 : ¬ 1099511627776 < now := by omega
  clear h ok hl h0 h1 h2 h3 hk hr hd hb hs
  go_enter Tryz.func16, Tryz.ntmps16
  go_wp2_with fail
  refine CH.out.mono ?_
  rintro e w1 ⟨rfl, b1⟩
  have S1 := Lib.hid (H.out.below b1)
  have c3 := S1.out.c3
  have c2 := S1.out.c2
  have CX := Lib.hid (CA.out _ S1.out)
  have B1 := Lib.hid b1
  clear CH CA H b1 c0
  go_wp2_with fail
  refine CX.out.mono ?_
  rintro e w2 ⟨rfl, m2⟩
  have S2 := Lib.hid (S1.out.turnF m2)
  have c1 := S2.out.1.c1
  have v2 := S2.out.1.wt.c2
  have u2 := S2.out.1.wt.fr 2
  have S3 : Hid (Rn24 (w2.setCell ⟨wr, 2, none⟩ (.int .i64 0)) M y ms wr fr mj m c ⟨z.tk, 0, askF c.p z.s now, z.head, z.G⟩ ∧ Mv8 w2 M (w2.setCell ⟨wr, 2, none⟩ (.int .i64 0)) M) := Lib.hid (S2.out.1.turnW ((Mwr.refl S2.out.1.wt).set2 0))
  have c2 := S3.out.1.c2
  have CG := Lib.hid (ref_well S3.out.1.fu)
  clear m2 CX S1 c3
  go_wp2_with fail
  refine CG.out.mono ?_
  rintro e w4 ⟨rfl, m4⟩
  have S4 := Lib.hid (S3.out.1.turnF m4)
  have c0 := S4.out.1.c0
  have s2 := S4.out.1.s2
  have V4 := Lib.hid ((((Mv8.still B1.out).trans S2.out.2).trans S3.out.2).trans S4.out.2)
  have S4 := Lib.hid S4.out.1
  clear m4 CG c1 v2 u2 c2 S2 S3
  dsimp only at s2
  go_wp2_with fail
  go_region_with ((go_at_call 41; refine (CK.out _ (S4.out.below (below_drew _))).mono ?_; rintro e w5 ⟨rfl, M5, s5, v5⟩; have S5 := Lib.hid (And.intro s5 (V4.out.trans ((Mv8.still (below_drew _)).trans v5))); clear s5 v5))
  all_goals
    go_wp2_with fail
    go_ret3
    exact ⟨rfl, _, S5.out⟩
set_option maxHeartbeats 1000000 in
set_option maxRecDepth 100000 in
theorem ref_failed (h : Rn24 w M y ms wr fr mj m c z) (ok : ZOk c z) (hn : z.n ≤ 1000) (a : ArgZ now out) (hl : z.head < nxG z.G) (ht : ¬ now < z.tk) (hy : YesF c.p z.s now) (ho : out ≠ 0) (jit : Int) (j0 : -9223372036854775808 ≤ jit) (j1 : jit ≤ 9223372036854775807) :
    Calls Tryz.prog 16 #[.pointer (some ⟨y, 0, none⟩), .int .i64 now, .int .i64 out, .int .i64 jit] w (RfPost w M y ms wr fr mj m c (headZ z) true 0 (failZ c z now jit)) := by
  obtain ⟨⟨h0, h1⟩, h2, h3⟩ := a
  obtain ⟨k, b, hk, hr, hd, hb, hs⟩ := ok.head hl
  have CH := Lib.hid (h.askS (fun M0 s => rs_front s ok.sp.g hk hd))
  have CA := Lib.hid (fun wx (t : Rn24 wx M y ms wr fr mj m c z) => by
    have := ref_ask t.fu ok.gf ok.fz now (by omega) (by omega)
    rw [decide_eq_true hy] at this
    exact this)
  have CB : Hid (∀ wx, Rn24 wx M y ms wr fr mj m c ⟨z.tk, z.n, askF c.p z.s now, z.head, z.G⟩ → Calls Tryz.prog 42 #[.pointer (some ⟨fr, 0, none⟩), .int .i64 now] wx fun e w' => e = .returned (.tuple #[]) ∧ Mfz 40 wx w' fr c.f c.p (badF c.f (askF c.p z.s now) now)) := Lib.hid (fun wx t => ref_bad t.fu ok.gf (ok.fz.ask c.p now) now (by omega) (by omega))
  have b0 := bw_bd ok.gb z.n
  have b1 := ok.gb.b1
  have b2 := ok.gb.l1
  have jb := jit_bd (w := bwZ c.b c.l z.n) (by omega) jit
  have CW := Lib.hid (fun w1 (t : Wr w1 wr c.b c.l z.n) => ref_fail t ok.gb hn jit j0 j1)
  obtain ⟨v, hv⟩ : ∃ v, jitZ jit (bwZ c.b c.l z.n) = v := ⟨_, rfl⟩
  have z1 : IntKind.i64.wrap (now + v) = now + v := by rw [hv] at jb; exact IntWalk.i64_in _ (by omega)
  have HV : Hid (failZ c z now jit = ⟨now + v, z.n + 1, badF c.f (askF c.p z.s now) now, z.head, z.G⟩) := Lib.hid (by rw [← hv]; rfl)
  rw [hv] at CW
  have H := Lib.hid h
  have c0 := h.c0
  have x0 : ¬ now < 0 := by omega
  have x1 : ¬ 1099511627776 < now := by omega
  have x2 : ¬ out < 0 := by omega
  have x3 : ¬ 3 < out := by omega
  have x4 : (out == 0) = false := beq_eq_false_iff_ne.2 ho
  clear h ok hl h0 h1 h2 h3 hk hr hd hb hs b0 b1 b2 jb hv hn j0 j1
  go_enter Tryz.func16, Tryz.ntmps16
  go_wp2_with fail
  refine CH.out.mono ?_
  rintro e w1 ⟨rfl, b1⟩
  have S1 := Lib.hid (H.out.below b1)
  have c3 := S1.out.c3
  have c2 := S1.out.c2
  have CX := Lib.hid (CA.out _ S1.out)
  have B1 := Lib.hid b1
  clear CH CA H b1 c0
  go_wp2_with fail
  refine CX.out.mono ?_
  rintro e w2 ⟨rfl, m2⟩
  have S2 := Lib.hid (S1.out.turnF m2)
  have c2 := S2.out.1.c2
  have CB := Lib.hid (CB.out _ S2.out.1)
  clear m2 CX S1 c3
  go_wp2_with fail
  refine CB.out.mono ?_
  rintro e w3 ⟨rfl, m3⟩
  have S3 := Lib.hid (S2.out.1.turnF m3)
  have c1 := S3.out.1.c1
  have CW := Lib.hid (CW.out _ S3.out.1.wt)
  clear m3 CB c2
  go_wp2_with fail
  refine CW.out.mono ?_
  rintro e w4 ⟨rfl, m4⟩
  have S4 := Lib.hid (S3.out.1.turnW m4)
  have c3 := S4.out.1.c3
  have f3 := S4.out.1.fr_ 3
  have S5 := Lib.hid (S4.out.1.setT (now + v))
  have V5 := Lib.hid (((((Mv8.still B1.out).trans S2.out.2).trans S3.out.2).trans S4.out.2).trans S5.out.2)
  clear m4 CW c1 S2 S3
  dsimp only at c3
  go_wp2_with fail
  go_ret3
  exact ⟨rfl, M, by rw [HV.out]; exact S5.out.1, V5.out⟩
theorem ref_try (h : Rn24 w M y ms wr fr mj m c z) (ok : ZOk c z) (hn : z.n ≤ 1000) (now out jit : Int) (j0 : -9223372036854775808 ≤ jit) (j1 : jit ≤ 9223372036854775807) :
    Calls Tryz.prog 16 #[.pointer (some ⟨y, 0, none⟩), .int .i64 now, .int .i64 out, .int .i64 jit] w (RfPost w M y ms wr fr mj m c (tellZ c z now out) (sentZ c z now out) (codeZ now out) (sendZ c z now out jit)) := by
  rcases try_ways c z now out jit ok with ⟨a, e1, e2, e3, e4⟩ | ⟨a, hl, e1, e2, e3, e4⟩ | ⟨a, hl, ht, e1, e2, e3, e4⟩ | ⟨a, hl, ht, hy, e1, e2, e3, e4⟩ | ⟨a, hl, ht, hy, rfl, e1, e2, e3, e4⟩ | ⟨a, hl, ht, hy, ho, e1, e2, e3, e4⟩
  all_goals rw [e1, e2, e3, e4]
  · exact ref_arg h a jit
  · exact ref_none h ok.sp a hl jit
  · exact ref_early h ok a hl ht jit
  · exact ref_shut h ok a hl ht hy jit
  · exact ref_acked h ok a hl ht hy jit
  · exact ref_failed h ok hn a hl ht hy ho jit j0 j1
end
end Go.Proofs.YtgeahpfdaehjaaaGreatDoor
namespace Go.Proofs.YtgeahpfdaehjaaaGreatDoor
open Go.ChangeShapes Go.WideShapes Go.ChangeAt Go.RowKit
set_option linter.unusedVariables false

def PSn (x sp wb fb ad : Nat) (c : Nz) (z : Zs) : Side := fun w K => Sn w K x sp wb fb ad c z
def QSn (y ms wr fr mj m : Nat) (c : Nz) (z : Zs) : Side := fun w M => Rn24 w M y ms wr fr mj m c z
theorem PSn.closed (x sp wb fb ad : Nat) (c : Nz) (z : Zs) : Closed (PSn x sp wb fb ad c z) where
  keeps := fun h k h1 h2 => Sn.keeps h k h1 h2
  lt := fun h => Sn.lt h
theorem QSn.closed (y ms wr fr mj m : Nat) (c : Nz) (z : Zs) : Closed (QSn y ms wr fr mj m c z) where
  keeps := fun h k h1 _ => Rn24.keeps h k h1
  lt := fun h => Rn24.lt h
/-- Both, and bytes that neither holds. -/
def Mid (W w : World) (A : Option Addr) (cap : Nat) (t : Rc) (P Q : Side) : Prop :=
  ∃ K M, P w K ∧ Q w M ∧ (∀ g, K g → ¬ M g) ∧ (∀ g, K g → W.heap.size ≤ g) ∧ (∀ g, M g → W.heap.size ≤ g) ∧ Below W.heap.size W w ∧ 6 ≤ W.heap.size ∧ RdS w A cap t ∧ (∀ a, A = some a → ¬ M a.block) ∧ (∀ a, A = some a → a.block < w.heap.size ∨ t = [])
section
variable {W w w' : World} {P Q : Side} {A : Option Addr} {cap : Nat} {t : Rc} {x sp wb fb ad y ms wr fr mj m : Nat} {c : Nz} {z z' : Zs}
theorem Mid.below (h : Mid W w A cap t P Q) : Below W.heap.size W w := by
  obtain ⟨K, M, _, _, _, _, _, b, _⟩ := h
  exact b
theorem rd_lt (h : RdS w A cap t) : ∀ a, A = some a → a.block < w.heap.size ∨ t = [] := fun a ha => by
  cases t with
  | nil => exact .inr rfl
  | cons b t =>
    have h1 := h.rd a ha 0 b rfl
    have := World.block_lt_of_cell? w _ h1
    exact .inl this
theorem Mid.still (h : Mid W w A cap t P Q) (cP : Closed P) (cQ : Closed Q) (hb : Below w.heap.size w w') : Mid W w' A cap t P Q := by
  obtain ⟨K, M, h1, h2, h3, h4, h5, h6, h7, h8, h9, _⟩ := h
  have k := Keeps.of_below hb (Nat.le_refl _) (fun _ => False)
  have r := h8.below hb (Nat.le_refl _)
  exact ⟨K, M, cP.keeps h1 k (fun _ _ e => e) (fun _ e => e.elim), cQ.keeps h2 k (fun _ _ e => e) (fun _ e => e.elim), h3, h4, h5, h6.trans (hb.mono h6.size), h7, r, h9, rd_lt r⟩
theorem tryP (h : Two W w (PSn x sp wb fb ad c z) (QSn y ms wr fr mj m c z)) (ok : ZOk c z) (hn : z.n ≤ 1000) (now out jit : Int) (j0 : -9223372036854775808 ≤ jit) (j1 : jit ≤ 9223372036854775807) :
    Calls Tryz.prog 15 #[.pointer (some ⟨x, 0, none⟩), .int .i64 now, .int .i64 out, .int .i64 jit] w fun e w' => ∃ A cap, e = .returned (.tuple #[.slice A (tellZ c z now out).length cap, .bool (sentZ c z now out), ErrV (codeZ now out)]) ∧ Mid W w' A cap (tellZ c z now out) (PSn x sp wb fb ad c (sendZ c z now out jit)) (QSn y ms wr fr mj m c z) := by
  obtain ⟨K, M, h1, h2, h3, h4, h5, h6, h7⟩ := h
  refine (try_walk h1 ok hn now out jit j0 j1).mono ?_
  rintro e w' ⟨A, cap, e1, r, n1, K', s, mv⟩
  obtain ⟨b1, b2⟩ := mv.below h4 h6.size
  have hlt := Rn24.lt h2
  exact ⟨A, cap, e1, K', M, s, Rn24.keeps h2 mv.keeps (fun g hg e => h3 g e hg), fun g hg hM => by
    rcases mv.own g hg with e | e
    · exact h3 g e hM
    · have := hlt g hM; omega, b2, h5, h6.trans b1, h7, r, fun a ha hM => by have := n1 a ha; have := hlt _ hM; omega, rd_lt r⟩
theorem tryQ (h : Mid W w A cap t (PSn x sp wb fb ad c z') (QSn y ms wr fr mj m c z)) (ok : ZOk c z) (hn : z.n ≤ 1000) (now out jit : Int) (j0 : -9223372036854775808 ≤ jit) (j1 : jit ≤ 9223372036854775807) :
    Calls Tryz.prog 16 #[.pointer (some ⟨y, 0, none⟩), .int .i64 now, .int .i64 out, .int .i64 jit] w fun e w' => e = .returned (.tuple #[.string ⟨(tellZ c z now out).toArray⟩, .bool (sentZ c z now out), .int .i64 (codeZ now out : Nat)]) ∧ Two W w' (PSn x sp wb fb ad c z') (QSn y ms wr fr mj m c (sendZ c z now out jit)) ∧ RdS w' A cap t := by
  obtain ⟨K, M, h1, h2, h3, h4, h5, h6, h7, h8, h9, _⟩ := h
  refine (ref_try h2 ok hn now out jit j0 j1).mono ?_
  rintro e w' ⟨e1, M', s, mv⟩
  obtain ⟨b1, b2⟩ := mv.below h5 h6.size
  have hlt := Sn.lt h1
  exact ⟨e1, ⟨K, M', Sn.keeps h1 mv.keeps (fun g hg e => h3 g hg e) (fun g hg => Nat.le_trans h7 (h5 g hg)), s, fun g hg hM => by
    rcases mv.own g hM with e | e
    · exact h3 g hg e
    · have := hlt g hg; omega, h4, b2, h6.trans b1, h7⟩, h8.keeps mv.keeps (fun a ha hM => h9 a ha hM)⟩
/-- What is asked of the program's. -/
theorem Two.askP {f : FuncId} {args : Array Value} {R : Ending → World → Prop} (h : Two W w P Q) (hc : ∀ K, P w K → Calls Tryz.prog f args w R) : Calls Tryz.prog f args w R := by
  obtain ⟨K, M, h1, _⟩ := h
  exact hc K h1
theorem Two.askQ {f : FuncId} {args : Array Value} {R : Ending → World → Prop} (h : Two W w P Q) (hc : ∀ M, Q w M → Calls Tryz.prog f args w R) : Calls Tryz.prog f args w R := by
  obtain ⟨K, M, _, h2, _⟩ := h
  exact hc M h2
end
/-- What the deeds keep. -/
structure Iz (c : Nz) (i : Nat) (z : Zs) : Prop where
  ok : ZOk c z
  r : R5 0 z.G
  nx : nxG z.G ≤ (i : Nat)
  n : z.n ≤ i
  len : z.G.length ≤ i
def putZ (c : Nz) (z : Zs) : Zs := ⟨z.tk, z.n, z.s, z.head, putG c.many z.G (rc5 0 (nxG z.G).toNat)⟩
section
variable {c : Nz} {i : Nat} {z : Zs}
theorem Iz.send (h : Iz c i z) (now out jit : Int) : Iz c (i + 1) (sendZ c z now out jit) := by
  obtain ⟨e1, e2⟩ := send_nx (now := now) (out := out) (jit := jit) h.ok
  refine ⟨h.ok.send, ?_, by rw [e1]; have := h.nx; omega, by have := send_n c z now out jit; have := h.n; omega, by have := h.len; omega⟩
  unfold sendZ
  split
  · split
    · exact h.r.trim h.ok.sp.g.clean (by have := h.ok.sp.h0; omega)
    · exact h.r
  · exact h.r
structure PutOk (c : Nz) (z : Zs) : Prop where
  rows : (bt5 0 (nxG z.G).toNat).rows = []
  may : mayOk (bt5 0 (nxG z.G).toNat) = true
  seq : (bt5 0 (nxG z.G).toNat).seq = nxG z.G
  full : ¬ c.room ≤ nxG z.G - z.head
  large : ¬ 4096 < (putL (bt5 0 (nxG z.G).toNat)).length
  space : (encR (putL (bt5 0 (nxG z.G).toNat))).length ≤ c.rm - used (pts' z.G)
theorem Iz.may (h : Iz c i z) (hi : i < 100) (hrm : c.rm = 2000) (hro : c.room = 100) : PutOk c z := by
  have h1 := h.nx
  have h2 := h.ok.sp.bds
  have e : ((nxG z.G).toNat : Int) = nxG z.G := by omega
  exact ⟨rfl, may_21 _ (by omega) 0 (by omega), e, by rw [hro]; omega, by rw [show putL (bt5 0 (nxG z.G).toNat) = rc5 0 (nxG z.G).toNat from rfl, rc5_len (by omega) (by omega)]; omega, h.r.room h.ok.sp.g.clean (by omega) (by omega) (by omega) (by rw [hrm]; omega)⟩
theorem Iz.put (h : Iz c i z) (p : PutOk c z) (hi : i < 100) : Iz c (i + 1) (putZ c z) := by
  have h1 := h.nx
  have h2 := h.ok.sp.bds
  have h3 := h.len
  have e : ((nxG z.G).toNat : Int) = nxG z.G := by omega
  have s := h.ok.sp.put (b := bt5 0 (nxG z.G).toNat) (fun r hr => by simp [bt5] at hr) p.may p.seq p.large p.space (by omega) (by omega)
  exact ⟨⟨s, h.ok.gb, h.ok.gf, h.ok.fz, h.ok.t0, h.ok.t1⟩, h.r.put e.symm, by show nxG (putG _ _ _) ≤ _; rw [nx_put]; omega, by have := h.n; show z.n ≤ _; omega, by show (putG _ _ _).length ≤ _; have := len_put (many := c.many) (G := z.G) (r := rc5 0 (nxG z.G).toNat); omega⟩
end
section
variable {W w w' : World} {K M : Nat → Prop} {x sp wb fb ad y ms wr fr mj m : Nat} {c : Nz} {z : Zs}
/-- A Put on the program's. -/
theorem putPn (h : PSn x sp wb fb ad c z w K) (ok : ZOk c z) (p : PutOk c z) :
    Calls Tryz.prog 13 #[.pointer (some ⟨sp, 0, none⟩), .agg #[.int .i64 (nxG z.G), .int .i64 0, .slice none 0 0]] w fun e w' => e = .returned .nilIface ∧ ∃ K', PSn x sp wb fb ad c (putZ c z) w' K' ∧ Mv8 w K w' K' := by
  have hs := p.seq
  refine Sn.callS (head := z.head) (G := putG c.many z.G (rc5 0 (nxG z.G).toNat)) (E := fun e => e = .returned .nilIface) h (fun K0 aj s => ?_)
  have := putS_ok (b := bt5 0 (nxG z.G).toNat) (A := none) (c := 0) s ok.sp (RdR.nil _ _) sized_nil21 (fun r h => by simp [bt5] at h) p.may p.seq p.full p.large p.space
  rw [hs] at this
  exact this
/-- .. and on the document's. -/
theorem putQn (h : QSn y ms wr fr mj m c z w M) (ok : ZOk c z) (p : PutOk c z) :
    Calls Tryz.prog 14 #[.pointer (some ⟨ms, 0, none⟩), .agg #[.int .i64 (nxG z.G), .int .i64 0, .slice none 0 0]] w fun e w' => e = .returned (.int .i64 0) ∧ ∃ M', QSn y ms wr fr mj m c (putZ c z) w' M' ∧ Mv8 w M w' M' := by
  have hs := p.seq
  refine Rn24.callS (head := z.head) (G := putG c.many z.G (rc5 0 (nxG z.G).toNat)) (E := fun e => e = .returned (.int .i64 0)) h (fun M0 s => ?_)
  have := rs_put_ok (b := bt5 0 (nxG z.G).toNat) (A := none) (c := 0) s ok.sp.g (RdR.nil _ _) sized_nil21 (fun r h => by simp [bt5] at h) p.may p.seq ⟨by have := ok.sp.bds; omega, ok.sp.h1⟩ p.full p.large p.space
  rw [hs] at this
  exact this
end
/-! ### how the document's begins -/
abbrev waitR24 (b l : Int) : Obj := .cells #[.int .i64 b, .int .i64 l, .int .i64 0] 37 (0, 0)
abbrev fuseR24 (f p : Int) : Obj := .cells #[.int .i64 f, .int .i64 p, .int .i64 0, .int .i64 0, .int .i64 0] 40 (0, 0)
def lay24 (w : World) (wr fr : Nat) : World := (((w.alloc (.cells #[.int .i64 2000, .slice none 0 0, .bool false] 47)).alloc (.cells #[.pointer (some ⟨w.heap.size, 0, none⟩), .int .i64 3] 49)).alloc (.cells #[.pointer (some ⟨w.heap.size + 1, 0, none⟩), .int .i64 100, .int .i64 0] 51)).alloc (.cells #[.pointer (some ⟨w.heap.size + 1 + 1, 0, none⟩), .pointer (some ⟨wr, 0, none⟩), .pointer (some ⟨fr, 0, none⟩), .int .i64 0] 54)
theorem lay_24 {w : World} {wr fr : Nat} {b l f p : Int} (hw : Wr w wr b l 0) (hf : Fb 40 w fr f p Fz.new) (hne : wr ≠ fr) :
    ∃ M, Rn24 (lay24 w wr fr) M (w.heap.size + 1 + 1 + 1) (w.heap.size + 1 + 1) wr fr (w.heap.size + 1) w.heap.size ⟨2000, 3, 100, b, l, f, p⟩ ⟨0, 0, Fz.new, 0, []⟩ ∧ (∀ g, M g → g = wr ∨ g = fr ∨ w.heap.size ≤ g) ∧ Below w.heap.size w (lay24 w wr fr) := by
  have b1 := (Below.refl w.heap.size w).alloc (Nat.le_refl _) (.cells #[.int .i64 2000, .slice none 0 0, .bool false] 47)
  have b2 := b1.alloc b1.size (.cells #[.pointer (some ⟨w.heap.size, 0, none⟩), .int .i64 3] 49)
  have b3 := b2.alloc b2.size (.cells #[.pointer (some ⟨w.heap.size + 1, 0, none⟩), .int .i64 100, .int .i64 0] 51)
  have b4 : Below w.heap.size w (lay24 w wr fr) := b3.alloc b3.size _
  have lw := hw.lt
  have lf := hf.lt
  have e0 : (lay24 w wr fr).heap[w.heap.size]? = some (.cells #[.int .i64 2000, .slice none 0 0, .bool false] 47 (0, 0)) := by
    unfold lay24
    have c := heap_alloc_new w (.cells #[.int .i64 2000, .slice none 0 0, .bool false] 47)
    rw [(below_new _ _).block _ (by simp only [World.size_alloc]; omega), (below_new _ _).block _ (by simp only [World.size_alloc]; omega), (below_new _ _).block _ (by simp only [World.size_alloc]; omega)]
    exact c
  have e1 : (lay24 w wr fr).heap[w.heap.size + 1]? = some (.cells #[.pointer (some ⟨w.heap.size, 0, none⟩), .int .i64 3] 49 (0, 0)) := by
    unfold lay24
    have c := heap_alloc_new (w.alloc (.cells #[.int .i64 2000, .slice none 0 0, .bool false] 47)) (.cells #[.pointer (some ⟨w.heap.size, 0, none⟩), .int .i64 3] 49)
    simp only [World.size_alloc] at c
    rw [(below_new _ _).block _ (by simp only [World.size_alloc]; omega), (below_new _ _).block _ (by simp only [World.size_alloc]; omega)]
    exact c
  have e2 : (lay24 w wr fr).heap[w.heap.size + 1 + 1]? = some (.cells #[.pointer (some ⟨w.heap.size + 1, 0, none⟩), .int .i64 100, .int .i64 0] 51 (0, 0)) := by
    unfold lay24
    have c := heap_alloc_new ((w.alloc (.cells #[.int .i64 2000, .slice none 0 0, .bool false] 47)).alloc (.cells #[.pointer (some ⟨w.heap.size, 0, none⟩), .int .i64 3] 49)) (.cells #[.pointer (some ⟨w.heap.size + 1, 0, none⟩), .int .i64 100, .int .i64 0] 51)
    simp only [World.size_alloc] at c
    rw [(below_new _ _).block _ (by simp only [World.size_alloc]; omega)]
    exact c
  have e3 : (lay24 w wr fr).heap[w.heap.size + 1 + 1 + 1]? = some (.cells #[.pointer (some ⟨w.heap.size + 1 + 1, 0, none⟩), .pointer (some ⟨wr, 0, none⟩), .pointer (some ⟨fr, 0, none⟩), .int .i64 0] 54 (0, 0)) := by
    unfold lay24
    have c := heap_alloc_new (((w.alloc (.cells #[.int .i64 2000, .slice none 0 0, .bool false] 47)).alloc (.cells #[.pointer (some ⟨w.heap.size, 0, none⟩), .int .i64 3] 49)).alloc (.cells #[.pointer (some ⟨w.heap.size + 1, 0, none⟩), .int .i64 100, .int .i64 0] 51)) (.cells #[.pointer (some ⟨w.heap.size + 1 + 1, 0, none⟩), .pointer (some ⟨wr, 0, none⟩), .pointer (some ⟨fr, 0, none⟩), .int .i64 0] 54)
    simp only [World.size_alloc] at c
    exact c
  have nf : ¬ footR w.heap.size none (w.heap.size + 1 + 1) := fun e => by
    rcases e with e | ⟨_, e, _⟩
    · omega
    · cases e
  have hS : Rsp (lay24 w wr fr) (fun g => footR w.heap.size none g ∨ g = w.heap.size + 1 ∨ g = w.heap.size + 1 + 1) (w.heap.size + 1 + 1) (w.heap.size + 1) w.heap.size 2000 false 3 100 0 [] := ⟨e2, footR w.heap.size none, ⟨e1, none, 0, ⟨e0, World.ownsRow_nil _ _ _ _⟩, fun g => Iff.rfl⟩, nf, by omega, fun g => Iff.rfl⟩
  have out : ∀ g, (footR w.heap.size none g ∨ g = w.heap.size + 1 ∨ g = w.heap.size + 1 + 1) → w.heap.size ≤ g ∧ g ≤ w.heap.size + 1 + 1 := fun g hg => by
    rcases hg with (e | ⟨_, e, _⟩) | e | e
    · omega
    · cases e
    · omega
    · omega
  refine ⟨fun g => (footR w.heap.size none g ∨ g = w.heap.size + 1 ∨ g = w.heap.size + 1 + 1) ∨ g = w.heap.size + 1 + 1 + 1 ∨ g = wr ∨ g = fr, ⟨⟨_, hS, fun e => by have := out _ e; omega, fun e => by have := out _ e; omega, fun e => by have := out _ e; omega, fun g => Iff.rfl⟩, e3, hw.still b4, hf.still b4, ⟨by omega, by omega, hne⟩⟩, fun g hg => ?_, b4⟩
  rcases hg with e | e | e | e
  · exact .inr (.inr (out g e).1)
  · exact .inr (.inr (by omega))
  · exact .inl e
  · exact .inr (.inl e)
end Go.Proofs.YtgeahpfdaehjaaaGreatDoor
namespace Go.Proofs.YtgeahpfdaehjaaaGreatDoor
open Go.ChangeShapes Go.WideShapes Go.ChangeAt Go.RowKit
set_option linter.unusedVariables false

theorem code24_walk (w : World) (c : Nat) (hc : c ≤ 10) :
    Calls Tryz.prog 12 #[ErrV c] w fun e w' => e = .returned (.int .i64 (c : Nat)) ∧ w' = w := by
  by_cases h0 : c = 0
  · subst h0
    rw [ErrV_0]
    go_enter Tryz.func12, Tryz.ntmps12
    go_wp2_with fail
    go_ret
    exact ⟨rfl, rfl⟩
  · rw [ErrV_code c h0]
    have eqc := eql_codes
    go_enter Tryz.func12, Tryz.ntmps12
    go_wp2_with fail
    go_loop [3] (fun s => ∃ k : Nat, 1 ≤ k ∧ k ≤ c ∧ s = .int .i64 k) (fun s => c - (intOf s).toNat)
    case atStart => exact ⟨1, by omega, by omega, rfl⟩
    case round =>
      obtain ⟨k, hk1, hk, rfl⟩ := hrel
      have x1 : decide ((k : Int) ≤ 10) = true := decide_eq_true (by omega)
      by_cases e : k = c
      · subst e
        have x2 : ((k : Int) == (k : Int)) = true := by simp
        go_wp2_with fail
        go_ret
        exact ⟨rfl, rfl⟩
      · have x2 : ((c : Int) == (k : Int)) = false := beq_eq_false_iff_ne.2 (by omega)
        go_wp2_with fail
        go_round
        case rel => exact ⟨k + 1, by omega, by omega, by go_num⟩
        case measure => simp [intOf]; omega
theorem wait_laid24 (w : World) (b l : Int) : Wr (w.alloc (waitR24 b l)) w.heap.size b l 0 := heap_alloc_new w _
theorem fuse_laid24 (w : World) (f p : Int) : Fb 40 (w.alloc (fuseR24 f p)) w.heap.size f p Fz.new := heap_alloc_new w _
section
variable {W : World}
set_option maxHeartbeats 1000000 in
set_option maxRecDepth 100000 in
theorem tries_badB (b lim f p : Int) (A : Option Addr) (n cap : Nat) (hL : Laid W) (hg : ¬ GoodB b lim) :
    Calls Tryz.prog 3 #[.int .i64 b, .int .i64 lim, .int .i64 f, .int .i64 p, .slice A n cap] W (Holds W) := by
  have CU := Lib.hid (up_send W hL)
  have HL := Lib.hid hL
  have CN := Lib.hid (fun w a => newZ_badB w a b lim f p hg)
  have CG : Hid (∀ (w : World) (a : Nat), Wr w a b lim 0 → Calls Tryz.prog 9 #[.pointer (some ⟨a, 0, none⟩)] w fun e w' => e = .returned (.bool false) ∧ ∃ q, w' = w.drewN q) := Lib.hid (fun w a h => refB_no h hg)
  have eqc := eql_codes
  clear hL hg
  go_enter Tryz.func3, Tryz.ntmps3
  go_wp2_with fail
  refine CU.out.mono ?_
  rintro e w1 ⟨rfl, b1⟩
  have C1 := Lib.hid (new_good w1 2000 (by omega) (by omega))
  have B1 := Lib.hid b1
  clear b1 CU
  go_wp2_with fail
  refine C1.out.mono ?_
  rintro e w2 ⟨ad, F, rfl, d2, b2, hF⟩
  have C2 := Lib.hid (open24 ((HL.out.below B1.out).below b2) (B1.out.trans (b2.mono B1.out.size)) (fun g hg => by have := hF g hg; have := B1.out.size; omega) HL.out.n 2000 (by omega) d2)
  clear C1 d2 b2 hF
  go_wp2_with fail
  refine C2.out.mono ?_
  rintro e w3 ⟨sp, aj, K3, rfl, S3⟩
  have B3 := Lib.hid S3.2.2
  have C3 := Lib.hid (CN.out w3 ⟨sp, 0, none⟩)
  clear C2 S3 CN
  go_wp2_with fail
  refine C3.out.mono ?_
  rintro e w4 ⟨rfl, rfl⟩
  have B4 := Lib.hid (B3.out.alloc B3.out.size (waitR24 b lim))
  have B5 := Lib.hid (B4.out.alloc B4.out.size (fuseR24 f p))
  have R5 := (wait_laid24 w3 b lim).still (below_new _ (fuseR24 f p))
  have C5 := Lib.hid (CG.out _ _ R5)
  clear C3 CG R5 B3
  go_wp2_with fail
  refine C5.out.mono ?_
  rintro e w6 ⟨rfl, q, rfl⟩
  clear C5
  go_wp2_with fail
  go_ret
  exact ⟨rfl, B5.out.trans ((below_drewN _ q).mono B5.out.size)⟩
set_option maxHeartbeats 1000000 in
set_option maxRecDepth 100000 in
theorem tries_badF (b lim f p : Int) (A : Option Addr) (n cap : Nat) (hL : Laid W) (g : GoodB b lim) (hg : ¬ GoodF f p) :
    Calls Tryz.prog 3 #[.int .i64 b, .int .i64 lim, .int .i64 f, .int .i64 p, .slice A n cap] W (Holds W) := by
  have CU := Lib.hid (up_send W hL)
  have HL := Lib.hid hL
  have CN := Lib.hid (fun w a => newZ_badF w a b lim f p g hg)
  have CG : Hid (∀ (w : World) (a : Nat), Wr w a b lim 0 → Calls Tryz.prog 9 #[.pointer (some ⟨a, 0, none⟩)] w fun e w' => e = .returned (.bool true) ∧ ∃ q, w' = w.drewN q) := Lib.hid (fun w a h => refB_yes h g)
  have CH : Hid (∀ (w : World) (a : Nat), Fb 40 w a f p Fz.new → Calls Tryz.prog 10 #[.pointer (some ⟨a, 0, none⟩)] w fun e w' => e = .returned (.bool false) ∧ ∃ q, w' = w.drewN q) := Lib.hid (fun w a h => refF_no h hg)
  have eqc := eql_codes
  clear hL hg g
  go_enter Tryz.func3, Tryz.ntmps3
  go_wp2_with fail
  refine CU.out.mono ?_
  rintro e w1 ⟨rfl, b1⟩
  have C1 := Lib.hid (new_good w1 2000 (by omega) (by omega))
  have B1 := Lib.hid b1
  clear b1 CU
  go_wp2_with fail
  refine C1.out.mono ?_
  rintro e w2 ⟨ad, F, rfl, d2, b2, hF⟩
  have C2 := Lib.hid (open24 ((HL.out.below B1.out).below b2) (B1.out.trans (b2.mono B1.out.size)) (fun g hg => by have := hF g hg; have := B1.out.size; omega) HL.out.n 2000 (by omega) d2)
  clear C1 d2 b2 hF
  go_wp2_with fail
  refine C2.out.mono ?_
  rintro e w3 ⟨sp, aj, K3, rfl, S3⟩
  have B3 := Lib.hid S3.2.2
  have C3 := Lib.hid (CN.out w3 ⟨sp, 0, none⟩)
  clear C2 S3 CN
  go_wp2_with fail
  refine C3.out.mono ?_
  rintro e w4 ⟨rfl, b4⟩
  have B3 := Lib.hid (B3.out.trans (b4.mono B3.out.size))
  have B4 := Lib.hid (B3.out.alloc B3.out.size (waitR24 b lim))
  have B5 := Lib.hid (B4.out.alloc B4.out.size (fuseR24 f p))
  have R5 := (wait_laid24 w4 b lim).still (below_new _ (fuseR24 f p))
  have F5 := fuse_laid24 (w4.alloc (waitR24 b lim)) f p
  rw [World.size_alloc] at F5
  have C5 := Lib.hid (CG.out _ _ R5)
  have C6 := Lib.hid (fun q => CH.out _ _ (F5.drewN q))
  clear C3 CG R5 B3 F5 CH b4
  go_wp2_with fail
  refine C5.out.mono ?_
  rintro e w6 ⟨rfl, q, rfl⟩
  clear C5
  go_wp2_with fail
  refine (C6.out _).mono ?_
  rintro e w7 ⟨rfl, q2, rfl⟩
  go_wp2_with fail
  go_ret
  exact ⟨rfl, B5.out.trans ((below_drewN _ _).mono B5.out.size)⟩
set_option maxHeartbeats 1000000 in
set_option maxRecDepth 100000 in
theorem tries_many (b lim f p : Int) (A : Option Addr) (n cap : Nat) (hL : Laid W) (g : GoodB b lim) (k : GoodF f p) (hn : 100 < n) :
    Calls Tryz.prog 3 #[.int .i64 b, .int .i64 lim, .int .i64 f, .int .i64 p, .slice A n cap] W (Holds W) := by
  have CU := Lib.hid (up_send W hL)
  have HL := Lib.hid hL
  have HG := Lib.hid g
  have HK := Lib.hid k
  have CG : Hid (∀ (w : World) (a : Nat), Wr w a b lim 0 → Calls Tryz.prog 9 #[.pointer (some ⟨a, 0, none⟩)] w fun e w' => e = .returned (.bool true) ∧ ∃ q, w' = w.drewN q) := Lib.hid (fun w a h => refB_yes h g)
  have CH : Hid (∀ (w : World) (a : Nat), Fb 40 w a f p Fz.new → Calls Tryz.prog 10 #[.pointer (some ⟨a, 0, none⟩)] w fun e w' => e = .returned (.bool true) ∧ ∃ q, w' = w.drewN q) := Lib.hid (fun w a h => refF_yes h k)
  have x1 : (100 : Int) < (n : Int) := by omega
  clear hL g k hn
  go_enter Tryz.func3, Tryz.ntmps3
  go_wp2_with fail
  refine CU.out.mono ?_
  rintro e w1 ⟨rfl, b1⟩
  have C1 := Lib.hid (new_good w1 2000 (by omega) (by omega))
  have B1 := Lib.hid b1
  clear b1 CU
  go_wp2_with fail
  refine C1.out.mono ?_
  rintro e w2 ⟨ad, F, rfl, d2, b2, hF⟩
  have C2 := Lib.hid (open24 ((HL.out.below B1.out).below b2) (B1.out.trans (b2.mono B1.out.size)) (fun g hg => by have := hF g hg; have := B1.out.size; omega) HL.out.n 2000 (by omega) d2)
  clear C1 d2 b2 hF
  go_wp2_with fail
  refine C2.out.mono ?_
  rintro e w3 ⟨sp, aj, K3, rfl, S3⟩
  have C3 : Hid (Calls Tryz.prog 8 #[.pointer (some ⟨sp, 0, none⟩), .int .i64 b, .int .i64 lim, .int .i64 f, .int .i64 p] w3 fun e w' => ∃ x, e = .returned (.tuple #[.pointer (some ⟨x, 0, none⟩), .nilIface]) ∧ Below W.heap.size W w') := Lib.hid ((newZ_good (c := ⟨2000, 3, 100, b, lim, f, p⟩) S3.1 HG.out HK.out).mono fun e w' ⟨x, wb, fb, K, e1, s, m⟩ => by
    obtain ⟨q1, q2⟩ := m.below S3.2.1 S3.2.2.size
    exact ⟨x, e1, S3.2.2.trans q1⟩)
  clear C2 S3
  go_wp2_with fail
  refine C3.out.mono ?_
  rintro e w4 ⟨x, rfl, b4⟩
  have B3 := Lib.hid b4
  have B4 := Lib.hid (B3.out.alloc B3.out.size (waitR24 b lim))
  have B5 := Lib.hid (B4.out.alloc B4.out.size (fuseR24 f p))
  have R5 := (wait_laid24 w4 b lim).still (below_new _ (fuseR24 f p))
  have F5 := fuse_laid24 (w4.alloc (waitR24 b lim)) f p
  rw [World.size_alloc] at F5
  have C5 := Lib.hid (CG.out _ _ R5)
  have C6 := Lib.hid (fun q => CH.out _ _ (F5.drewN q))
  clear C3 CG R5 B3 F5 CH b4
  go_wp2_with fail
  refine C5.out.mono ?_
  rintro e w6 ⟨rfl, q, rfl⟩
  clear C5
  go_wp2_with fail
  refine (C6.out _).mono ?_
  rintro e w7 ⟨rfl, q2, rfl⟩
  go_wp2_with fail
  go_ret
  exact ⟨rfl, B5.out.trans ((below_drewN _ _).mono B5.out.size)⟩
end
end Go.Proofs.YtgeahpfdaehjaaaGreatDoor
