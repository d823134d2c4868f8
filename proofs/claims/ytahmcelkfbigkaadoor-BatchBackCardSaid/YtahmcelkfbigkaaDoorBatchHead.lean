/-
  Layer 7 (batch): the reader's method batch.
  Layer 7 (batch): Get: the batch whose bytes they are, or the error ErrForm.
  Layer 7 (batch): the head of its laws; the law BatchBack, walked.
-/
import Derived.Test.YtahmcelkfbigkaaDoorBatchRow
import Derived.Test.YtahmcelkfbigkaaDoorBatchLike
namespace Go.Proofs.YtahmcelkfbigkaaDoor
open Go.ChangeShapes Go.WideShapes Go.ChangeAt Go.RowKit
set_option linter.unusedVariables false

theorem OwnR.kp {w w1 : World} {P N base : Nat} {A : Option Addr} {cap : Nat} {rows : List Rw} (h : OwnR w base A cap rows) (k : Kp w P N w1) (hP : P < base) (hN : N < base) : OwnR w1 base A cap rows := by
  obtain ⟨l, e, h1, h2⟩ := h
  exact ⟨l, e, k.own h1 hP hN, fun x hx => k.own (h2 x hx) hP hN⟩
theorem BtB.kp {w w' : World} {P N g : Nat} {s t : Int} {A : Option Addr} {n c : Nat} (h : BtB w g s t A n c) (k : Kp w P N w') (h1 : g ≠ P) (h2 : g ≠ N) : BtB w' g s t A n c := ⟨by rw [k.block g h.lt h1 h2]; exact h.blk⟩
section
variable (w : World) (P N : Nat) (A : Option Addr) (cap : Nat) (l : List UInt8)
/-- Where the reading of a batch stands: the result's block; the batch's own, with its rows. -/
structure Ka (g : Gs) (wr : World) : Prop where
  kp : Kp w P N wr
  brd : Brd wr P N A cap l g
  res : BtB wr w.heap.size 0 0 none 0 0
  hP : P < w.heap.size
  hN : N < w.heap.size
structure Kl (g : Gs) (wr : World) (G : Nat) (s t : Int) (rows : List Rw) (B : Option Addr) (c : Nat) : Prop where
  on : Ka w P N A cap l g wr
  bt : BtB wr G s t B rows.length c
  far : w.heap.size + 1 ≤ G
  own : OwnR wr (w.heap.size + 1) B c rows
end
section
variable {w : World} {P N : Nat} {A : Option Addr} {cap : Nat} {l : List UInt8} {g g' : Gs} {wr w' : World} {G : Nat} {s t : Int} {rows : List Rw} {r : Rw} {B : Option Addr} {c : Nat}
theorem Ka.size (h : Ka w P N A cap l g wr) : w.heap.size + 1 ≤ wr.heap.size := h.res.lt
theorem Ka.next (h : Ka w P N A cap l g wr) (k : Kp wr P N w') (b : Brd w' P N A cap l g') : Ka w P N A cap l g' w' :=
  ⟨h.kp.trans k, b, h.res.kp k (by have := h.hP; omega) (by have := h.hN; omega), h.hP, h.hN⟩
theorem Ka.c0 (h : Ka w P N A cap l g wr) : wr.cell? ⟨P, 0, none⟩ = some (.pointer (some ⟨N, 0, none⟩)) := h.brd.c0
theorem Ka.grown (h : Ka w P N A cap l g wr) {q : Option Nat} (hg : wr.grownBy w' q) (hq : ∀ b, q = some b → w.heap.size + 1 ≤ b) (hold : ∀ ad, A = some ad → l ≠ [] → ad.block < w.heap.size) : Ka w P N A cap l g w' :=
  ⟨h.kp.grown hg (fun b e => .inr (.inr (by have := hq b e; omega))), h.brd.grown hg (fun b e => by have := hq b e; have := h.hP; have := h.hN; exact ⟨by omega, by omega, fun ad ha hne => by have := hold ad ha hne; omega⟩),
   h.res.grown hg (fun e => by have := hq _ e; omega), h.hP, h.hN⟩
theorem Ka.alloc0 (h : Ka w P N A cap l g wr) (o : Obj) : Ka w P N A cap l g (wr.alloc o) := h.next (Kp.refl _ _ _ |>.alloc o) (h.brd.alloc o)
theorem Ka.lay (h : Ka w P N A cap l g wr) (s t : Int) : Kl w P N A cap l g (wr.alloc (.cells #[.int .i64 s, .int .i64 t, .slice none 0 0] 24)) wr.heap.size s t [] none 0 :=
  ⟨h.alloc0 _, ⟨heap_alloc_new wr _⟩, h.size, OwnR.nil _ _⟩
theorem liftK {f : Nat} {as_ : Array Value} {V : Value} (H : ∀ w', Brd w' P N A cap l g → Calls Tryd.prog f as_ w' (fun e w'' => e = .returned V ∧ Kp w' P N w'' ∧ Brd w'' P N A cap l g')) :
    ∀ w', Ka w P N A cap l g w' → Calls Tryd.prog f as_ w' (fun e w'' => e = .returned V ∧ Ka w P N A cap l g' w'') :=
  fun w' h => (H w' h.brd).mono fun e w'' ⟨he, hk, hb⟩ => ⟨he, h.next hk hb⟩
theorem Kl.next (h : Kl w P N A cap l g wr G s t rows B c) (k : Kp wr P N w') (b : Brd w' P N A cap l g') : Kl w P N A cap l g' w' G s t rows B c :=
  ⟨h.on.next k b, h.bt.kp k (by have := h.on.hP; have := h.far; omega) (by have := h.on.hN; have := h.far; omega), h.far, h.own.kp k (by have := h.on.hP; omega) (by have := h.on.hN; omega)⟩
theorem liftKl {f : Nat} {as_ : Array Value} {V : Value} (H : ∀ w', Brd w' P N A cap l g → Calls Tryd.prog f as_ w' (fun e w'' => e = .returned V ∧ Kp w' P N w'' ∧ Brd w'' P N A cap l g')) :
    ∀ w', Kl w P N A cap l g w' G s t rows B c → Calls Tryd.prog f as_ w' (fun e w'' => e = .returned V ∧ Kl w P N A cap l g' w'' G s t rows B c) :=
  fun w' h => (H w' h.on.brd).mono fun e w'' ⟨he, hk, hb⟩ => ⟨he, h.next hk hb⟩
theorem Kl.row (hl : l.length ≤ 1000000) (er : gRow l g = (r, g')) : ∀ w', Kl w P N A cap l g w' G s t rows B c → Calls Tryd.prog 38 #[.pointer (some ⟨P, 0, none⟩)] w'
    (fun e w'' => ∃ B9 c9, e = .returned (.agg #[.string r.key, .int .i64 r.kind, .int .u64 (r.many : Nat), .int .i64 r.sum, .int .i64 r.least, .int .i64 r.most, .bool r.over, .slice B9 r.bks.length c9]) ∧ Kl w P N A cap l g' w'' G s t rows B c ∧ OwnN w'' (w.heap.size + 1) B9 c9 r.bks) :=
  fun w' h => by
    have hb := brRow w' P N A cap l g h.on.brd hl
    rw [er] at hb
    refine hb.mono ?_
    rintro e w'' ⟨B9, c9, rfl, hk, hbr, ho⟩
    exact ⟨B9, c9, rfl, h.next hk hbr, owns_mono ho h.on.size⟩
theorem Kl.app {w8 : World} {B9 : Option Addr} {c9 : Nat} (h : Kl w P N A cap l g wr G s t rows B c) (hold : ∀ ad, A = some ad → l ≠ [] → ad.block < w.heap.size)
    (g8 : (wr.alloc (rowObj r B9 c9)).grownBy w8 (Value.slice B rows.length c).ownBlock) : Ka w P N A cap l g w8 ∧ BtB w8 G s t B rows.length c := by
  have hk : ∀ b, (Value.slice B rows.length c).ownBlock = some b → w.heap.size + 1 ≤ b ∧ b ≠ G := fun b hb => by
    obtain ⟨h1, _, c', f, h2⟩ := h.own.far b hb
    refine ⟨h1, fun e => ?_⟩
    rw [e, h.bt.blk] at h2
    cases h2
  exact ⟨(h.on.alloc0 _).grown g8 (fun b e => (hk b e).1) hold, (h.bt.alloc _).grown g8 (fun e => (hk G e).2 rfl)⟩
theorem Kl.put {w8 : World} {A8 : Option Addr} {c8 : Nat} (h : Ka w P N A cap l g w8 ∧ BtB w8 G s t B rows.length c) (far : w.heap.size + 1 ≤ G) (hold : ∀ ad, A = some ad → l ≠ [] → ad.block < w.heap.size)
    (o8 : OwnR w8 (w.heap.size + 1) A8 c8 (rows ++ [r])) : Kl w P N A cap l g (w8.setCell ⟨G, 2, none⟩ (.slice A8 (rows.length + 1) c8)) G s t (rows ++ [r]) A8 c8 := by
  have gr := grown_set (grown_refl w8 (some G)) ⟨G, 2, none⟩ (.slice A8 (rows.length + 1) c8) (Or.inl rfl)
  refine ⟨h.1.grown gr (fun b e => by cases e; exact far) hold, ⟨?_⟩, far, ?_⟩
  · have := heap_set_same (o := 2) (v := .slice A8 (rows.length + 1) c8) h.2.blk
    rw [show (rows ++ [r]).length = rows.length + 1 by simp]
    exact this
  · exact o8.kept gr (fun b e => by cases e; exact .inr ⟨_, _, _, h.2.blk, by decide, by decide⟩)
theorem Kl.ret (h : Kl w P N A cap l g wr G s t rows B c) (hold : ∀ ad, A = some ad → l ≠ [] → ad.block < w.heap.size) (v0 v1 v2 : Value) :
    Kp w P N (((wr.setCell ⟨w.heap.size, 0, none⟩ v0).setCell ⟨w.heap.size, 1, none⟩ v1).setCell ⟨w.heap.size, 2, none⟩ v2) ∧ Brd (((wr.setCell ⟨w.heap.size, 0, none⟩ v0).setCell ⟨w.heap.size, 1, none⟩ v1).setCell ⟨w.heap.size, 2, none⟩ v2) P N A cap l g ∧ OwnR (((wr.setCell ⟨w.heap.size, 0, none⟩ v0).setCell ⟨w.heap.size, 1, none⟩ v1).setCell ⟨w.heap.size, 2, none⟩ v2) w.heap.size B c rows := by
  have gr : wr.grownBy (((wr.setCell ⟨w.heap.size, 0, none⟩ v0).setCell ⟨w.heap.size, 1, none⟩ v1).setCell ⟨w.heap.size, 2, none⟩ v2) (some w.heap.size) := by
    refine grown_set (grown_set (grown_set (grown_refl _ _) _ _ ?_) _ _ ?_) _ _ ?_ <;> exact Or.inl rfl
  have hP := h.on.hP
  have hN := h.on.hN
  refine ⟨h.on.kp.grown gr (fun b e => by cases e; exact .inr (.inr (Nat.le_refl _))), h.on.brd.grown gr (fun b e => by cases e; exact ⟨by omega, by omega, fun ad ha hne => by have := hold ad ha hne; omega⟩), ?_⟩
  exact (h.own.kept gr (fun b e => by cases e; exact .inl (Nat.lt_succ_self _))).mono (Nat.le_succ _)
end
def BatchPost (w : World) (P N : Nat) (A : Option Addr) (cap : Nat) (l : List UInt8) (b : Bt) (g : Gs) (e : Ending) (w' : World) : Prop :=
  ∃ B c, e = .returned (btVal b.seq b.start B b.rows.length c) ∧ Kp w P N w' ∧ Brd w' P N A cap l g ∧ OwnR w' w.heap.size B c b.rows
set_option maxHeartbeats 4000000 in
set_option maxRecDepth 100000 in
theorem brBatch (w : World) (P N : Nat) (A : Option Addr) (cap : Nat) (l : List UInt8) (h : Brd w P N A cap l g0) (hl : l.length ≤ 1000000) :
    Calls Tryd.prog 23 #[.pointer (some ⟨P, 0, none⟩)] w (BatchPost w P N A cap l (gBatch l).1 (gBatch l).2) := by
  have hold := Lib.hid h.old
  obtain ⟨vs, gs, e1⟩ : ∃ vs gs, gUp l 2147483647 g0 = (vs, gs) := ⟨_, _, rfl⟩
  obtain ⟨vt, gt, e2⟩ : ∃ vt gt, gUp l 1099511627776 gs = (vt, gt) := ⟨_, _, rfl⟩
  obtain ⟨M, gm, e3⟩ : ∃ M gm, gUp l 200 gt = (M, gm) := ⟨_, _, rfl⟩
  have hs : vs ≤ 2147483647 := by have := gUp_le l 2147483647 g0; rw [e1] at this; exact this
  have ht : vt ≤ 1099511627776 := by have := gUp_le l 1099511627776 gs; rw [e2] at this; exact this
  have hM : M ≤ 200 := by have := gUp_le l 200 gt; rw [e3] at this; exact this
  have hE : gBatch l = (⟨(vs : Nat), (vt : Nat), (gRows l M gm []).1⟩, (gRows l M gm []).2) := by unfold gBatch; simp only [e1, e2, e3]
  rw [hE]
  have D1 : ∀ w', Brd w' P N A cap l g0 → Calls Tryd.prog 37 #[.pointer (some ⟨P, 0, none⟩), .int .u64 2147483647] w' (NumB w' P N A cap l (gUp l 2147483647 g0).1 (gUp l 2147483647 g0).2) := fun w' h => brUpTo w' P N A cap l g0 2147483647 h hl (by omega)
  rw [e1] at D1
  have C1 := Lib.hid (liftK (w := w) D1)
  have D2 : ∀ w', Brd w' P N A cap l gs → Calls Tryd.prog 37 #[.pointer (some ⟨P, 0, none⟩), .int .u64 1099511627776] w' (NumB w' P N A cap l (gUp l 1099511627776 gs).1 (gUp l 1099511627776 gs).2) := fun w' h => brUpTo w' P N A cap l gs 1099511627776 h hl (by omega)
  rw [e2] at D2
  have C2 := Lib.hid (liftK (w := w) D2)
  have D3 : ∀ w', Brd w' P N A cap l gt → Calls Tryd.prog 37 #[.pointer (some ⟨P, 0, none⟩), .int .u64 200] w' (NumB w' P N A cap l (gUp l 200 gt).1 (gUp l 200 gt).2) := fun w' h => brUpTo w' P N A cap l gt 200 h hl (by omega)
  rw [e3] at D3
  have C3 := Lib.hid D3
  have J0 : Hid (Ka w P N A cap l g0 (w.alloc (.cells #[.int .i64 0, .int .i64 0, .slice none 0 0] 24))) := Lib.hid ⟨(Kp.refl _ _ _).alloc _, h.alloc _, ⟨heap_alloc_new w _⟩, h.lt, h.rdr.lt⟩
  clear D1 D2 D3 e1 e2 e3 hE h
  go_enter Tryd.func23, Tryd.ntmps23
  go_wp2_with fail
  refine (C1.out _ J0.out).mono ?_
  rintro e w1 ⟨rfl, j1⟩
  have J1 := Lib.hid j1
  clear j1 C1 J0
  go_wp2_with fail
  refine (C2.out _ J1.out).mono ?_
  rintro e w2 ⟨rfl, j2⟩
  have J2 := Lib.hid (j2.lay (vs : Nat) (vt : Nat))
  clear j2 C2 J1
  go_wp2_with fail
  refine (liftKl C3.out _ J2.out).mono ?_
  rintro e w3 ⟨rfl, j3⟩
  have J3 := Lib.hid j3
  clear j3 C3 J2
  go_wp2_with fail
  generalize w2.heap.size = G at J3 ⊢
  go_loopg [13] M (fun gh s13 wx => ∃ (g' : Gs) (rows : List Rw) (B : Option Addr) (c : Nat), rows.length + gh = M ∧ s13 = .int .u64 rows.length ∧ Hid (Kl w P N A cap l g' wx G (vs : Nat) (vt : Nat) rows B c ∧ gRows l gh g' rows = gRows l M gm []))
  case atStart => exact ⟨gm, [], none, 0, by simp, rfl, Lib.hid ⟨J3.out, rfl⟩⟩
  case round =>
    clear J3
    obtain ⟨g', rows, B, c, hig, rfl, HG⟩ := hrel
    have c2 := HG.out.1.bt.c2
    cases gk with
    | zero =>
      have x1 : decide ((rows.length : Int) < (M : Int)) = false := decide_eq_false (by omega)
      have x2 : decide (rows.length < M) = false := decide_eq_false (by omega)
      have c0 := HG.out.1.bt.c0
      have c1 := HG.out.1.bt.c1
      have d0 := HG.out.1.on.res.c0
      have d1 := HG.out.1.on.res.c1
      have d2 := HG.out.1.on.res.c2
      have f0 := HG.out.1.on.res.f 0
      have f1 := HG.out.1.on.res.f 1
      have f2 := HG.out.1.on.res.f 2
      have HK : Hid (gRows l M gm [] = (rows, g')) := Lib.hid HG.out.2.symm
      go_wp2_with fail
      refine bodyPost_ret (v := .agg #[.int .i64 (vs : Nat), .int .i64 (vt : Nat), .slice B rows.length c]) (by simp [results, Tryd.results23, go_sem, d0, d1, d2]) rfl ?_
      rw [HK.out]
      exact ⟨B, c, rfl, HG.out.1.ret hold.out _ _ _⟩
    | succ gh =>
      have x1 : decide ((rows.length : Int) < (M : Int)) = true := decide_eq_true (by omega)
      have x2 : decide (rows.length < M) = true := decide_eq_true (by omega)
      obtain ⟨r, g2, er⟩ : ∃ r g2, gRow l g' = (r, g2) := ⟨_, _, rfl⟩
      have HX : Hid (gRows l gh g2 (rows ++ [r]) = gRows l M gm []) := Lib.hid (by rw [← HG.out.2, gRows, er])
      have CN := Lib.hid (Kl.row (w := w) (P := P) (N := N) (A := A) (cap := cap) (G := G) (s := (vs : Nat)) (t := (vt : Nat)) (rows := rows) (B := B) (c := c) hl er)
      have j0 : Kl w P N A cap l g' wr.drew G (vs : Nat) (vt : Nat) rows B c := HG.out.1.next ((Kp.refl _ _ _).below (below_drew1 _)) (HG.out.1.on.brd.below (below_drew1 _))
      have hal : rows.length ≤ 1000 := by omega
      have HFAR := Lib.hid HG.out.1.far
      clear er
      go_wp2
      go_region_law (first
        | (go_simp; (go_at_call 38; with_reducible refine (CN.out _ (by assumption)).mono ?_); rintro e w9 ⟨B9, c9, rfl, j9, o9⟩; (try dsimp only); have q7 := j9.bt.c2; have lg9 := j9.bt.lt; have q8 := (j9.bt.alloc (.cells #[.string r.key, .int .i64 r.kind, .int .u64 (r.many : Nat), .int .i64 r.sum, .int .i64 r.least, .int .i64 r.most, .bool r.over, .slice B9 r.bks.length c9] 44)).c2)
        | (obtain ⟨A8, c8, w8, r8, o8, g8⟩ := append_row r B9 c9 j9.own o9 j9.on.size hal; have j8 := j9.app hold.out g8; have z7 := j8.2.f 2; have y7 := j8.2.c2; unfold rowObj at r8; refine step_append_at rfl (.tmp 16) (.tmp 19) 22 rfl _ _ _ rfl rfl r8 ?_)
        | fail)
      all_goals go_wp2
      all_goals
        go_roundg gh
        case rel => exact ⟨g2, rows ++ [r], A8, c8, by simp; omega, by simp, Lib.hid ⟨Kl.put j8 HFAR.out hold.out o8, HX.out⟩⟩
        case measure => omega
end Go.Proofs.YtahmcelkfbigkaaDoor
namespace Go.Proofs.YtahmcelkfbigkaaDoor
open Go.ChangeShapes Go.WideShapes Go.ChangeAt Go.RowKit
set_option linter.unusedVariables false

theorem text_len (l : List UInt8) (g : Gs) : (gText l g).1.length ≤ 300 := by
  unfold gText rsText
  split
  · simp
  · split
    · simp
    · split
      · simp
      · simp only [List.length_take]; omega
theorem row_sized (l : List UInt8) (g : Gs) : (gRow l g).1.key.size ≤ 300 ∧ (gRow l g).1.bks.length ≤ 65 := by
  have h1 := text_len l g
  constructor
  · unfold gRow gHead
    show ((gText l g).1.toArray).size ≤ 300
    simp only [List.size_toArray]; exact h1
  · unfold gRow
    simp only
    rw [bks_len]
    have := gUp_le l 65 (gHead l g).2
    simp
    exact this
theorem rows_sized {l : List UInt8} : ∀ (k : Nat) (g : Gs) (acc : List Rw), (∀ r ∈ acc, r.key.size ≤ 300 ∧ r.bks.length ≤ 65) → ∀ r ∈ (gRows l k g acc).1, r.key.size ≤ 300 ∧ r.bks.length ≤ 65
  | 0, g, acc, h => h
  | k + 1, g, acc, h => rows_sized k _ _ (fun r hr => by
      rcases List.mem_append.1 hr with hr | hr
      · exact h r hr
      · obtain rfl : r = (gRow l g).1 := by simpa using hr
        exact row_sized l g)
theorem batch_sized (l : List UInt8) : SizedR (gBatch l).1.rows ∧ ∀ r ∈ (gBatch l).1.rows, r.key.size ≤ 300 ∧ r.bks.length ≤ 65 := by
  have h : ∀ r ∈ (gBatch l).1.rows, r.key.size ≤ 300 ∧ r.bks.length ≤ 65 := by
    unfold gBatch
    exact rows_sized _ _ _ (fun r hr => by simp at hr)
  have hl := (batch_fit l).2.2.2.2.2
  exact ⟨⟨by omega, fun r hr => by have := h r hr; omega⟩, h⟩

def GetBad (w : World) (e : Ending) (w' : World) : Prop := e = .returned (.tuple #[btVal 0 0 none 0 0, .iface 32 (.int .i64 2)]) ∧ Below w.heap.size w w'
def GetGood (w : World) (b : Bt) (e : Ending) (w' : World) : Prop := ∃ B c, e = .returned (.tuple #[btVal b.seq b.start B b.rows.length c, .nilIface]) ∧ RdR w' B b.rows ∧ Below w.heap.size w w'
def GetPost (w : World) (o : Option Bt) (e : Ending) (w' : World) : Prop := match o with | none => GetBad w e w' | some b => GetGood w b e w'
theorem getF_bey {l : List UInt8} (h : (gBatch l).2.bey = true) : getF l = none := by unfold getF; rw [if_neg (by rw [h]; simp)]
theorem getF_end {l : List UInt8} {p : Nat} (h : rsEnd l (gBatch l).2.r = some p) : getF l = none := by unfold getF; rw [if_neg (by rw [h]; simp)]
theorem getF_may {l : List UInt8} (h : mayOk (gBatch l).1 = false) : getF l = none := by unfold getF; rw [if_neg (by rw [h]; simp)]
theorem getF_good {l : List UInt8} (h1 : (gBatch l).2.bey = false) (h2 : rsEnd l (gBatch l).2.r = none) (h3 : mayOk (gBatch l).1 = true) : getF l = some (gBatch l).1 := by unfold getF; rw [if_pos ⟨h1, h2, h3⟩]

set_option maxHeartbeats 2000000 in
set_option maxRecDepth 100000 in
theorem batchGet (A : Option Addr) (cap : Nat) (l : List UInt8) (w : World) (hL : Laid w) (hr : RdS w A cap l) (hl : l.length ≤ 1000000) :
    Calls Tryd.prog 12 #[.slice A l.length cap] w (GetPost w (getF l)) := by
  have HL := Lib.hid hL
  have Z0 := Lib.hid (BtB.new w 0 0 none 0 0)
  have B0 := Lib.hid (below_new w (.cells #[.int .i64 0, .int .i64 0, .slice none 0 0] 24))
  have C1 := wireRead (w.alloc (.cells #[.int .i64 0, .int .i64 0, .slice none 0 0] 24)) A cap l (hr.alloc _)
  rw [World.size_alloc] at C1
  have C1 := Lib.hid C1
  obtain ⟨sz, sr⟩ := batch_sized l
  have SZ := Lib.hid sz
  obtain ⟨bt, gg, hbt⟩ : ∃ bt gg, gBatch l = (bt, gg) := ⟨_, _, rfl⟩
  have HB := Lib.hid hbt
  clear hL hr sz sr
  go_enter Tryd.func12, Tryd.ntmps12
  go_wp2_with fail
  refine C1.out.mono ?_
  rintro e w1 ⟨rfl, b1, r1⟩
  have lN := r1.lt
  have BR : Brd (w1.alloc (.cells #[.pointer (some ⟨w.heap.size + 1, 0, none⟩), .bool false] 55)) w1.heap.size (w.heap.size + 1) A cap l g0 := by
    refine ⟨heap_alloc_new w1 _, ⟨by rw [(World.grownBy_alloc w1 _ none).block _ lN (by simp)]; exact r1.blk, r1.rd.alloc _, r1.ne, r1.le⟩, by omega, fun ad ha hne e => ?_⟩
    cases l with
    | nil => exact hne rfl
    | cons x l =>
      have h1 := World.block_lt_of_cell? w1 _ (r1.rd.rd ad ha 0 x rfl)
      rw [show (ad.add 0).block = ad.block by simp [Addr.add]] at h1
      omega
  have C2 := brBatch _ _ _ A cap l BR hl
  rw [hbt] at C2
  have C2 := Lib.hid C2
  have B1 := Lib.hid (B0.out.trans (b1.mono (by simp)))
  have Z1 := Lib.hid ((Z0.out.keep b1 (Nat.lt_succ_self _)).alloc (.cells #[.pointer (some ⟨w.heap.size + 1, 0, none⟩), .bool false] 55))
  have hzw := B1.out.size
  clear b1 r1 BR C1 Z0 B0 hbt
  go_wp2_with fail
  refine C2.out.mono ?_
  rintro e w2 ⟨B, c, rfl, k2, br2, own2⟩
  unfold btVal
  have B2 : Below w.heap.size w w2 := (B1.out.alloc hzw _).trans (k2.to (by simp; omega) hzw (by omega))
  have Z2 := Z1.out.kp k2 (by omega) (by omega)
  have rd2 := own2.rd
  have HR2 := Lib.hid (rd2.alloc (.cells #[.int .i64 bt.seq, .int .i64 bt.start, .slice B bt.rows.length c] 24))
  have BB2 := Lib.hid (B2.alloc (Nat.le_trans hzw (by have := k2.size; simp at this; omega)) (.cells #[.int .i64 bt.seq, .int .i64 bt.start, .slice B bt.rows.length c] 24))
  have BR2 := Lib.hid (br2.alloc (.cells #[.int .i64 bt.seq, .int .i64 bt.start, .slice B bt.rows.length c] 24))
  have ZZ2 := Lib.hid (Z2.alloc (.cells #[.int .i64 bt.seq, .int .i64 bt.start, .slice B bt.rows.length c] 24))
  have TT2 := Lib.hid (BtB.new w2 bt.seq bt.start B bt.rows.length c)
  have HZ2 := Lib.hid Z2
  have HO2 := Lib.hid (own2.below (below_new w2 (.cells #[.int .i64 bt.seq, .int .i64 bt.start, .slice B bt.rows.length c] 24)))
  have hbase : w.heap.size < (w1.alloc (.cells #[.pointer (some ⟨w.heap.size + 1, 0, none⟩), .bool false] 55)).heap.size := by simp; omega
  have HBASE := Lib.hid hbase
  clear hbase
  have hz9 : w.heap.size < w2.heap.size := Z2.lt
  cases hbey : gg.bey with
  | true =>
    have HX : Hid (getF l = none) := Lib.hid (getF_bey (by rw [HB.out]; exact hbey))
    have c1 : w2.cell? ⟨w1.heap.size, 1, none⟩ = some (.bool true) := by rw [← hbey]; exact br2.c1
    have HBB := Lib.hid B2
    have hlp := br2.lt
    have d0 := Z2.c0
    have d1 := Z2.c1
    have d2 := Z2.c2
    have f0 := Z2.f 0
    have f1 := Z2.f 1
    have f2 := Z2.f 2
    clear C2 B1 Z1 k2 br2 own2 B2 Z2 rd2 HR2 BB2 BR2 ZZ2 TT2 hbey
    go_wp2_with fail
    refine bodyPost_ret (v := .tuple #[.agg #[.int .i64 0, .int .i64 0, .slice none 0 0], .iface 32 (.int .i64 2)]) (by simp [results, Tryd.results12, go_sem, d0, d1, d2, hz9]) rfl ?_
    rw [HX.out]
    exact ⟨rfl, below_of_grown (grown_alloc (grown_set (grown_set (grown_set (grown_of HBB.out) _ _ (Or.inr (Nat.le_refl _))) _ _ (Or.inr (Nat.le_refl _))) _ _ (Or.inr (Nat.le_refl _))) _)⟩
  | false =>
    have CE := wireEnd _ _ A cap l gg.r BR2.out.rdr hl
    have c1 := br2.c1
    rw [hbey] at c1
    have c1' := BR2.out.c1
    rw [hbey] at c1'
    have c0 := br2.c0
    have c0' := BR2.out.c0
    have hlp := br2.lt
    have HBEY := Lib.hid hbey
    have hsz2 : w.heap.size ≤ w2.heap.size := Nat.le_of_lt hz9
    cases hend : rsEnd l gg.r with
    | some p =>
      have HX : Hid (getF l = none) := Lib.hid (getF_end (p := p) (by rw [HB.out]; exact hend))
      rw [hend] at CE
      have CE := Lib.hid CE
      clear C2 B1 Z1 k2 br2 own2 B2 Z2 rd2 hbey hend
      go_wp2_with fail
      refine CE.out.mono ?_
      rintro e w3 ⟨Q, rfl, _, b3⟩
      have Z3 := ZZ2.out.below b3 (Nat.le_refl _)
      have B3 := Lib.hid (BB2.out.trans (b3.mono BB2.out.size))
      have d0 := Z3.c0
      have d1 := Z3.c1
      have d2 := Z3.c2
      have f0 := Z3.f 0
      have f1 := Z3.f 1
      have f2 := Z3.f 2
      clear Z3 b3 c0 c1 c0' c1' CE
      go_wp2_with fail
      refine bodyPost_ret (v := .tuple #[.agg #[.int .i64 0, .int .i64 0, .slice none 0 0], .iface 32 (.int .i64 2)]) (by simp [results, Tryd.results12, go_sem, d0, d1, d2]) rfl ?_
      rw [HX.out]
      exact ⟨rfl, below_of_grown (grown_set (grown_set (grown_set (grown_of B3.out) _ _ (Or.inr (Nat.le_refl _))) _ _ (Or.inr (Nat.le_refl _))) _ _ (Or.inr (Nat.le_refl _)))⟩
    | none =>
      rw [hend] at CE
      have CE := Lib.hid CE
      have HEND := Lib.hid hend
      clear C2 B1 Z1 k2 br2 own2 B2 Z2 rd2 hbey hend
      go_wp2_with fail
      refine CE.out.mono ?_
      rintro e w3 ⟨rfl, b3⟩
      have Z3 := ZZ2.out.below b3 (Nat.le_refl _)
      have T3 := TT2.out.below b3 (Nat.le_refl _)
      have HZ3 := Lib.hid Z3
      have HT3 := Lib.hid T3
      have R3 := HR2.out.below b3 (Nat.le_refl _)
      have HR3 := Lib.hid R3
      have HO3 := Lib.hid (HO2.out.below b3)
      have B3 := Lib.hid (BB2.out.trans (b3.mono BB2.out.size))
      have t0 := T3.c0
      have t1 := T3.c1
      have t2 := T3.c2
      have hszb : SizedR bt.rows := by have := SZ.out; rw [HB.out] at this; exact this
      have CM := batchMay bt B c w3 (HL.out.below B3.out) R3 hszb
      unfold btVal at CM
      clear Z3 T3 R3 b3 c0 c1 c0' c1' CE hszb
      cases hmay : mayOk bt with
      | false =>
        have HX : Hid (getF l = none) := Lib.hid (getF_may (by rw [HB.out]; exact hmay))
        rw [hmay] at CM
        have CM := Lib.hid CM
        clear hmay
        go_wp2_with fail
        refine CM.out.mono ?_
        rintro e w4 ⟨rfl, b4⟩
        have Z4 := HZ3.out.below b4 (Nat.le_refl _)
        have B4 := Lib.hid (B3.out.trans (b4.mono B3.out.size))
        have d0 := Z4.c0
        have d1 := Z4.c1
        have d2 := Z4.c2
        have f0 := Z4.f 0
        have f1 := Z4.f 1
        have f2 := Z4.f 2
        clear Z4 b4 t0 t1 t2 CM
        go_wp2_with fail
        refine bodyPost_ret (v := .tuple #[.agg #[.int .i64 0, .int .i64 0, .slice none 0 0], .iface 32 (.int .i64 2)]) (by simp [results, Tryd.results12, go_sem, d0, d1, d2]) rfl ?_
        rw [HX.out]
        exact ⟨rfl, below_of_grown (grown_set (grown_set (grown_set (grown_of B4.out) _ _ (Or.inr (Nat.le_refl _))) _ _ (Or.inr (Nat.le_refl _))) _ _ (Or.inr (Nat.le_refl _)))⟩
      | true =>
        have HX : Hid (getF l = some bt) := Lib.hid (by rw [getF_good (by rw [HB.out]; exact HBEY.out) (by rw [HB.out]; exact HEND.out) (by rw [HB.out]; exact hmay), HB.out])
        rw [hmay] at CM
        have CM := Lib.hid CM
        clear hmay
        go_wp2_with fail
        refine CM.out.mono ?_
        rintro e w4 ⟨rfl, b4⟩
        have Z4 := HZ3.out.below b4 (Nat.le_refl _)
        have T4 := HT3.out.below b4 (Nat.le_refl _)
        have O4 := Lib.hid (HO3.out.below b4)
        have B4 := Lib.hid (B3.out.trans (b4.mono B3.out.size))
        have d0 := Z4.c0
        have d1 := Z4.c1
        have d2 := Z4.c2
        have f0 := Z4.f 0
        have f1 := Z4.f 1
        have f2 := Z4.f 2
        have t0 := T4.c0
        have t1 := T4.c1
        have t2 := T4.c2
        clear Z4 T4 b4 CM
        go_wp2_with fail
        refine bodyPost_ret (v := .tuple #[.agg #[.int .i64 bt.seq, .int .i64 bt.start, .slice B bt.rows.length c], .nilIface]) (by simp [results, Tryd.results12, go_sem, d0, d1, d2]) rfl ?_
        rw [HX.out]
        exact ⟨B, c, rfl, (O4.out.kept (grown_set (grown_set (grown_set (grown_refl _ (some w.heap.size)) _ _ (Or.inl rfl)) _ _ (Or.inl rfl)) _ _ (Or.inl rfl)) (fun b e => by cases e; exact .inl HBASE.out)).rd, below_of_grown (grown_set (grown_set (grown_set (grown_of B4.out) _ _ (Or.inr (Nat.le_refl _))) _ _ (Or.inr (Nat.le_refl _))) _ _ (Or.inr (Nat.le_refl _)))⟩
end Go.Proofs.YtahmcelkfbigkaaDoor
namespace Go.Proofs.YtahmcelkfbigkaaDoor
open Go.ChangeShapes Go.WideShapes Go.ChangeAt Go.RowKit
set_option linter.unusedVariables false

theorem may_up7 : mayOk ⟨1, 2, []⟩ = true := by decide
theorem may_not7 : mayOk ⟨-1, 0, []⟩ = false := by decide
theorem put_up7 : putL ⟨1, 2, []⟩ = [1, 2, 0] := by
  unfold putL putHead rowsL
  simp only [List.flatMap_nil, List.append_nil, List.length_nil]
  rw [show (1 : Int).toNat = 1 from rfl, show (2 : Int).toNat = 2 from rfl, enc_small (by omega), enc_small (by omega), enc_small (by omega)]
  rfl
theorem get_nil7 : getF [] = none := getF_end (p := 0) (by decide +kernel)
theorem sized_nil : SizedR [] := ⟨by simp, fun r h => by simp at h⟩
set_option maxHeartbeats 1000000 in
set_option maxRecDepth 100000 in
theorem up_batch (w : World) (hL : Laid w) : Calls Tryd.prog 6 #[] w (Holds w) := by
  have HL := Lib.hid hL
  have C1 := batchPut ⟨1, 2, []⟩ none 0 w hL (RdR.nil _ _) sized_nil (fun r h => by simp at h) may_up7
  rw [put_up7] at C1
  unfold btVal at C1
  have C1 := Lib.hid C1
  clear hL
  go_enter Tryd.func6, Tryd.ntmps6
  go_wp2_with fail
  refine C1.out.mono ?_
  rintro e w1 ⟨v1, rfl, o1, b1⟩
  obtain ⟨A1, c1, rfl, rd1⟩ := o1.rd
  have RD1 := Lib.hid rd1
  have B1 := Lib.hid b1
  have C2 := batchGet none 0 [] w1 (HL.out.below b1) (RdS.nil _) (by simp)
  rw [get_nil7] at C2
  have C2 := Lib.hid C2
  clear o1 rd1 b1 C1
  go_wp2_with fail
  refine C2.out.mono ?_
  rintro e w2 ⟨rfl, b2⟩
  unfold btVal
  have B2 := Lib.hid (B1.out.trans (b2.mono B1.out.size))
  have RD2 := Lib.hid ((RD1.out.below b2 (Nat.le_refl _)).alloc (.cells #[.int .i64 0, .int .i64 0, .slice none 0 0] 24))
  have hcv : (convert 27 9 (.slice A1 3 c1)).run Tryd.prog (w2.alloc (.cells #[.int .i64 0, .int .i64 0, .slice none 0 0] 24)) = .ok (.string ⟨#[1, 2, 0]⟩) (w2.alloc (.cells #[.int .i64 0, .int .i64 0, .slice none 0 0] 24)) := rd_conv RD2.out
  have he := eql_codes
  have B3 := Lib.hid (B2.out.alloc B2.out.size (.cells #[.int .i64 0, .int .i64 0, .slice none 0 0] 24))
  have C3 := batchMay ⟨-1, 0, []⟩ none 0 (w2.alloc (.cells #[.int .i64 0, .int .i64 0, .slice none 0 0] 24)) (HL.out.below B3.out) (RdR.nil _ _) sized_nil
  rw [may_not7] at C3
  unfold btVal at C3
  have C3 := Lib.hid C3
  clear b2 C2
  go_wp2_with fail
  refine C3.out.mono ?_
  rintro e w3 ⟨rfl, b3⟩
  have B4 := Lib.hid (B3.out.trans (b3.mono B3.out.size))
  clear b3 C3 hcv
  go_wp2_with fail
  go_ret
  exact ⟨rfl, B4.out⟩
end Go.Proofs.YtahmcelkfbigkaaDoor
