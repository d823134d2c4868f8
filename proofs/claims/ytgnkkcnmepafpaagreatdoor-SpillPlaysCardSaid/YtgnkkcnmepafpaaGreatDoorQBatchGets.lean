/-
  Layer 7 (batch), of no program: what was once beyond its limit stays so; then the bytes are no batch's. Layer 7 (batch): the document's own Get (P7.1): its reader, and where the reading stands. Layer 7 (batch): the document's own Get (P7.1), walked. The law BatchGets (layer 7), walked: what any bytes are those of.
-/
import Derived.Test.YtgnkkcnmepafpaaGreatDoorGrpI
import Derived.Test.YtgnkkcnmepafpaaGreatDoorQBatchHead
import Derived.Test.YtgnkkcnmepafpaaGreatDoorQWireRefText
import Derived.Test.YtgnkkcnmepafpaaGreatDoorQBatchRefMay
namespace Go.Proofs.YtgnkkcnmepafpaaGreatDoor
set_option linter.unusedVariables false

theorem num_bey (l : List UInt8) (g : Gs) : (gNum l g).2.bey = g.bey := rfl
theorem text_bey (l : List UInt8) (g : Gs) : (gText l g).2.bey = g.bey := rfl
theorem up_bey (l : List UInt8) (m : Nat) (g : Gs) (h : g.bey = true) : (gUp l m g).2.bey = true := by
  unfold gUp
  split
  · rfl
  · exact h
theorem up_over (l : List UInt8) (m : Nat) (g : Gs) (h : m < (gNum l g).1) : (gUp l m g).2.bey = true := by
  unfold gUp gNum at *
  rw [if_pos h]
/-- A number within its limit is read as it is. -/
theorem up_in (l : List UInt8) (m : Nat) (g : Gs) (h : (gNum l g).1 ≤ m) : gUp l m g = gNum l g := by
  unfold gUp gNum at *
  rw [if_neg (by omega)]
theorem bks_bey (l : List UInt8) : ∀ (k : Nat) (g : Gs) (acc : List Nat), (gBks l k g acc).2.bey = g.bey
  | 0, g, acc => rfl
  | k + 1, g, acc => by rw [gBks, bks_bey l k]; rfl
theorem head_bey (l : List UInt8) (g : Gs) (h : g.bey = true) : (gHead l g).2.bey = true := by
  unfold gHead
  exact up_bey _ _ _ (up_bey _ _ _ h)
theorem row_bey (l : List UInt8) (g : Gs) (h : g.bey = true) : (gRow l g).2.bey = true := by
  unfold gRow
  simp only
  rw [bks_bey]
  exact up_bey _ _ _ (head_bey l g h)
theorem rows_bey (l : List UInt8) : ∀ (k : Nat) (g : Gs) (acc : List Rw), g.bey = true → (gRows l k g acc).2.bey = true
  | 0, g, acc, h => h
  | k + 1, g, acc, h => rows_bey l k _ _ (row_bey l g h)
/-- A row whose Kind is beyond, whose Over is, or which has too many buckets. -/
theorem row_kind (l : List UInt8) (g : Gs) (h : 3 < (gNum l (gText l g).2).1) : (gRow l g).2.bey = true := by
  unfold gRow gHead
  simp only
  rw [bks_bey]
  exact up_bey _ _ _ (up_bey _ _ _ (up_over l 3 _ h))
theorem row_over (l : List UInt8) (g : Gs) {b : Nat × Gs} (hb : gUp l 3 (gText l g).2 = b) (h : 1 < (gNum l (gNum l (gNum l (gNum l (gNum l b.2).2).2).2).2).1) : (gRow l g).2.bey = true := by
  subst hb
  unfold gRow gHead
  simp only
  rw [bks_bey]
  exact up_bey _ _ _ (up_over l 1 _ h)
theorem row_many (l : List UInt8) (g : Gs) (h : 65 < (gNum l (gHead l g).2).1) : (gRow l g).2.bey = true := by
  unfold gRow
  simp only
  rw [bks_bey]
  exact up_over l 65 _ h
theorem rows_next (l : List UInt8) (k : Nat) (g : Gs) (acc : List Rw) (h : (gRow l g).2.bey = true) : (gRows l (k + 1) g acc).2.bey = true := by
  rw [gRows]
  exact rows_bey l k _ _ h
theorem batch_seq (l : List UInt8) (h : 2147483647 < (gNum l g0).1) : getF l = none := by
  have hb : (gBatch l).2.bey = true := by
    unfold gBatch
    exact rows_bey _ _ _ _ (up_bey _ _ _ (up_bey _ _ _ (up_over l _ _ h)))
  unfold getF
  rw [if_neg (by rw [hb]; simp)]
theorem batch_start (l : List UInt8) (h1 : (gNum l g0).1 ≤ 2147483647) (h : 1099511627776 < (gNum l (gNum l g0).2).1) : getF l = none := by
  have hb : (gBatch l).2.bey = true := by
    unfold gBatch
    rw [up_in l _ _ h1]
    exact rows_bey _ _ _ _ (up_bey _ _ _ (up_over l _ _ h))
  unfold getF
  rw [if_neg (by rw [hb]; simp)]
theorem batch_many (l : List UInt8) (h1 : (gNum l g0).1 ≤ 2147483647) (h2 : (gNum l (gNum l g0).2).1 ≤ 1099511627776) (h : 200 < (gNum l (gNum l (gNum l g0).2).2).1) : getF l = none := by
  have hb : (gBatch l).2.bey = true := by
    unfold gBatch
    rw [up_in l _ _ h1]
    simp only
    rw [up_in l _ _ h2]
    exact rows_bey _ _ _ _ (up_over l _ _ h)
  unfold getF
  rw [if_neg (by rw [hb]; simp)]
end Go.Proofs.YtgnkkcnmepafpaaGreatDoor
namespace Go.Proofs.YtgnkkcnmepafpaaGreatDoor
open Go.ChangeShapes Go.WideShapes Go.ChangeAt Go.RowKit
set_option linter.unusedVariables false

/-- What a row is read as, its parts within their limits or not. -/
theorem ref_parts (l : List UInt8) (g : Gs) : ∃ (va : List UInt8) (ga : Gs) (nb : Nat) (gb : Gs) (vc : Nat) (gc : Gs) (nd : Nat) (gd : Gs) (ne : Nat) (ge : Gs) (nf : Nat) (gf : Gs) (no : Nat) (go : Gs) (nm : Nat) (gm : Gs),
    gText l g = (va, ga) ∧ gNum l ga = (nb, gb) ∧ gNum l gb = (vc, gc) ∧ gNum l gc = (nd, gd) ∧ gNum l gd = (ne, ge) ∧ gNum l ge = (nf, gf) ∧ gNum l gf = (no, go) ∧ gNum l go = (nm, gm) ∧
    (3 < nb → (gRow l g).2.bey = true) ∧ (nb ≤ 3 → 1 < no → (gRow l g).2.bey = true) ∧ (nb ≤ 3 → no ≤ 1 → 65 < nm → (gRow l g).2.bey = true) ∧
    (nb ≤ 3 → no ≤ 1 → nm ≤ 65 → gRow l g = (⟨⟨va.toArray⟩, (nb : Nat), vc, unfoldN nd, unfoldN ne, unfoldN nf, no == 1, (gBks l nm gm []).1⟩, (gBks l nm gm []).2)) ∧ gm.bey = g.bey := by
  obtain ⟨va, ga, e1⟩ : ∃ va ga, gText l g = (va, ga) := ⟨_, _, rfl⟩
  obtain ⟨nb, gb, e2⟩ : ∃ n g', gNum l ga = (n, g') := ⟨_, _, rfl⟩
  obtain ⟨vc, gc, e3⟩ : ∃ n g', gNum l gb = (n, g') := ⟨_, _, rfl⟩
  obtain ⟨nd, gd, e4⟩ : ∃ n g', gNum l gc = (n, g') := ⟨_, _, rfl⟩
  obtain ⟨ne, ge, e5⟩ : ∃ n g', gNum l gd = (n, g') := ⟨_, _, rfl⟩
  obtain ⟨nf, gf, e6⟩ : ∃ n g', gNum l ge = (n, g') := ⟨_, _, rfl⟩
  obtain ⟨no, go, e7⟩ : ∃ n g', gNum l gf = (n, g') := ⟨_, _, rfl⟩
  obtain ⟨nm, gm, e8⟩ : ∃ n g', gNum l go = (n, g') := ⟨_, _, rfl⟩
  have hh : nb ≤ 3 → no ≤ 1 → gHead l g = (⟨⟨va.toArray⟩, (nb : Nat), vc, unfoldN nd, unfoldN ne, unfoldN nf, no == 1, []⟩, go) := by
    intro h1 h2
    unfold gHead
    simp only [e1]
    rw [up_in l 3 ga (by rw [e2]; exact h1), e2]
    simp only [e3, e4, e5, e6]
    rw [up_in l 1 gf (by rw [e7]; exact h2), e7]
  refine ⟨va, ga, nb, gb, vc, gc, nd, gd, ne, ge, nf, gf, no, go, nm, gm, e1, e2, e3, e4, e5, e6, e7, e8, ?_, ?_, ?_, ?_, ?_⟩
  · intro h
    exact row_kind l g (by rw [e1]; show 3 < (gNum l ga).1; rw [e2]; exact h)
  · intro h1 h2
    exact row_over l g (b := (nb, gb)) (by rw [e1]; show gUp l 3 ga = _; rw [up_in l 3 ga (by rw [e2]; exact h1), e2]) (by simp only [e3, e4, e5, e6, e7]; exact h2)
  · intro h1 h2 h3
    exact row_many l g (by rw [hh h1 h2]; show 65 < (gNum l go).1; rw [e8]; exact h3)
  · intro h1 h2 h3
    unfold gRow
    rw [hh h1 h2]
    simp only
    rw [up_in l 65 go (by rw [e8]; exact h3), e8]
  · have b1 := text_bey l g
    have b2 := num_bey l ga
    have b3 := num_bey l gb
    have b4 := num_bey l gc
    have b5 := num_bey l gd
    have b6 := num_bey l ge
    have b7 := num_bey l gf
    have b8 := num_bey l go
    rw [e1] at b1
    rw [e2] at b2
    rw [e3] at b3
    rw [e4] at b4
    rw [e5] at b5
    rw [e6] at b6
    rw [e7] at b7
    rw [e8] at b8
    exact b8.trans (b7.trans (b6.trans (b5.trans (b4.trans (b3.trans (b2.trans b1))))))

/-- The document's reader in block N. -/
def Frd (w : World) (N : Nat) (A : Option Addr) (cap : Nat) (l : List UInt8) (g : Gs) : Prop := g.r.at_ ≤ l.length ∧ ∃ k p, Tells g.r k g.r.bad p ∧ Rfr w N A cap l k g.r.bad p
section
variable {w w' : World} {N : Nat} {A : Option Addr} {cap : Nat} {l : List UInt8} {g g' : Gs}
theorem Frd.lt (h : Frd w N A cap l g) : N < w.heap.size := by obtain ⟨_, k, p, _, hr⟩ := h; exact hr.lt
theorem Frd.kind (h : Frd w N A cap l g) : ∃ c f, w.heap[N]? = some (.cells c 104 f) := by obtain ⟨_, k, p, _, hr⟩ := h; exact ⟨_, _, hr.blk⟩
theorem Frd.grown (h : Frd w N A cap l g) {q : Option Nat} (hg : w.grownBy w' q) (hq : ∀ b, q = some b → b ≠ N ∧ ∀ ad, A = some ad → l ≠ [] → ad.block ≠ b) : Frd w' N A cap l g := by
  obtain ⟨hat, k, p, ht, hr⟩ := h
  refine ⟨hat, k, p, ht, ?_, ⟨hr.rd.le, hr.rd.nn, fun ad ha i c hc => ?_⟩, hr.ne, hr.le⟩
  · rw [hg.block _ hr.lt (fun e => (hq _ e.symm).1 rfl)]; exact hr.blk
  · have h1 := hr.rd.rd ad ha i c hc
    have h2 := World.block_lt_of_cell? w _ h1
    have h3 : (ad.add i).block = ad.block := by unfold Addr.add; split <;> rfl
    have hne : l ≠ [] := fun e => by rw [e] at hc; cases hc
    rw [World.cell?_of_block (hg.block _ h2 (fun e => (hq _ e.symm).2 ad ha hne h3.symm))]
    exact h1
theorem Frd.below (h : Frd w N A cap l g) (hb : Below w.heap.size w w') : Frd w' N A cap l g := h.grown (grown_of (r := none) hb) (fun _ e => by cases e)
theorem Frd.alloc (h : Frd w N A cap l g) (o : Obj) : Frd (w.alloc o) N A cap l g := h.below ((Below.refl _ _).alloc (Nat.le_refl _) _)
theorem Frd.old (h : Frd w N A cap l g) : ∀ ad, A = some ad → l ≠ [] → ad.block < w.heap.size := fun ad ha hne => by
  obtain ⟨_, k, p, _, hr⟩ := h
  cases l with
  | nil => exact absurd rfl hne
  | cons c l =>
    have h1 := World.block_lt_of_cell? w _ (hr.rd.rd ad ha 0 c rfl)
    rwa [show (ad.add 0).block = ad.block by simp [Addr.add]] at h1
end
/-- A method of the document's reader: what it answers, and what becomes of the world. -/
def Fpost (w : World) (N : Nat) (A : Option Addr) (cap : Nat) (l : List UInt8) (V : Value) (g : Gs) (e : Ending) (w' : World) : Prop := e = .returned V ∧ w.grownBy w' (some N) ∧ Frd w' N A cap l g
theorem frNumber (N : Nat) (A : Option Addr) (cap : Nat) (l : List UInt8) (g : Gs) (hl : l.length ≤ 1000000) (w : World) (h : Frd w N A cap l g) :
    Calls Tryz.prog 51 #[.pointer (some ⟨N, 0, none⟩)] w (Fpost w N A cap l (.int .u64 ((gNum l g).1 : Nat)) (gNum l g).2) := by
  obtain ⟨hat, k, p, ht, hr⟩ := h
  exact (refReadNumber w N A cap l g.r k p hr ht hl).mono fun e w' ⟨he, hg, k', p', ht', hr'⟩ => ⟨he, hg, num_at hat, k', p', ht', hr'⟩
theorem frWhole (N : Nat) (A : Option Addr) (cap : Nat) (l : List UInt8) (g : Gs) (hl : l.length ≤ 1000000) (w : World) (h : Frd w N A cap l g) :
    Calls Tryz.prog 53 #[.pointer (some ⟨N, 0, none⟩)] w (Fpost w N A cap l (.int .i64 (unfoldN (gNum l g).1)) (gNum l g).2) := by
  obtain ⟨hat, k, p, ht, hr⟩ := h
  exact (refReadWhole w N A cap l g.r k p hr ht hl hat).mono fun e w' ⟨he, hg, k', p', ht', hr'⟩ => ⟨he, hg, num_at hat, k', p', ht', hr'⟩
theorem frText (N : Nat) (A : Option Addr) (cap : Nat) (l : List UInt8) (g : Gs) (hl : l.length ≤ 1000000) (w : World) (h : Frd w N A cap l g) :
    Calls Tryz.prog 52 #[.pointer (some ⟨N, 0, none⟩), .int .i64 300] w (Fpost w N A cap l (.string ⟨(gText l g).1.toArray⟩) (gText l g).2) := by
  obtain ⟨hat, k, p, ht, hr⟩ := h
  exact (refReadText w N A cap l g.r 300 k p hr ht hl hat (by omega) (by omega)).mono fun e w' ⟨he, hg, k', p', ht', hr'⟩ => ⟨he, hg, text_at hat, k', p', ht', hr'⟩
theorem frEnd (N : Nat) (A : Option Addr) (cap : Nat) (l : List UInt8) (g : Gs) (hl : l.length ≤ 1000000) (w : World) (h : Frd w N A cap l g) :
    Calls Tryz.prog 54 #[.pointer (some ⟨N, 0, none⟩)] w (Endf (rsEnd l g.r) w N) := by
  obtain ⟨hat, k, p, ht, hr⟩ := h
  exact refReadEnd w N A cap l g.r k p hr ht hl hat

section
variable (w : World) (N : Nat) (A : Option Addr) (cap : Nat) (l : List UInt8)
/-- Where the reading of a batch stands: its head; its rows, in block G. -/
structure Fa (g : Gs) (wr : World) : Prop where
  below : Below w.heap.size w wr
  frd : Frd wr N A cap l g
  hN : w.heap.size < N
  res : BtB wr w.heap.size 0 0 none 0 0
structure Fl (g : Gs) (wr : World) (G : Nat) (s t : Int) (rows : List Rw) (B : Option Addr) (c : Nat) : Prop where
  on : Fa w N A cap l g wr
  bt : BtB wr G s t B rows.length c
  far : N < G
  own : OwnR wr (N + 1) B c rows
/-- Where the reading of a row stands: w is the world that its round begins in. -/
structure Qa (g : Gs) (wr : World) : Prop where
  kp : Kp w N N wr
  frd : Frd wr N A cap l g
  hN : N < w.heap.size
structure Ql (g : Gs) (wr : World) (Y : Nat) (r : Rw) (B : Option Addr) (c : Nat) : Prop where
  on : Qa w N A cap l g wr
  row : RowB wr Y r B c
  far : w.heap.size ≤ Y
  own : OwnN wr w.heap.size B c r.bks
end
section
variable {w w0 : World} {N : Nat} {A : Option Addr} {cap : Nat} {l : List UInt8} {g g' : Gs} {wr w' w8 : World} {G Y n : Nat} {s t : Int} {rows : List Rw} {r : Rw} {B B' B9 A8 : Option Addr} {c c' c9 c8 : Nat} {V : Value} {f : Nat} {as_ : Array Value}
theorem below_gr {q : Option Nat} {M : Nat} (hB : M ≤ wr.heap.size) (hg : wr.grownBy w' q) (hq : ∀ b, q = some b → M ≤ b) : Below M wr w' :=
  ⟨hg.os, hg.tape, hg.output, hg.size, fun k hk => hg.block k (by omega) (fun e => by have := hq k e.symm; omega)⟩
theorem Fa.next (h : Fa w N A cap l g wr) (hg : wr.grownBy w' (some N)) (f : Frd w' N A cap l g') : Fa w N A cap l g' w' :=
  ⟨h.below.trans (below_gr h.below.size hg (fun b e => by cases e; exact Nat.le_of_lt h.hN)), f, h.hN, h.res.grown hg (fun e => by have := h.hN; have := Option.some.inj e; omega)⟩
theorem Fa.grown (h : Fa w N A cap l g wr) {q : Option Nat} (hg : wr.grownBy w' q) (hq : ∀ b, q = some b → N < b) (hold : ∀ ad, A = some ad → l ≠ [] → ad.block < w.heap.size) : Fa w N A cap l g w' :=
  ⟨h.below.trans (below_gr h.below.size hg (fun b e => by have := hq b e; have := h.hN; omega)), h.frd.grown hg (fun b e => by have := hq b e; have := h.hN; exact ⟨by omega, fun ad ha hne => by have := hold ad ha hne; omega⟩), h.hN, h.res.grown hg (fun e => by have := hq _ e; have := h.hN; omega)⟩
theorem Fa.alloc (h : Fa w N A cap l g wr) (o : Obj) : Fa w N A cap l g (wr.alloc o) := ⟨h.below.alloc h.below.size _, h.frd.alloc _, h.hN, h.res.alloc _⟩
theorem Fa.drew (h : Fa w N A cap l g wr) : Fa w N A cap l g wr.drew := ⟨h.below.trans ((below_drew1 wr).mono h.below.size), h.frd.below (below_drew1 wr), h.hN, h.res.drew 1⟩
theorem liftF (H : ∀ w', Frd w' N A cap l g → Calls Tryz.prog f as_ w' (Fpost w' N A cap l V g')) : ∀ w', Fa w N A cap l g w' → Calls Tryz.prog f as_ w' (fun e w'' => e = .returned V ∧ Fa w N A cap l g' w'') :=
  fun w' h => (H w' h.frd).mono fun e w'' ⟨he, hg, hf⟩ => ⟨he, h.next hg hf⟩
theorem Fa.lay (h : Fa w N A cap l g wr) (s t : Int) : Fl w N A cap l g (wr.alloc (.cells #[.int .i64 s, .int .i64 t, .slice none 0 0] 48)) wr.heap.size s t [] none 0 :=
  ⟨h.alloc _, ⟨heap_alloc_new wr _⟩, h.frd.lt, OwnR.nil _ _⟩
theorem Fl.app (h : Fl w N A cap l g wr G s t rows B c) (hold : ∀ ad, A = some ad → l ≠ [] → ad.block < w.heap.size)
    (g8 : (wr.alloc (rowObj r B9 c9)).grownBy w8 (Value.slice B rows.length c).ownBlock) : Fa w N A cap l g w8 ∧ BtB w8 G s t B rows.length c := by
  have hk : ∀ b, (Value.slice B rows.length c).ownBlock = some b → N < b ∧ b ≠ G := fun b hb => by
    obtain ⟨h1, _, c', f, h2⟩ := h.own.far b hb
    refine ⟨h1, fun e => ?_⟩
    rw [e, h.bt.blk] at h2
    cases h2
  exact ⟨(h.on.alloc _).grown g8 (fun b e => (hk b e).1) hold, (h.bt.alloc _).grown g8 (fun e => (hk G e).2 rfl)⟩
theorem Fl.put (h : Fa w N A cap l g w8 ∧ BtB w8 G s t B rows.length c) (far : N < G) (hold : ∀ ad, A = some ad → l ≠ [] → ad.block < w.heap.size)
    (o8 : OwnR w8 (N + 1) A8 c8 (rows ++ [r])) : Fl w N A cap l g (w8.setCell ⟨G, 2, none⟩ (.slice A8 (rows.length + 1) c8)) G s t (rows ++ [r]) A8 c8 := by
  have gr := grown_set (grown_refl w8 (some G)) ⟨G, 2, none⟩ (.slice A8 (rows.length + 1) c8) (Or.inl rfl)
  refine ⟨h.1.grown gr (fun b e => by cases e; exact far) hold, ⟨?_⟩, far, ?_⟩
  · have := heap_set_same (o := 2) (v := .slice A8 (rows.length + 1) c8) h.2.blk
    rw [show (rows ++ [r]).length = rows.length + 1 by simp]
    exact this
  · exact o8.kept gr (fun b e => by cases e; exact .inr ⟨_, _, _, h.2.blk, by decide, by decide⟩)

theorem Qa.next (h : Qa w N A cap l g wr) (hg : wr.grownBy w' (some N)) (f : Frd w' N A cap l g') : Qa w N A cap l g' w' := ⟨h.kp.trans (Kp.of_grown hg), f, h.hN⟩
theorem Qa.grown (h : Qa w N A cap l g wr) {q : Option Nat} (hg : wr.grownBy w' q) (hq : ∀ b, q = some b → w.heap.size ≤ b) (hold : ∀ ad, A = some ad → l ≠ [] → ad.block < w.heap.size) : Qa w N A cap l g w' :=
  ⟨h.kp.grown hg (fun b e => .inr (.inr (hq b e))), h.frd.grown hg (fun b e => by have := hq b e; have := h.hN; exact ⟨by omega, fun ad ha hne => by have := hold ad ha hne; omega⟩), h.hN⟩
theorem Qa.alloc (h : Qa w N A cap l g wr) (o : Obj) : Qa w N A cap l g (wr.alloc o) := ⟨h.kp.alloc o, h.frd.alloc o, h.hN⟩
theorem Ql.next (h : Ql w N A cap l g wr Y r B c) (hg : wr.grownBy w' (some N)) (f : Frd w' N A cap l g') : Ql w N A cap l g' w' Y r B c :=
  ⟨h.on.next hg f, h.row.grown hg (fun e => by have := h.on.hN; have := h.far; have := Option.some.inj e; omega), h.far, owns_kept h.own hg (fun b e => by cases e; exact .inl h.on.hN)⟩
theorem Frd.lay (h : Frd w N A cap l g) : Ql w N A cap l g (w.alloc (.cells #[.string ⟨#[]⟩, .int .i64 0, .int .u64 0, .int .i64 0, .int .i64 0, .int .i64 0, .bool false, .slice none 0 0] 86)) w.heap.size ⟨⟨#[]⟩, 0, 0, 0, 0, 0, false, []⟩ none 0 :=
  ⟨⟨(Kp.refl _ _ _).alloc _, h.alloc _, h.lt⟩, ⟨heap_alloc_new w _⟩, Nat.le_refl _, OwnN.nil _ _⟩
theorem liftQ (H : ∀ w', Frd w' N A cap l g → Calls Tryz.prog f as_ w' (Fpost w' N A cap l V g')) : ∀ w', Ql w N A cap l g w' Y r B c → Calls Tryz.prog f as_ w' (fun e w'' => e = .returned V ∧ Ql w N A cap l g' w'' Y r B c) :=
  fun w' h => (H w' h.on.frd).mono fun e w'' ⟨he, hg, hf⟩ => ⟨he, h.next hg hf⟩
theorem Ql.set (h : Ql w N A cap l g wr Y r B c) (hold : ∀ ad, A = some ad → l ≠ [] → ad.block < w.heap.size) {o : Nat} {v : Value} {r' : Rw} (e : r'.bks = r.bks)
    (hb : (wr.setCell ⟨Y, o, none⟩ v).heap[Y]? = some (.cells #[.string r'.key, .int .i64 r'.kind, .int .u64 (r'.many : Nat), .int .i64 r'.sum, .int .i64 r'.least, .int .i64 r'.most, .bool r'.over, .slice B r'.bks.length c] 86 (0, 0))) : Ql w N A cap l g (wr.setCell ⟨Y, o, none⟩ v) Y r' B c := by
  have gr := grown_set (grown_refl wr (some Y)) ⟨Y, o, none⟩ v (Or.inl rfl)
  refine ⟨h.on.grown gr (fun b e => by cases e; exact h.far) hold, ⟨hb⟩, h.far, ?_⟩
  rw [e]
  exact owns_kept h.own gr (fun b e => by cases e; exact .inr ⟨_, _, _, h.row.blk, by decide⟩)
section
variable {k : ByteArray} {kd sm ls ms : Int} {mn : Nat} {ov : Bool} {bks : List Nat}
theorem Ql.s0 (h : Ql w N A cap l g wr Y ⟨k, kd, mn, sm, ls, ms, ov, bks⟩ B c) (hold : ∀ ad, A = some ad → l ≠ [] → ad.block < w.heap.size) (x : ByteArray) : Ql w N A cap l g (wr.setCell ⟨Y, 0, none⟩ (.string x)) Y ⟨x, kd, mn, sm, ls, ms, ov, bks⟩ B c := h.set hold rfl (heap_set_same h.row.blk)
theorem Ql.s1 (h : Ql w N A cap l g wr Y ⟨k, kd, mn, sm, ls, ms, ov, bks⟩ B c) (hold : ∀ ad, A = some ad → l ≠ [] → ad.block < w.heap.size) (x : Int) : Ql w N A cap l g (wr.setCell ⟨Y, 1, none⟩ (.int .i64 x)) Y ⟨k, x, mn, sm, ls, ms, ov, bks⟩ B c := h.set hold rfl (heap_set_same h.row.blk)
theorem Ql.s2 (h : Ql w N A cap l g wr Y ⟨k, kd, mn, sm, ls, ms, ov, bks⟩ B c) (hold : ∀ ad, A = some ad → l ≠ [] → ad.block < w.heap.size) (x : Nat) : Ql w N A cap l g (wr.setCell ⟨Y, 2, none⟩ (.int .u64 (x : Nat))) Y ⟨k, kd, x, sm, ls, ms, ov, bks⟩ B c := h.set hold rfl (heap_set_same h.row.blk)
theorem Ql.s3 (h : Ql w N A cap l g wr Y ⟨k, kd, mn, sm, ls, ms, ov, bks⟩ B c) (hold : ∀ ad, A = some ad → l ≠ [] → ad.block < w.heap.size) (x : Int) : Ql w N A cap l g (wr.setCell ⟨Y, 3, none⟩ (.int .i64 x)) Y ⟨k, kd, mn, x, ls, ms, ov, bks⟩ B c := h.set hold rfl (heap_set_same h.row.blk)
theorem Ql.s4 (h : Ql w N A cap l g wr Y ⟨k, kd, mn, sm, ls, ms, ov, bks⟩ B c) (hold : ∀ ad, A = some ad → l ≠ [] → ad.block < w.heap.size) (x : Int) : Ql w N A cap l g (wr.setCell ⟨Y, 4, none⟩ (.int .i64 x)) Y ⟨k, kd, mn, sm, x, ms, ov, bks⟩ B c := h.set hold rfl (heap_set_same h.row.blk)
theorem Ql.s5 (h : Ql w N A cap l g wr Y ⟨k, kd, mn, sm, ls, ms, ov, bks⟩ B c) (hold : ∀ ad, A = some ad → l ≠ [] → ad.block < w.heap.size) (x : Int) : Ql w N A cap l g (wr.setCell ⟨Y, 5, none⟩ (.int .i64 x)) Y ⟨k, kd, mn, sm, ls, x, ov, bks⟩ B c := h.set hold rfl (heap_set_same h.row.blk)
theorem Ql.s6 (h : Ql w N A cap l g wr Y ⟨k, kd, mn, sm, ls, ms, ov, bks⟩ B c) (hold : ∀ ad, A = some ad → l ≠ [] → ad.block < w.heap.size) (x : Bool) : Ql w N A cap l g (wr.setCell ⟨Y, 6, none⟩ (.bool x)) Y ⟨k, kd, mn, sm, ls, ms, x, bks⟩ B c := h.set hold rfl (heap_set_same h.row.blk)
end
theorem Ql.app (h : Ql w N A cap l g wr Y r B c) (hold : ∀ ad, A = some ad → l ≠ [] → ad.block < w.heap.size)
    (g8 : (wr.alloc (.cells #[.int .u64 (n : Nat)] 83)).grownBy w8 (Value.slice B r.bks.length c).ownBlock) : Qa w N A cap l g w8 ∧ RowB w8 Y r B c := by
  have hk : ∀ b, (Value.slice B r.bks.length c).ownBlock = some b → w.heap.size ≤ b ∧ b ≠ Y := fun b hb => by
    obtain ⟨c', f, h1⟩ := ownsB_block h.own b hb
    refine ⟨(World.ownsRow.lt h.own b hb).1, fun e => ?_⟩
    rw [e, h.row.blk] at h1
    cases h1
  exact ⟨(h.on.alloc _).grown g8 (fun b e => (hk b e).1) hold, (h.row.alloc _).grown g8 (fun e => (hk Y e).2 rfl)⟩
theorem Ql.put (h : Qa w N A cap l g w8 ∧ RowB w8 Y r B c) (far : w.heap.size ≤ Y) (hold : ∀ ad, A = some ad → l ≠ [] → ad.block < w.heap.size)
    (o8 : OwnN w8 w.heap.size A8 c8 (r.bks ++ [n])) : Ql w N A cap l g (w8.setCell ⟨Y, 7, none⟩ (.slice A8 (r.bks.length + 1) c8)) Y ⟨r.key, r.kind, r.many, r.sum, r.least, r.most, r.over, r.bks ++ [n]⟩ A8 c8 := by
  have gr := grown_set (grown_refl w8 (some Y)) ⟨Y, 7, none⟩ (.slice A8 (r.bks.length + 1) c8) (Or.inl rfl)
  refine ⟨h.1.grown gr (fun b e => by cases e; exact far) hold, ⟨?_⟩, far, ?_⟩
  · have := heap_set_same (o := 7) (v := .slice A8 (r.bks.length + 1) c8) h.2.blk
    rw [show (r.bks ++ [n]).length = r.bks.length + 1 by simp]
    exact this
  · exact owns_kept o8 gr (fun b e => by cases e; exact .inr ⟨_, _, _, h.2.blk, by decide⟩)
/-- A round is over: the batch stands as it did, the reader further on, the row's buckets owned. -/
theorem Ql.end_ (h : Ql w0 N A cap l g' wr Y r B' c') (h0 : Fl w N A cap l g w0 G s t rows B c) : Fl w N A cap l g' wr G s t rows B c ∧ OwnN wr (N + 1) B' c' r.bks :=
  ⟨⟨⟨h0.on.below.trans (h.on.kp.to h0.on.below.size (Nat.le_of_lt h0.on.hN) (Nat.le_of_lt h0.on.hN)), h.on.frd, h0.on.hN, h0.on.res.kp h.on.kp (by have := h0.on.hN; omega) (by have := h0.on.hN; omega)⟩, h0.bt.kp h.on.kp (by have := h0.far; omega) (by have := h0.far; omega), h0.far, h0.own.kp h.on.kp (Nat.lt_succ_self _) (Nat.lt_succ_self _)⟩, ownsB_mono h.own h.on.hN⟩
end
end Go.Proofs.YtgnkkcnmepafpaaGreatDoor
namespace Go.Proofs.YtgnkkcnmepafpaaGreatDoor
open Go.ChangeShapes Go.WideShapes Go.ChangeAt Go.RowKit
set_option linter.unusedVariables false

def FgBad (w : World) (e : Ending) (w' : World) : Prop := e = .returned (.tuple #[btVal 0 0 none 0 0, .bool false]) ∧ Below w.heap.size w w'
def FgGood (w : World) (b : Bt) (e : Ending) (w' : World) : Prop := ∃ B c, e = .returned (.tuple #[btVal b.seq b.start B b.rows.length c, .bool true]) ∧ RdR w' B b.rows ∧ Below w.heap.size w w'
def FgPost (w : World) (o : Option Bt) (e : Ending) (w' : World) : Prop := match o with | none => FgBad w e w' | some b => FgGood w b e w'
theorem ref_start (w : World) (A : Option Addr) (cap : Nat) (l : List UInt8) (hr : RdS w A cap l) (hold : ∀ ad, A = some ad → l ≠ [] → ad.block < w.heap.size) :
    Fa w (w.heap.size + 1) A cap l g0 ((w.alloc (.cells #[.int .i64 0, .int .i64 0, .slice none 0 0] 48)).alloc (.cells #[.slice A l.length cap, .int .i64 0, .bool false, .int .i64 0] 104)) := by
  have h1 := heap_alloc_new (w.alloc (.cells #[.int .i64 0, .int .i64 0, .slice none 0 0] 48)) (.cells #[.slice A l.length cap, .int .i64 0, .bool false, .int .i64 0] 104)
  rw [World.size_alloc] at h1
  refine ⟨(below_new w _).alloc (by simp) _, ⟨Nat.zero_le _, 0, 0, ⟨rfl, fun _ => rfl, fun e => by cases e⟩, ⟨h1, (hr.alloc _).alloc _, fun ad ha hne e => by have := hold ad ha hne; omega, Nat.zero_le _⟩⟩, Nat.lt_succ_self _, (BtB.new w 0 0 none 0 0).alloc _⟩
theorem rds_old {w : World} {A : Option Addr} {cap : Nat} {l : List UInt8} (h : RdS w A cap l) : ∀ ad, A = some ad → l ≠ [] → ad.block < w.heap.size := fun ad ha hne => by
  cases l with
  | nil => exact absurd rfl hne
  | cons c l =>
    have h1 := World.block_lt_of_cell? w _ (h.rd ad ha 0 c rfl)
    rwa [show (ad.add 0).block = ad.block by simp [Addr.add]] at h1
/-- The result of nothing is laid into the result's own block. -/
theorem res_below {w wr : World} (h : Below w.heap.size w wr) (v0 v1 v2 : Value) : Below w.heap.size w (((wr.setCell ⟨w.heap.size, 0, none⟩ v0).setCell ⟨w.heap.size, 1, none⟩ v1).setCell ⟨w.heap.size, 2, none⟩ v2) :=
  below_of_grown (grown_set (grown_set (grown_set (grown_of h) _ _ (Or.inr (Nat.le_refl _))) _ _ (Or.inr (Nat.le_refl _))) _ _ (Or.inr (Nat.le_refl _)))
set_option maxHeartbeats 8000000 in
set_option maxRecDepth 100000 in
theorem refGet (A : Option Addr) (cap : Nat) (l : List UInt8) (w : World) (hr : RdS w A cap l) (hl : l.length ≤ 1000000) :
    Calls Tryz.prog 34 #[.slice A l.length cap] w (FgPost w (getF l)) := by
  have hold := rds_old hr
  have HOLD := Lib.hid hold
  have J0 := Lib.hid (ref_start w A cap l hr hold)
  obtain ⟨vs, gs, e1⟩ : ∃ vs gs, gNum l g0 = (vs, gs) := ⟨_, _, rfl⟩
  obtain ⟨vt, gt, e2⟩ : ∃ vt gt, gNum l gs = (vt, gt) := ⟨_, _, rfl⟩
  obtain ⟨M, gm, e3⟩ : ∃ M gm, gNum l gt = (M, gm) := ⟨_, _, rfl⟩
  have hbey : gm.bey = false := by
    have h3 := num_bey l gt
    have h2 := num_bey l gs
    have h1 := num_bey l g0
    rw [e3] at h3
    rw [e2] at h2
    rw [e1] at h1
    exact h3.trans (h2.trans h1)
  have D1 := fun w' h => frNumber (w.heap.size + 1) A cap l g0 hl w' h
  rw [e1] at D1
  have C1 := Lib.hid (liftF (w := w) D1)
  have D2 := fun w' h => frNumber (w.heap.size + 1) A cap l gs hl w' h
  rw [e2] at D2
  have C2 := Lib.hid (liftF (w := w) D2)
  have D3 := fun w' h => frNumber (w.heap.size + 1) A cap l gt hl w' h
  rw [e3] at D3
  have C3 := Lib.hid (liftF (w := w) D3)
  have HE := Lib.hid (And.intro e1 (And.intro e2 (And.intro e3 hbey)))
  clear D1 D2 D3 e1 e2 e3 hbey hr hold
  go_enter Tryz.func34, Tryz.ntmps34
  go_wp2_with fail
  refine (C1.out _ J0.out).mono ?_
  rintro e w1 ⟨rfl, j1⟩
  have J1 := Lib.hid j1
  clear j1 C1 J0
  go_wp2_with fail
  refine (C2.out _ J1.out).mono ?_
  rintro e w2 ⟨rfl, j2⟩
  have J2 := Lib.hid j2
  clear j2 C2 J1
  go_wp2_with fail
  refine (C3.out _ J2.out).mono ?_
  rintro e w3 ⟨rfl, j3⟩
  have J3 := Lib.hid j3
  have d0 := j3.res.c0
  have d1 := j3.res.c1
  have d2 := j3.res.c2
  have f0 := j3.res.f 0
  have f1 := j3.res.f 1
  have f2 := j3.res.f 2
  clear j3 C3 J2
  by_cases hs : vs ≤ 2147483647
  case neg =>
    have HX : Hid (getF l = none) := Lib.hid (batch_seq l (by rw [HE.out.1]; show 2147483647 < vs; omega))
    have x1 : decide ((2147483647 : Int) < (vs : Int)) = true := decide_eq_true (by omega)
    have x2 : decide (2147483647 < vs) = true := decide_eq_true (by omega)
    go_wp2_with fail
    refine bodyPost_ret (v := .tuple #[.agg #[.int .i64 0, .int .i64 0, .slice none 0 0], .bool false]) (by simp [results, Tryz.results34, go_sem, d0, d1, d2]) rfl ?_
    rw [HX.out]
    exact ⟨rfl, res_below J3.out.below _ _ _⟩
  have x1 : decide ((2147483647 : Int) < (vs : Int)) = false := decide_eq_false (by omega)
  have x2 : decide (2147483647 < vs) = false := decide_eq_false (by omega)
  by_cases ht : vt ≤ 1099511627776
  case neg =>
    have HX : Hid (getF l = none) := Lib.hid (batch_start l (by rw [HE.out.1]; exact hs) (by rw [HE.out.1]; show 1099511627776 < (gNum l gs).1; rw [HE.out.2.1]; show 1099511627776 < vt; omega))
    have x3 : decide ((1099511627776 : Int) < (vt : Int)) = true := decide_eq_true (by omega)
    have x4 : decide (1099511627776 < vt) = true := decide_eq_true (by omega)
    go_wp2_with fail
    refine bodyPost_ret (v := .tuple #[.agg #[.int .i64 0, .int .i64 0, .slice none 0 0], .bool false]) (by simp [results, Tryz.results34, go_sem, d0, d1, d2]) rfl ?_
    rw [HX.out]
    exact ⟨rfl, res_below J3.out.below _ _ _⟩
  have x3 : decide ((1099511627776 : Int) < (vt : Int)) = false := decide_eq_false (by omega)
  have x4 : decide (1099511627776 < vt) = false := decide_eq_false (by omega)
  by_cases hM : M ≤ 200
  case neg =>
    have HX : Hid (getF l = none) := Lib.hid (batch_many l (by rw [HE.out.1]; exact hs) (by rw [HE.out.1]; show (gNum l gs).1 ≤ _; rw [HE.out.2.1]; exact ht) (by rw [HE.out.1]; show 200 < (gNum l (gNum l gs).2).1; rw [HE.out.2.1]; show 200 < (gNum l gt).1; rw [HE.out.2.2.1]; show 200 < M; omega))
    have x5 : decide ((200 : Int) < (M : Int)) = true := decide_eq_true (by omega)
    have x6 : decide (200 < M) = true := decide_eq_true (by omega)
    go_wp2_with fail
    refine bodyPost_ret (v := .tuple #[.agg #[.int .i64 0, .int .i64 0, .slice none 0 0], .bool false]) (by simp [results, Tryz.results34, go_sem, d0, d1, d2]) rfl ?_
    rw [HX.out]
    exact ⟨rfl, res_below J3.out.below _ _ _⟩
  have x5 : decide ((200 : Int) < (M : Int)) = false := decide_eq_false (by omega)
  have x6 : decide (200 < M) = false := decide_eq_false (by omega)
  have HGB : Hid (gBatch l = (⟨(vs : Nat), (vt : Nat), (gRows l M gm []).1⟩, (gRows l M gm []).2)) := Lib.hid (by
    unfold gBatch
    rw [up_in l _ g0 (by rw [HE.out.1]; exact hs), HE.out.1]
    simp only
    rw [up_in l _ gs (by rw [HE.out.2.1]; exact ht), HE.out.2.1]
    simp only
    rw [up_in l _ gt (by rw [HE.out.2.2.1]; exact hM), HE.out.2.2.1])
  have HBEY := Lib.hid HE.out.2.2.2
  have J4 := Lib.hid (J3.out.lay (vs : Nat) (vt : Nat))
  have HSZ : Hid (SizedR (gRows l M gm []).1) := Lib.hid (by have := (batch_sized l).1; rw [HGB.out] at this; exact this)
  clear HE J3 d0 d1 d2 f0 f1 f2
  go_wp2_with fail
  clear x1 x2 x3 x4 x5 x6
  generalize w3.heap.size = G at J4 ⊢
  generalize w.heap.size + 1 = N at *
  go_loopg [9] M (fun gh s9 wx => ∃ (g' : Gs) (rows : List Rw) (B : Option Addr) (c : Nat), rows.length + gh = M ∧ s9 = .int .u64 rows.length ∧ Hid (Fl w N A cap l g' wx G (vs : Nat) (vt : Nat) rows B c ∧ gRows l gh g' rows = gRows l M gm [] ∧ g'.bey = false))
  case atStart => exact ⟨gm, [], none, 0, by simp, rfl, Lib.hid ⟨J4.out, rfl, HBEY.out⟩⟩
  case round =>
    clear J4 HBEY
    obtain ⟨g', rows, B, c, hig, rfl, HG⟩ := hrel
    cases gk with
    | zero =>
      have x1 : decide ((rows.length : Int) < (M : Int)) = false := decide_eq_false (by omega)
      have x2 : decide (rows.length < M) = false := decide_eq_false (by omega)
      have HGR : Hid (gRows l M gm [] = (rows, g')) := Lib.hid HG.out.2.1.symm
      have CE := Lib.hid (frEnd N A cap l g' hl wr HG.out.1.on.frd)
      go_wp2_with fail
      refine CE.out.mono ?_
      rintro e w1 ⟨rfl, gr1⟩
      have hNG := HG.out.1.far
      have hRN := HG.out.1.on.hN
      have hbz := HG.out.1.on.below.size
      have T1 := HG.out.1.bt.grown gr1 (fun e => by have := Option.some.inj e; omega)
      have O1 := HG.out.1.own.kept gr1 (fun b e => by cases e; exact .inl (Nat.lt_succ_self _))
      have Z1 := HG.out.1.on.res.grown gr1 (fun e => by have := Option.some.inj e; omega)
      have B1 := Lib.hid (HG.out.1.on.below.trans (below_gr hbz gr1 (fun b e => by cases e; omega)))
      have HT1 := Lib.hid T1
      have HO1 := Lib.hid O1
      have HZ1 := Lib.hid Z1
      have t0 := T1.c0
      have t1 := T1.c1
      have t2 := T1.c2
      have lt1 := T1.lt
      have CM := refMayBt ⟨(vs : Nat), (vt : Nat), rows⟩ B c w1 O1.rd (by have := HSZ.out; rw [HGR.out] at this; exact this)
      unfold btVal at CM
      simp only at CM
      have CM := Lib.hid CM
      clear T1 O1 Z1 gr1 CE
      go_wp2_with fail
      refine CM.out.mono ?_
      rintro e w2 ⟨rfl, b2⟩
      have B2 := Lib.hid (B1.out.trans (b2.mono B1.out.size))
      have T2 := HT1.out.below b2 (Nat.le_refl _)
      have O2 := Lib.hid (HO1.out.below b2)
      have Z2 := HZ1.out.below b2 (Nat.le_refl _)
      have d0 := Z2.c0
      have d1 := Z2.c1
      have d2 := Z2.c2
      have f0 := Z2.f 0
      have f1 := Z2.f 1
      have f2 := Z2.f 2
      have t0 := T2.c0
      have t1 := T2.c1
      have t2 := T2.c2
      clear b2 CM T2 Z2 B1 HT1 HO1 HZ1
      cases hend : rsEnd l g'.r with
      | some p =>
        have HX : Hid (getF l = none) := Lib.hid (getF_end (p := p) (by rw [HGB.out]; show rsEnd l (gRows l M gm []).2.r = _; rw [HGR.out]; exact hend))
        have y1 : decide ((0 : Int) ≤ (p : Int)) = true := decide_eq_true (by omega)
        unfold endZ
        simp only
        clear hend
        go_wp2_with fail
        refine bodyPost_ret (v := .tuple #[.agg #[.int .i64 0, .int .i64 0, .slice none 0 0], .bool false]) (by simp [results, Tryz.results34, go_sem, d0, d1, d2]) rfl ?_
        rw [HX.out]
        exact ⟨rfl, res_below B2.out _ _ _⟩
      | none =>
        unfold endZ
        simp only
        have y1 : decide ((0 : Int) ≤ -1) = false := by decide
        cases hmay : mayOk ⟨(vs : Nat), (vt : Nat), rows⟩ with
        | false =>
          have HX : Hid (getF l = none) := Lib.hid (getF_may (by rw [HGB.out]; show mayOk ⟨_, _, (gRows l M gm []).1⟩ = _; rw [HGR.out]; exact hmay))
          clear hend hmay
          go_wp2_with fail
          refine bodyPost_ret (v := .tuple #[.agg #[.int .i64 0, .int .i64 0, .slice none 0 0], .bool false]) (by simp [results, Tryz.results34, go_sem, d0, d1, d2]) rfl ?_
          rw [HX.out]
          exact ⟨rfl, res_below B2.out _ _ _⟩
        | true =>
          have HX : Hid (getF l = some ⟨(vs : Nat), (vt : Nat), rows⟩) := Lib.hid (by
            have hq : (gBatch l).1 = ⟨(vs : Nat), (vt : Nat), rows⟩ := by rw [HGB.out, HGR.out]
            rw [getF_good (by rw [HGB.out]; show (gRows l M gm []).2.bey = _; rw [HGR.out]; exact HG.out.2.2) (by rw [HGB.out]; show rsEnd l (gRows l M gm []).2.r = _; rw [HGR.out]; exact hend) (by rw [hq]; exact hmay), hq])
          clear hend hmay
          go_wp2_with fail
          refine bodyPost_ret (v := .tuple #[.agg #[.int .i64 (vs : Nat), .int .i64 (vt : Nat), .slice B rows.length c], .bool true]) (by simp [results, Tryz.results34, go_sem, d0, d1, d2]) rfl ?_
          rw [HX.out]
          exact ⟨B, c, rfl, (O2.out.kept (grown_set (grown_set (grown_set (grown_refl _ (some w.heap.size)) _ _ (Or.inl rfl)) _ _ (Or.inl rfl)) _ _ (Or.inl rfl)) (fun b e => by cases e; exact .inl (by omega))).rd, res_below B2.out _ _ _⟩
    | succ gh =>
      have x1 : decide ((rows.length : Int) < (M : Int)) = true := decide_eq_true (by omega)
      have x2 : decide (rows.length < M) = true := decide_eq_true (by omega)
      have hal : rows.length ≤ 1000 := by omega
      obtain ⟨va, ga, nb, gb, vc, gc, nd, gd, ne, ge, nf, gf, no, go, nm, gn, e1, e2, e3, e4, e5, e6, e7, e8, k1, k2, k3, k4, k5⟩ := ref_parts l g'
      have HK := Lib.hid (And.intro k1 (And.intro k2 (And.intro k3 (And.intro k4 k5))))
      clear k1 k2 k3 k4 k5
      have D1 := fun w' h => frText N A cap l g' hl w' h
      rw [e1] at D1
      have CQ1 := Lib.hid (liftQ (w := wr) (Y := wr.heap.size) (r := ⟨⟨#[]⟩, 0, 0, 0, 0, 0, false, []⟩) (B := none) (c := 0) D1)
      have D2 := fun w' h => frNumber N A cap l ga hl w' h
      rw [e2] at D2
      have CQ2 := Lib.hid (liftQ (w := wr) (Y := wr.heap.size) (r := ⟨⟨va.toArray⟩, 0, 0, 0, 0, 0, false, []⟩) (B := none) (c := 0) D2)
      have D3 := fun w' h => frNumber N A cap l gb hl w' h
      rw [e3] at D3
      have CQ3 := Lib.hid (liftQ (w := wr) (Y := wr.heap.size) (r := ⟨⟨va.toArray⟩, 0, 0, 0, 0, 0, false, []⟩) (B := none) (c := 0) D3)
      have D4 := fun w' h => frWhole N A cap l gc hl w' h
      rw [e4] at D4
      generalize unfoldN nd = zd at D4 HK
      have CQ4 := Lib.hid (liftQ (w := wr) (Y := wr.heap.size) (r := ⟨⟨va.toArray⟩, 0, vc, 0, 0, 0, false, []⟩) (B := none) (c := 0) D4)
      have D5 := fun w' h => frWhole N A cap l gd hl w' h
      rw [e5] at D5
      generalize unfoldN ne = ze at D5 HK
      have CQ5 := Lib.hid (liftQ (w := wr) (Y := wr.heap.size) (r := ⟨⟨va.toArray⟩, 0, vc, zd, 0, 0, false, []⟩) (B := none) (c := 0) D5)
      have D6 := fun w' h => frWhole N A cap l ge hl w' h
      rw [e6] at D6
      generalize unfoldN nf = zf at D6 HK
      have CQ6 := Lib.hid (liftQ (w := wr) (Y := wr.heap.size) (r := ⟨⟨va.toArray⟩, 0, vc, zd, ze, 0, false, []⟩) (B := none) (c := 0) D6)
      have D7 := fun w' h => frNumber N A cap l gf hl w' h
      rw [e7] at D7
      have CQ7 := Lib.hid (liftQ (w := wr) (Y := wr.heap.size) (r := ⟨⟨va.toArray⟩, 0, vc, zd, ze, zf, false, []⟩) (B := none) (c := 0) D7)
      have D8 := fun w' h => frNumber N A cap l go hl w' h
      rw [e8] at D8
      have CQ8 := Lib.hid (liftQ (w := wr) (Y := wr.heap.size) (r := ⟨⟨va.toArray⟩, 0, vc, zd, ze, zf, false, []⟩) (B := none) (c := 0) D8)
      have HOW : Hid (∀ ad, A = some ad → l ≠ [] → ad.block < wr.heap.size) := Lib.hid (fun ad ha hne => Nat.lt_of_lt_of_le (HOLD.out ad ha hne) HG.out.1.on.below.size)
      have Q0 := Lib.hid HG.out.1.on.frd.lay
      clear D1 D2 D3 D4 D5 D6 D7 D8 e1 e2 e3 e4 e5 e6 e7 e8
      go_wp2_with fail
      refine (CQ1.out _ Q0.out).mono ?_
      rintro e u1 ⟨rfl, q1⟩
      have p1 := q1.row.c0
      have z1 := q1.row.f 0
      have Q1 := Lib.hid (q1.s0 HOW.out ⟨va.toArray⟩)
      clear q1 CQ1 Q0
      go_wp2_with fail
      clear p1 z1
      refine (CQ2.out _ Q1.out).mono ?_
      rintro e u2 ⟨rfl, q2⟩
      have Q2 := Lib.hid q2
      clear q2 CQ2 Q1
      go_wp2_with fail
      refine (CQ3.out _ Q2.out).mono ?_
      rintro e u3 ⟨rfl, q3⟩
      have p3 := q3.row.c2
      have z3 := q3.row.f 2
      have Q3 := Lib.hid (q3.s2 HOW.out vc)
      clear q3 CQ3 Q2
      go_wp2_with fail
      clear p3 z3
      refine (CQ4.out _ Q3.out).mono ?_
      rintro e u4 ⟨rfl, q4⟩
      have p4 := q4.row.c3
      have z4 := q4.row.f 3
      have Q4 := Lib.hid (q4.s3 HOW.out zd)
      clear q4 CQ4 Q3
      go_wp2_with fail
      clear p4 z4
      refine (CQ5.out _ Q4.out).mono ?_
      rintro e u5 ⟨rfl, q5⟩
      have p5 := q5.row.c4
      have z5 := q5.row.f 4
      have Q5 := Lib.hid (q5.s4 HOW.out ze)
      clear q5 CQ5 Q4
      go_wp2_with fail
      clear p5 z5
      refine (CQ6.out _ Q5.out).mono ?_
      rintro e u6 ⟨rfl, q6⟩
      have p6 := q6.row.c5
      have z6 := q6.row.f 5
      have Q6 := Lib.hid (q6.s5 HOW.out zf)
      clear q6 CQ6 Q5
      go_wp2_with fail
      clear p6 z6
      refine (CQ7.out _ Q6.out).mono ?_
      rintro e u7 ⟨rfl, q7⟩
      have Q7 := Lib.hid q7
      clear q7 CQ7 Q6
      go_wp2_with fail
      refine (CQ8.out _ Q7.out).mono ?_
      rintro e u8 ⟨rfl, q8⟩
      have Q8 := Lib.hid q8
      clear q8 CQ8 Q7
      have E8 := Lib.hid (Q8.out.end_ HG.out.1)
      have d0 := E8.out.1.on.res.c0
      have d1 := E8.out.1.on.res.c1
      have d2 := E8.out.1.on.res.c2
      have f0 := E8.out.1.on.res.f 0
      have f1 := E8.out.1.on.res.f 1
      have f2 := E8.out.1.on.res.f 2
      by_cases hb : nb ≤ 3
      case neg =>
        have HX : Hid (getF l = none) := Lib.hid (getF_bey (by rw [HGB.out]; show (gRows l M gm []).2.bey = _; rw [← HG.out.2.1]; exact rows_next l gh g' rows (HK.out.1 (by omega))))
        have y1a : decide ((3 : Int) < (nb : Int)) = true := decide_eq_true (by omega)
        have y1b : decide (3 < nb) = true := decide_eq_true (by omega)
        go_wp2_with fail
        refine bodyPost_ret (v := .tuple #[.agg #[.int .i64 0, .int .i64 0, .slice none 0 0], .bool false]) (by simp [results, Tryz.results34, go_sem, d0, d1, d2]) rfl ?_
        rw [HX.out]
        exact ⟨rfl, res_below E8.out.1.on.below _ _ _⟩
      have y1a : decide ((3 : Int) < (nb : Int)) = false := decide_eq_false (by omega)
      have y1b : decide (3 < nb) = false := decide_eq_false (by omega)
      by_cases ho : no ≤ 1
      case neg =>
        have HX : Hid (getF l = none) := Lib.hid (getF_bey (by rw [HGB.out]; show (gRows l M gm []).2.bey = _; rw [← HG.out.2.1]; exact rows_next l gh g' rows (HK.out.2.1 hb (by omega))))
        have y2a : decide ((1 : Int) < (no : Int)) = true := decide_eq_true (by omega)
        have y2b : decide (1 < no) = true := decide_eq_true (by omega)
        go_wp2_with fail
        refine bodyPost_ret (v := .tuple #[.agg #[.int .i64 0, .int .i64 0, .slice none 0 0], .bool false]) (by simp [results, Tryz.results34, go_sem, d0, d1, d2]) rfl ?_
        rw [HX.out]
        exact ⟨rfl, res_below E8.out.1.on.below _ _ _⟩
      have y2a : decide ((1 : Int) < (no : Int)) = false := decide_eq_false (by omega)
      have y2b : decide (1 < no) = false := decide_eq_false (by omega)
      by_cases hm : nm ≤ 65
      case neg =>
        have HX : Hid (getF l = none) := Lib.hid (getF_bey (by rw [HGB.out]; show (gRows l M gm []).2.bey = _; rw [← HG.out.2.1]; exact rows_next l gh g' rows (HK.out.2.2.1 hb ho (by omega))))
        have y3a : decide ((65 : Int) < (nm : Int)) = true := decide_eq_true (by omega)
        have y3b : decide (65 < nm) = true := decide_eq_true (by omega)
        go_wp2_with fail
        refine bodyPost_ret (v := .tuple #[.agg #[.int .i64 0, .int .i64 0, .slice none 0 0], .bool false]) (by simp [results, Tryz.results34, go_sem, d0, d1, d2]) rfl ?_
        rw [HX.out]
        exact ⟨rfl, res_below E8.out.1.on.below _ _ _⟩
      have y3a : decide ((65 : Int) < (nm : Int)) = false := decide_eq_false (by omega)
      have y3b : decide (65 < nm) = false := decide_eq_false (by omega)
      obtain ⟨ov, hov⟩ : ∃ ov, ov = (no == 1) := ⟨_, rfl⟩
      have xo : ((no : Int) == 1) = ov := by rw [hov]; exact u_beq no
      have xb : IntKind.i64.wrap (nb : Int) = (nb : Int) := by rw [IntKind.wrap_i64]; omega
      have HR : Hid (gRow l g' = (⟨⟨va.toArray⟩, (nb : Nat), vc, zd, ze, zf, ov, (gBks l nm gn []).1⟩, (gBks l nm gn []).2)) := Lib.hid (by rw [HK.out.2.2.2.1 hb ho hm, ← hov])
      have HBN : Hid (gn.bey = false) := Lib.hid (HK.out.2.2.2.2.trans HG.out.2.2)
      have p9 := Q8.out.row.c1
      have z9 := Q8.out.row.f 1
      have q9 := Q8.out.s1 HOW.out (nb : Int)
      have p10 := q9.row.c6
      have z10 := q9.row.f 6
      have Q10 := Lib.hid (q9.s6 HOW.out ov)
      have HFAR := Lib.hid HG.out.1.far
      clear hov q9 HK E8 d0 d1 d2 f0 f1 f2 Q8
      go_wp2_with fail
      clear p9 z9 p10 z10 y1a y1b y2a y2b y3a y3b xo xb
      generalize hY : wr.heap.size = Y at Q10 ⊢
      have HY := Lib.hid hY
      clear hY
      generalize hw0 : wr = w0 at *
      clear hw0
      go_loopg [14] nm (fun gh2 s14 wx => ∃ (g2 : Gs) (acc : List Nat) (B9 : Option Addr) (c9 : Nat), acc.length + gh2 = nm ∧ s14 = .int .u64 acc.length ∧ Hid (Ql w0 N A cap l g2 wx Y ⟨⟨va.toArray⟩, (nb : Nat), vc, zd, ze, zf, ov, acc⟩ B9 c9 ∧ gBks l gh2 g2 acc = gBks l nm gn [] ∧ g2.bey = false))
      case atStart => exact ⟨gn, [], none, 0, by simp, rfl, Lib.hid ⟨Q10.out, rfl, HBN.out⟩⟩
      case round =>
        clear Q10 HBN
        obtain ⟨g2, acc, B9, c9, hig2, rfl, HJ⟩ := hrel
        have c7 : wr.cell? ⟨Y, 7, none⟩ = some (.slice B9 acc.length c9) := HJ.out.1.row.c7
        cases gk with
        | zero =>
          have y1 : decide ((acc.length : Int) < (nm : Int)) = false := decide_eq_false (by omega)
          have y2 : decide (acc.length < nm) = false := decide_eq_false (by omega)
          have hq := HJ.out.2.1
          have HX : Hid (gRows l gh g2 (rows ++ [⟨⟨va.toArray⟩, (nb : Nat), vc, zd, ze, zf, ov, acc⟩]) = gRows l M gm []) := Lib.hid (by
            rw [← HG.out.2.1, gRows, HR.out, ← hq, gBks])
          have E9 := HJ.out.1.end_ HG.out.1
          have HE9 := Lib.hid E9
          obtain ⟨A8, c8, w8, r8, o8, g8⟩ := append_row ⟨⟨va.toArray⟩, (nb : Nat), vc, zd, ze, zf, ov, acc⟩ B9 c9 E9.1.own E9.2 E9.1.on.frd.lt hal
          have j8 := E9.1.app HOLD.out g8
          have z7 := j8.2.f 2
          have y7 := j8.2.c2
          have J8 := Lib.hid j8
          have O8 := Lib.hid o8
          unfold rowObj at r8
          have R8 := Lib.hid r8
          have t2 := E9.1.bt.c2
          have c0 : wr.cell? ⟨Y, 0, none⟩ = some (.string ⟨va.toArray⟩) := HJ.out.1.row.c0
          have c1 : wr.cell? ⟨Y, 1, none⟩ = some (.int .i64 (nb : Nat)) := HJ.out.1.row.c1
          have c2 : wr.cell? ⟨Y, 2, none⟩ = some (.int .u64 (vc : Nat)) := HJ.out.1.row.c2
          have c3 : wr.cell? ⟨Y, 3, none⟩ = some (.int .i64 zd) := HJ.out.1.row.c3
          have c4 : wr.cell? ⟨Y, 4, none⟩ = some (.int .i64 ze) := HJ.out.1.row.c4
          have c5 : wr.cell? ⟨Y, 5, none⟩ = some (.int .i64 zf) := HJ.out.1.row.c5
          have c6 : wr.cell? ⟨Y, 6, none⟩ = some (.bool ov) := HJ.out.1.row.c6
          clear hq E9 j8 o8 g8 r8
          go_wp2_with (first | (at_builtin; refine wpList_append_two rfl (.tmp 100) (.tmp 102) 46 46 rfl _ _ _ rfl rfl R8.out ?_) | fail)
          go_roundg gh
          case rel => exact ⟨g2, rows ++ [⟨⟨va.toArray⟩, (nb : Nat), vc, zd, ze, zf, ov, acc⟩], A8, c8, by simp; omega, by simp, Lib.hid ⟨Fl.put J8.out HFAR.out HOLD.out O8.out, HX.out, HJ.out.2.2⟩⟩
          case measure => omega
        | succ gh2 =>
          have y1 : decide ((acc.length : Int) < (nm : Int)) = true := decide_eq_true (by omega)
          have y2 : decide (acc.length < nm) = true := decide_eq_true (by omega)
          obtain ⟨n, g3, en⟩ : ∃ n g3, gNum l g2 = (n, g3) := ⟨_, _, rfl⟩
          have HX : Hid (gBks l gh2 g3 (acc ++ [n]) = gBks l nm gn []) := Lib.hid (by rw [← HJ.out.2.1, gBks, en])
          have HB3 : Hid (g3.bey = false) := Lib.hid (by have := num_bey l g2; rw [en] at this; exact this.trans HJ.out.2.2)
          have D9 := fun w' h => frNumber N A cap l g2 hl w' h
          rw [en] at D9
          have CN := Lib.hid (liftQ (w := w0) (Y := Y) (r := ⟨⟨va.toArray⟩, (nb : Nat), vc, zd, ze, zf, ov, acc⟩) (B := B9) (c := c9) D9)
          have hal2 : acc.length ≤ 1000 := by omega
          clear D9 en
          go_wp2_with fail
          refine (CN.out _ HJ.out.1).mono ?_
          rintro e w9 ⟨rfl, j9⟩
          have q7 : w9.cell? ⟨Y, 7, none⟩ = some (.slice B9 acc.length c9) := j9.row.c7
          have lg9 := j9.row.lt
          have q8 : (w9.alloc (.cells #[.int .u64 (n : Nat)] 83)).cell? ⟨Y, 7, none⟩ = some (.slice B9 acc.length c9) := (j9.row.alloc _).c7
          obtain ⟨A8, c8, w8, r8, o8, g8⟩ := append_nat n j9.own j9.on.kp.size hal2
          have j8 := j9.app HOW.out g8
          have z7 := j8.2.f 7
          have y7 : w8.cell? ⟨Y, 7, none⟩ = some (.slice B9 acc.length c9) := j8.2.c7
          have J8 := Lib.hid j8
          have O8 := Lib.hid o8
          have R8 := Lib.hid r8
          have HF := Lib.hid j9.far
          clear j9 j8 o8 g8 r8 CN
          go_wp2_with (first | (at_builtin; refine wpList_append_two rfl (.tmp 94) (.tmp 96) 84 84 rfl _ _ _ rfl rfl R8.out ?_) | fail)
          go_roundg gh2
          case rel => exact ⟨g3, acc ++ [n], A8, c8, by simp; omega, by simp, Lib.hid ⟨Ql.put J8.out HF.out HOW.out O8.out, HX.out, HB3.out⟩⟩
          case measure => omega
end Go.Proofs.YtgnkkcnmepafpaaGreatDoor
namespace Go.Proofs.YtgnkkcnmepafpaaGreatDoor
open Go.ChangeShapes Go.WideShapes Go.ChangeAt Go.RowKit
set_option linter.unusedVariables false

end Go.Proofs.YtgnkkcnmepafpaaGreatDoor
