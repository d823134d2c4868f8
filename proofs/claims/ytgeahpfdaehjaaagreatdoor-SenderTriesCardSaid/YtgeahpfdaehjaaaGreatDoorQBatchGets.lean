/-
  Layer 7 (batch), of no program: what was once beyond its limit stays so; then the bytes are no batch's. Layer 7 (batch): the document's own Get (P7.1): its reader, and where the reading stands. Layer 7 (batch): the document's own Get (P7.1), walked. The law BatchGets (layer 7), walked: what any bytes are those of.
-/
import Derived.Test.YtgeahpfdaehjaaaGreatDoorGrpI
import Derived.Test.YtgeahpfdaehjaaaGreatDoorQBatchHead
import Derived.Test.YtgeahpfdaehjaaaGreatDoorQWireRefText
import Derived.Test.YtgeahpfdaehjaaaGreatDoorQBatchRefMay
namespace Go.Proofs.YtgeahpfdaehjaaaGreatDoor
set_option linter.unusedVariables false

theorem num_bey (l : List UInt8) (g : Gs) : (gNum l g).2.bey = g.bey := rfl
theorem text_bey (l : List UInt8) (g : Gs) : (gText l g).2.bey = g.bey := rfl
theorem up_bey (l : List UInt8) (m : Nat) (g : Gs) (h : g.bey = true) : (gUp l m g).2.bey = true := by
  unfold gUp
  split
  · rfl
  · exact h
theorem up_over (l : List UInt8) (m : Nat) (g : Gs) (h : m < (gNum l g).1) : (gUp l m g).2.bey = true := by
  unfold gUp gNum at *
  rw [if_pos h]
/-- A number within its limit is read as it is. -/
theorem up_in (l : List UInt8) (m : Nat) (g : Gs) (h : (gNum l g).1 ≤ m) : gUp l m g = gNum l g := by
  unfold gUp gNum at *
  rw [if_neg (by omega)]
theorem bks_bey (l : List UInt8) : ∀ (k : Nat) (g : Gs) (acc : List Nat), (gBks l k g acc).2.bey = g.bey
  | 0, g, acc => rfl
  | k + 1, g, acc => by rw [gBks, bks_bey l k]; rfl
theorem head_bey (l : List UInt8) (g : Gs) (h : g.bey = true) : (gHead l g).2.bey = true := by
  unfold gHead
  exact up_bey _ _ _ (up_bey _ _ _ h)
theorem row_bey (l : List UInt8) (g : Gs) (h : g.bey = true) : (gRow l g).2.bey = true := by
  unfold gRow
  simp only
  rw [bks_bey]
  exact up_bey _ _ _ (head_bey l g h)
theorem rows_bey (l : List UInt8) : ∀ (k : Nat) (g : Gs) (acc : List Rw), g.bey = true → (gRows l k g acc).2.bey = true
  | 0, g, acc, h => h
  | k + 1, g, acc, h => rows_bey l k _ _ (row_bey l g h)
/-- A row whose Kind is beyond, whose Over is, or which has too many buckets. -/
theorem row_kind (l : List UInt8) (g : Gs) (h : 3 < (gNum l (gText l g).2).1) : (gRow l g).2.bey = true := by
  unfold gRow gHead
  simp only
  rw [bks_bey]
  exact up_bey _ _ _ (up_bey _ _ _ (up_over l 3 _ h))
theorem row_over (l : List UInt8) (g : Gs) {b : Nat × Gs} (hb : gUp l 3 (gText l g).2 = b) (h : 1 < (gNum l (gNum l (gNum l (gNum l (gNum l b.2).2).2).2).2).1) : (gRow l g).2.bey = true := by
  subst hb
  unfold gRow gHead
  simp only
  rw [bks_bey]
  exact up_bey _ _ _ (up_over l 1 _ h)
theorem row_many (l : List UInt8) (g : Gs) (h : 65 < (gNum l (gHead l g).2).1) : (gRow l g).2.bey = true := by
  unfold gRow
  simp only
  rw [bks_bey]
  exact up_over l 65 _ h
theorem rows_next (l : List UInt8) (k : Nat) (g : Gs) (acc : List Rw) (h : (gRow l g).2.bey = true) : (gRows l (k + 1) g acc).2.bey = true := by
  rw [gRows]
  exact rows_bey l k _ _ h
theorem batch_seq (l : List UInt8) (h : 2147483647 < (gNum l g0).1) : getF l = none := by
  have hb : (gBatch l).2.bey = true := by
    unfold gBatch
    exact rows_bey _ _ _ _ (up_bey _ _ _ (up_bey _ _ _ (up_over l _ _ h)))
  unfold getF
  rw [if_neg (by rw [hb]; simp)]
theorem batch_start (l : List UInt8) (h1 : (gNum l g0).1 ≤ 2147483647) (h : 1099511627776 < (gNum l (gNum l g0).2).1) : getF l = none := by
  have hb : (gBatch l).2.bey = true := by
    unfold gBatch
    rw [up_in l _ _ h1]
    exact rows_bey _ _ _ _ (up_bey _ _ _ (up_over l _ _ h))
  unfold getF
  rw [if_neg (by rw [hb]; simp)]
theorem batch_many (l : List UInt8) (h1 : (gNum l g0).1 ≤ 2147483647) (h2 : (gNum l (gNum l g0).2).1 ≤ 1099511627776) (h : 200 < (gNum l (gNum l (gNum l g0).2).2).1) : getF l = none := by
  have hb : (gBatch l).2.bey = true := by
    unfold gBatch
    rw [up_in l _ _ h1]
    simp only
    rw [up_in l _ _ h2]
    exact rows_bey _ _ _ _ (up_over l _ _ h)
  unfold getF
  rw [if_neg (by rw [hb]; simp)]
end Go.Proofs.YtgeahpfdaehjaaaGreatDoor
namespace Go.Proofs.YtgeahpfdaehjaaaGreatDoor
open Go.ChangeShapes Go.WideShapes Go.ChangeAt Go.RowKit
set_option linter.unusedVariables false

/-- What a row is read as, its parts within their limits or not. -/
theorem ref_parts (l : List UInt8) (g : Gs) : ∃ (va : List UInt8) (ga : Gs) (nb : Nat) (gb : Gs) (vc : Nat) (gc : Gs) (nd : Nat) (gd : Gs) (ne : Nat) (ge : Gs) (nf : Nat) (gf : Gs) (no : Nat) (go : Gs) (nm : Nat) (gm : Gs),
    gText l g = (va, ga) ∧ gNum l ga = (nb, gb) ∧ gNum l gb = (vc, gc) ∧ gNum l gc = (nd, gd) ∧ gNum l gd = (ne, ge) ∧ gNum l ge = (nf, gf) ∧ gNum l gf = (no, go) ∧ gNum l go = (nm, gm) ∧
    (3 < nb → (gRow l g).2.bey = true) ∧ (nb ≤ 3 → 1 < no → (gRow l g).2.bey = true) ∧ (nb ≤ 3 → no ≤ 1 → 65 < nm → (gRow l g).2.bey = true) ∧
    (nb ≤ 3 → no ≤ 1 → nm ≤ 65 → gRow l g = (⟨⟨va.toArray⟩, (nb : Nat), vc, unfoldN nd, unfoldN ne, unfoldN nf, no == 1, (gBks l nm gm []).1⟩, (gBks l nm gm []).2)) ∧ gm.bey = g.bey := by
  obtain ⟨va, ga, e1⟩ : ∃ va ga, gText l g = (va, ga) := ⟨_, _, rfl⟩
  obtain ⟨nb, gb, e2⟩ : ∃ n g', gNum l ga = (n, g') := ⟨_, _, rfl⟩
  obtain ⟨vc, gc, e3⟩ : ∃ n g', gNum l gb = (n, g') := ⟨_, _, rfl⟩
  obtain ⟨nd, gd, e4⟩ : ∃ n g', gNum l gc = (n, g') := ⟨_, _, rfl⟩
  obtain ⟨ne, ge, e5⟩ : ∃ n g', gNum l gd = (n, g') := ⟨_, _, rfl⟩
  obtain ⟨nf, gf, e6⟩ : ∃ n g', gNum l ge = (n, g') := ⟨_, _, rfl⟩
  obtain ⟨no, go, e7⟩ : ∃ n g', gNum l gf = (n, g') := ⟨_, _, rfl⟩
  obtain ⟨nm, gm, e8⟩ : ∃ n g', gNum l go = (n, g') := ⟨_, _, rfl⟩
  have hh : nb ≤ 3 → no ≤ 1 → gHead l g = (⟨⟨va.toArray⟩, (nb : Nat), vc, unfoldN nd, unfoldN ne, unfoldN nf, no == 1, []⟩, go) := by
    intro h1 h2
    unfold gHead
    simp only [e1]
    rw [up_in l 3 ga (by rw [e2]; exact h1), e2]
    simp only [e3, e4, e5, e6]
    rw [up_in l 1 gf (by rw [e7]; exact h2), e7]
  refine ⟨va, ga, nb, gb, vc, gc, nd, gd, ne, ge, nf, gf, no, go, nm, gm, e1, e2, e3, e4, e5, e6, e7, e8, ?_, ?_, ?_, ?_, ?_⟩
  · intro h
    exact row_kind l g (by rw [e1]; show 3 < (gNum l ga).1; rw [e2]; exact h)
  · intro h1 h2
    exact row_over l g (b := (nb, gb)) (by rw [e1]; show gUp l 3 ga = _; rw [up_in l 3 ga (by rw [e2]; exact h1), e2]) (by simp only [e3, e4, e5, e6, e7]; exact h2)
  · intro h1 h2 h3
    exact row_many l g (by rw [hh h1 h2]; show 65 < (gNum l go).1; rw [e8]; exact h3)
  · intro h1 h2 h3
    unfold gRow
    rw [hh h1 h2]
    simp only
    rw [up_in l 65 go (by rw [e8]; exact h3), e8]
  · have b1 := text_bey l g
    have b2 := num_bey l ga
    have b3 := num_bey l gb
    have b4 := num_bey l gc
    have b5 := num_bey l gd
    have b6 := num_bey l ge
    have b7 := num_bey l gf
    have b8 := num_bey l go
    rw [e1] at b1
    rw [e2] at b2
    rw [e3] at b3
    rw [e4] at b4
    rw [e5] at b5
    rw [e6] at b6
    rw [e7] at b7
    rw [e8] at b8
    exact b8.trans (b7.trans (b6.trans (b5.trans (b4.trans (b3.trans (b2.trans b1))))))

/-- The document's reader in block N. -/
def Frd (w : World) (N : Nat) (A : Option Addr) (cap : Nat) (l : List UInt8) (g : Gs) : Prop := g.r.at_ ≤ l.length ∧ ∃ k p, Tells g.r k g.r.bad p ∧ Rfr w N A cap l k g.r.bad p
section
variable {w w' : World} {N : Nat} {A : Option Addr} {cap : Nat} {l : List UInt8} {g g' : Gs}
theorem Frd.lt (h : Frd w N A cap l g) : N < w.heap.size := by obtain ⟨_, k, p, _, hr⟩ := h; exact hr.lt
theorem Frd.kind (h : Frd w N A cap l g) : ∃ c f, w.heap[N]? = some (.cells c 161 f) := by obtain ⟨_, k, p, _, hr⟩ := h; exact ⟨_, _, hr.blk⟩
theorem Frd.grown (h : Frd w N A cap l g) {q : Option Nat} (hg : w.grownBy w' q) (hq : ∀ b, q = some b → b ≠ N ∧ ∀ ad, A = some ad → l ≠ [] → ad.block ≠ b) : Frd w' N A cap l g := by
  obtain ⟨hat, k, p, ht, hr⟩ := h
  refine ⟨hat, k, p, ht, ?_, ⟨hr.rd.le, hr.rd.nn, fun ad ha i c hc => ?_⟩, hr.ne, hr.le⟩
  · rw [hg.block _ hr.lt (fun e => (hq _ e.symm).1 rfl)]; exact hr.blk
  · have h1 := hr.rd.rd ad ha i c hc
    have h2 := World.block_lt_of_cell? w _ h1
    have h3 : (ad.add i).block = ad.block := by unfold Addr.add; split <;> rfl
    have hne : l ≠ [] := fun e => by rw [e] at hc; cases hc
    rw [World.cell?_of_block (hg.block _ h2 (fun e => (hq _ e.symm).2 ad ha hne h3.symm))]
    exact h1
theorem Frd.below (h : Frd w N A cap l g) (hb : Below w.heap.size w w') : Frd w' N A cap l g := h.grown (grown_of (r := none) hb) (fun _ e => by cases e)
theorem Frd.alloc (h : Frd w N A cap l g) (o : Obj) : Frd (w.alloc o) N A cap l g := h.below ((Below.refl _ _).alloc (Nat.le_refl _) _)
theorem Frd.old (h : Frd w N A cap l g) : ∀ ad, A = some ad → l ≠ [] → ad.block < w.heap.size := fun ad ha hne => by
  obtain ⟨_, k, p, _, hr⟩ := h
  cases l with
  | nil => exact absurd rfl hne
  | cons c l =>
    have h1 := World.block_lt_of_cell? w _ (hr.rd.rd ad ha 0 c rfl)
    rwa [show (ad.add 0).block = ad.block by simp [Addr.add]] at h1
end
/-- A method of the document's reader: what it answers, and what becomes of the world. -/
def Fpost (w : World) (N : Nat) (A : Option Addr) (cap : Nat) (l : List UInt8) (V : Value) (g : Gs) (e : Ending) (w' : World) : Prop := e = .returned V ∧ w.grownBy w' (some N) ∧ Frd w' N A cap l g
theorem frNumber (N : Nat) (A : Option Addr) (cap : Nat) (l : List UInt8) (g : Gs) (hl : l.length ≤ 1000000) (w : World) (h : Frd w N A cap l g) :
    Calls Tryz.prog 113 #[.pointer (some ⟨N, 0, none⟩)] w (Fpost w N A cap l (.int .u64 ((gNum l g).1 : Nat)) (gNum l g).2) := by
  obtain ⟨hat, k, p, ht, hr⟩ := h
  exact (refReadNumber w N A cap l g.r k p hr ht hl).mono fun e w' ⟨he, hg, k', p', ht', hr'⟩ => ⟨he, hg, num_at hat, k', p', ht', hr'⟩
theorem frText (N : Nat) (A : Option Addr) (cap : Nat) (l : List UInt8) (g : Gs) (hl : l.length ≤ 1000000) (w : World) (h : Frd w N A cap l g) :
    Calls Tryz.prog 93 #[.pointer (some ⟨N, 0, none⟩), .int .i64 300] w (Fpost w N A cap l (.string ⟨(gText l g).1.toArray⟩) (gText l g).2) := by
  obtain ⟨hat, k, p, ht, hr⟩ := h
  exact (refReadText w N A cap l g.r 300 k p hr ht hl hat (by omega) (by omega)).mono fun e w' ⟨he, hg, k', p', ht', hr'⟩ => ⟨he, hg, text_at hat, k', p', ht', hr'⟩
section
variable (w : World) (N : Nat) (A : Option Addr) (cap : Nat) (l : List UInt8)
/-- Where the reading of a batch stands: its head; its rows, in block G. -/
structure Fa (g : Gs) (wr : World) : Prop where
  below : Below w.heap.size w wr
  frd : Frd wr N A cap l g
  hN : w.heap.size < N
  res : BtB wr w.heap.size 0 0 none 0 0
structure Fl (g : Gs) (wr : World) (G : Nat) (s t : Int) (rows : List Rw) (B : Option Addr) (c : Nat) : Prop where
  on : Fa w N A cap l g wr
  bt : BtB wr G s t B rows.length c
  far : N < G
  own : OwnR wr (N + 1) B c rows
/-- Where the reading of a row stands: w is the world that its round begins in. -/
structure Qa (g : Gs) (wr : World) : Prop where
  kp : Kp w N N wr
  frd : Frd wr N A cap l g
  hN : N < w.heap.size
structure Ql (g : Gs) (wr : World) (Y : Nat) (r : Rw) (B : Option Addr) (c : Nat) : Prop where
  on : Qa w N A cap l g wr
  row : RowB wr Y r B c
  far : w.heap.size ≤ Y
  own : OwnN wr w.heap.size B c r.bks
end
section
variable {w w0 : World} {N : Nat} {A : Option Addr} {cap : Nat} {l : List UInt8} {g g' : Gs} {wr w' w8 : World} {G Y n : Nat} {s t : Int} {rows : List Rw} {r : Rw} {B B' B9 A8 : Option Addr} {c c' c9 c8 : Nat} {V : Value} {f : Nat} {as_ : Array Value}
theorem below_gr {q : Option Nat} {M : Nat} (hB : M ≤ wr.heap.size) (hg : wr.grownBy w' q) (hq : ∀ b, q = some b → M ≤ b) : Below M wr w' :=
  ⟨hg.os, hg.tape, hg.output, hg.size, fun k hk => hg.block k (by omega) (fun e => by have := hq k e.symm; omega)⟩
theorem Fa.next (h : Fa w N A cap l g wr) (hg : wr.grownBy w' (some N)) (f : Frd w' N A cap l g') : Fa w N A cap l g' w' :=
  ⟨h.below.trans (below_gr h.below.size hg (fun b e => by cases e; exact Nat.le_of_lt h.hN)), f, h.hN, h.res.grown hg (fun e => by have := h.hN; have := Option.some.inj e; omega)⟩
theorem Fa.grown (h : Fa w N A cap l g wr) {q : Option Nat} (hg : wr.grownBy w' q) (hq : ∀ b, q = some b → N < b) (hold : ∀ ad, A = some ad → l ≠ [] → ad.block < w.heap.size) : Fa w N A cap l g w' :=
  ⟨h.below.trans (below_gr h.below.size hg (fun b e => by have := hq b e; have := h.hN; omega)), h.frd.grown hg (fun b e => by have := hq b e; have := h.hN; exact ⟨by omega, fun ad ha hne => by have := hold ad ha hne; omega⟩), h.hN, h.res.grown hg (fun e => by have := hq _ e; have := h.hN; omega)⟩
theorem Fa.alloc (h : Fa w N A cap l g wr) (o : Obj) : Fa w N A cap l g (wr.alloc o) := ⟨h.below.alloc h.below.size _, h.frd.alloc _, h.hN, h.res.alloc _⟩
theorem Fa.drew (h : Fa w N A cap l g wr) : Fa w N A cap l g wr.drew := ⟨h.below.trans ((below_drew1 wr).mono h.below.size), h.frd.below (below_drew1 wr), h.hN, h.res.drew 1⟩
theorem liftF (H : ∀ w', Frd w' N A cap l g → Calls Tryz.prog f as_ w' (Fpost w' N A cap l V g')) : ∀ w', Fa w N A cap l g w' → Calls Tryz.prog f as_ w' (fun e w'' => e = .returned V ∧ Fa w N A cap l g' w'') :=
  fun w' h => (H w' h.frd).mono fun e w'' ⟨he, hg, hf⟩ => ⟨he, h.next hg hf⟩
theorem Fa.lay (h : Fa w N A cap l g wr) (s t : Int) : Fl w N A cap l g (wr.alloc (.cells #[.int .i64 s, .int .i64 t, .slice none 0 0] 60)) wr.heap.size s t [] none 0 :=
  ⟨h.alloc _, ⟨heap_alloc_new wr _⟩, h.frd.lt, OwnR.nil _ _⟩
theorem Fl.app (h : Fl w N A cap l g wr G s t rows B c) (hold : ∀ ad, A = some ad → l ≠ [] → ad.block < w.heap.size)
    (g8 : (wr.alloc (rowObj r B9 c9)).grownBy w8 (Value.slice B rows.length c).ownBlock) : Fa w N A cap l g w8 ∧ BtB w8 G s t B rows.length c := by
  have hk : ∀ b, (Value.slice B rows.length c).ownBlock = some b → N < b ∧ b ≠ G := fun b hb => by
    obtain ⟨h1, _, c', f, h2⟩ := h.own.far b hb
    refine ⟨h1, fun e => ?_⟩
    rw [e, h.bt.blk] at h2
    cases h2
  exact ⟨(h.on.alloc _).grown g8 (fun b e => (hk b e).1) hold, (h.bt.alloc _).grown g8 (fun e => (hk G e).2 rfl)⟩
theorem Fl.put (h : Fa w N A cap l g w8 ∧ BtB w8 G s t B rows.length c) (far : N < G) (hold : ∀ ad, A = some ad → l ≠ [] → ad.block < w.heap.size)
    (o8 : OwnR w8 (N + 1) A8 c8 (rows ++ [r])) : Fl w N A cap l g (w8.setCell ⟨G, 2, none⟩ (.slice A8 (rows.length + 1) c8)) G s t (rows ++ [r]) A8 c8 := by
  have gr := grown_set (grown_refl w8 (some G)) ⟨G, 2, none⟩ (.slice A8 (rows.length + 1) c8) (Or.inl rfl)
  refine ⟨h.1.grown gr (fun b e => by cases e; exact far) hold, ⟨?_⟩, far, ?_⟩
  · have := heap_set_same (o := 2) (v := .slice A8 (rows.length + 1) c8) h.2.blk
    rw [show (rows ++ [r]).length = rows.length + 1 by simp]
    exact this
  · exact o8.kept gr (fun b e => by cases e; exact .inr ⟨_, _, _, h.2.blk, by decide, by decide⟩)

theorem Qa.next (h : Qa w N A cap l g wr) (hg : wr.grownBy w' (some N)) (f : Frd w' N A cap l g') : Qa w N A cap l g' w' := ⟨h.kp.trans (Kp.of_grown hg), f, h.hN⟩
theorem Qa.grown (h : Qa w N A cap l g wr) {q : Option Nat} (hg : wr.grownBy w' q) (hq : ∀ b, q = some b → w.heap.size ≤ b) (hold : ∀ ad, A = some ad → l ≠ [] → ad.block < w.heap.size) : Qa w N A cap l g w' :=
  ⟨h.kp.grown hg (fun b e => .inr (.inr (hq b e))), h.frd.grown hg (fun b e => by have := hq b e; have := h.hN; exact ⟨by omega, fun ad ha hne => by have := hold ad ha hne; omega⟩), h.hN⟩
theorem Qa.alloc (h : Qa w N A cap l g wr) (o : Obj) : Qa w N A cap l g (wr.alloc o) := ⟨h.kp.alloc o, h.frd.alloc o, h.hN⟩
theorem Ql.next (h : Ql w N A cap l g wr Y r B c) (hg : wr.grownBy w' (some N)) (f : Frd w' N A cap l g') : Ql w N A cap l g' w' Y r B c :=
  ⟨h.on.next hg f, h.row.grown hg (fun e => by have := h.on.hN; have := h.far; have := Option.some.inj e; omega), h.far, owns_kept h.own hg (fun b e => by cases e; exact .inl h.on.hN)⟩
theorem Frd.lay (h : Frd w N A cap l g) : Ql w N A cap l g (w.alloc (.cells #[.string ⟨#[]⟩, .int .i64 0, .int .u64 0, .int .i64 0, .int .i64 0, .int .i64 0, .bool false, .slice none 0 0] 123)) w.heap.size ⟨⟨#[]⟩, 0, 0, 0, 0, 0, false, []⟩ none 0 :=
  ⟨⟨(Kp.refl _ _ _).alloc _, h.alloc _, h.lt⟩, ⟨heap_alloc_new w _⟩, Nat.le_refl _, OwnN.nil _ _⟩
theorem liftQ (H : ∀ w', Frd w' N A cap l g → Calls Tryz.prog f as_ w' (Fpost w' N A cap l V g')) : ∀ w', Ql w N A cap l g w' Y r B c → Calls Tryz.prog f as_ w' (fun e w'' => e = .returned V ∧ Ql w N A cap l g' w'' Y r B c) :=
  fun w' h => (H w' h.on.frd).mono fun e w'' ⟨he, hg, hf⟩ => ⟨he, h.next hg hf⟩
theorem Ql.set (h : Ql w N A cap l g wr Y r B c) (hold : ∀ ad, A = some ad → l ≠ [] → ad.block < w.heap.size) {o : Nat} {v : Value} {r' : Rw} (e : r'.bks = r.bks)
    (hb : (wr.setCell ⟨Y, o, none⟩ v).heap[Y]? = some (.cells #[.string r'.key, .int .i64 r'.kind, .int .u64 (r'.many : Nat), .int .i64 r'.sum, .int .i64 r'.least, .int .i64 r'.most, .bool r'.over, .slice B r'.bks.length c] 123 (0, 0))) : Ql w N A cap l g (wr.setCell ⟨Y, o, none⟩ v) Y r' B c := by
  have gr := grown_set (grown_refl wr (some Y)) ⟨Y, o, none⟩ v (Or.inl rfl)
  refine ⟨h.on.grown gr (fun b e => by cases e; exact h.far) hold, ⟨hb⟩, h.far, ?_⟩
  rw [e]
  exact owns_kept h.own gr (fun b e => by cases e; exact .inr ⟨_, _, _, h.row.blk, by decide⟩)
section
variable {k : ByteArray} {kd sm ls ms : Int} {mn : Nat} {ov : Bool} {bks : List Nat}
theorem Ql.s0 (h : Ql w N A cap l g wr Y ⟨k, kd, mn, sm, ls, ms, ov, bks⟩ B c) (hold : ∀ ad, A = some ad → l ≠ [] → ad.block < w.heap.size) (x : ByteArray) : Ql w N A cap l g (wr.setCell ⟨Y, 0, none⟩ (.string x)) Y ⟨x, kd, mn, sm, ls, ms, ov, bks⟩ B c := h.set hold rfl (heap_set_same h.row.blk)
theorem Ql.s1 (h : Ql w N A cap l g wr Y ⟨k, kd, mn, sm, ls, ms, ov, bks⟩ B c) (hold : ∀ ad, A = some ad → l ≠ [] → ad.block < w.heap.size) (x : Int) : Ql w N A cap l g (wr.setCell ⟨Y, 1, none⟩ (.int .i64 x)) Y ⟨k, x, mn, sm, ls, ms, ov, bks⟩ B c := h.set hold rfl (heap_set_same h.row.blk)
theorem Ql.s2 (h : Ql w N A cap l g wr Y ⟨k, kd, mn, sm, ls, ms, ov, bks⟩ B c) (hold : ∀ ad, A = some ad → l ≠ [] → ad.block < w.heap.size) (x : Nat) : Ql w N A cap l g (wr.setCell ⟨Y, 2, none⟩ (.int .u64 (x : Nat))) Y ⟨k, kd, x, sm, ls, ms, ov, bks⟩ B c := h.set hold rfl (heap_set_same h.row.blk)
theorem Ql.s3 (h : Ql w N A cap l g wr Y ⟨k, kd, mn, sm, ls, ms, ov, bks⟩ B c) (hold : ∀ ad, A = some ad → l ≠ [] → ad.block < w.heap.size) (x : Int) : Ql w N A cap l g (wr.setCell ⟨Y, 3, none⟩ (.int .i64 x)) Y ⟨k, kd, mn, x, ls, ms, ov, bks⟩ B c := h.set hold rfl (heap_set_same h.row.blk)
theorem Ql.s4 (h : Ql w N A cap l g wr Y ⟨k, kd, mn, sm, ls, ms, ov, bks⟩ B c) (hold : ∀ ad, A = some ad → l ≠ [] → ad.block < w.heap.size) (x : Int) : Ql w N A cap l g (wr.setCell ⟨Y, 4, none⟩ (.int .i64 x)) Y ⟨k, kd, mn, sm, x, ms, ov, bks⟩ B c := h.set hold rfl (heap_set_same h.row.blk)
theorem Ql.s5 (h : Ql w N A cap l g wr Y ⟨k, kd, mn, sm, ls, ms, ov, bks⟩ B c) (hold : ∀ ad, A = some ad → l ≠ [] → ad.block < w.heap.size) (x : Int) : Ql w N A cap l g (wr.setCell ⟨Y, 5, none⟩ (.int .i64 x)) Y ⟨k, kd, mn, sm, ls, x, ov, bks⟩ B c := h.set hold rfl (heap_set_same h.row.blk)
theorem Ql.s6 (h : Ql w N A cap l g wr Y ⟨k, kd, mn, sm, ls, ms, ov, bks⟩ B c) (hold : ∀ ad, A = some ad → l ≠ [] → ad.block < w.heap.size) (x : Bool) : Ql w N A cap l g (wr.setCell ⟨Y, 6, none⟩ (.bool x)) Y ⟨k, kd, mn, sm, ls, ms, x, bks⟩ B c := h.set hold rfl (heap_set_same h.row.blk)
end
theorem Ql.app (h : Ql w N A cap l g wr Y r B c) (hold : ∀ ad, A = some ad → l ≠ [] → ad.block < w.heap.size)
    (g8 : (wr.alloc (.cells #[.int .u64 (n : Nat)] 120)).grownBy w8 (Value.slice B r.bks.length c).ownBlock) : Qa w N A cap l g w8 ∧ RowB w8 Y r B c := by
  have hk : ∀ b, (Value.slice B r.bks.length c).ownBlock = some b → w.heap.size ≤ b ∧ b ≠ Y := fun b hb => by
    obtain ⟨c', f, h1⟩ := ownsB_block h.own b hb
    refine ⟨(World.ownsRow.lt h.own b hb).1, fun e => ?_⟩
    rw [e, h.row.blk] at h1
    cases h1
  exact ⟨(h.on.alloc _).grown g8 (fun b e => (hk b e).1) hold, (h.row.alloc _).grown g8 (fun e => (hk Y e).2 rfl)⟩
theorem Ql.put (h : Qa w N A cap l g w8 ∧ RowB w8 Y r B c) (far : w.heap.size ≤ Y) (hold : ∀ ad, A = some ad → l ≠ [] → ad.block < w.heap.size)
    (o8 : OwnN w8 w.heap.size A8 c8 (r.bks ++ [n])) : Ql w N A cap l g (w8.setCell ⟨Y, 7, none⟩ (.slice A8 (r.bks.length + 1) c8)) Y ⟨r.key, r.kind, r.many, r.sum, r.least, r.most, r.over, r.bks ++ [n]⟩ A8 c8 := by
  have gr := grown_set (grown_refl w8 (some Y)) ⟨Y, 7, none⟩ (.slice A8 (r.bks.length + 1) c8) (Or.inl rfl)
  refine ⟨h.1.grown gr (fun b e => by cases e; exact far) hold, ⟨?_⟩, far, ?_⟩
  · have := heap_set_same (o := 7) (v := .slice A8 (r.bks.length + 1) c8) h.2.blk
    rw [show (r.bks ++ [n]).length = r.bks.length + 1 by simp]
    exact this
  · exact owns_kept o8 gr (fun b e => by cases e; exact .inr ⟨_, _, _, h.2.blk, by decide⟩)
/-- A round is over: the batch stands as it did, the reader further on, the row's buckets owned. -/
theorem Ql.end_ (h : Ql w0 N A cap l g' wr Y r B' c') (h0 : Fl w N A cap l g w0 G s t rows B c) : Fl w N A cap l g' wr G s t rows B c ∧ OwnN wr (N + 1) B' c' r.bks :=
  ⟨⟨⟨h0.on.below.trans (h.on.kp.to h0.on.below.size (Nat.le_of_lt h0.on.hN) (Nat.le_of_lt h0.on.hN)), h.on.frd, h0.on.hN, h0.on.res.kp h.on.kp (by have := h0.on.hN; omega) (by have := h0.on.hN; omega)⟩, h0.bt.kp h.on.kp (by have := h0.far; omega) (by have := h0.far; omega), h0.far, h0.own.kp h.on.kp (Nat.lt_succ_self _) (Nat.lt_succ_self _)⟩, ownsB_mono h.own h.on.hN⟩
end
end Go.Proofs.YtgeahpfdaehjaaaGreatDoor
namespace Go.Proofs.YtgeahpfdaehjaaaGreatDoor
open Go.ChangeShapes Go.WideShapes Go.ChangeAt Go.RowKit
set_option linter.unusedVariables false

def FgBad (w : World) (e : Ending) (w' : World) : Prop := e = .returned (.tuple #[btVal 0 0 none 0 0, .bool false]) ∧ Below w.heap.size w w'
def FgGood (w : World) (b : Bt) (e : Ending) (w' : World) : Prop := ∃ B c, e = .returned (.tuple #[btVal b.seq b.start B b.rows.length c, .bool true]) ∧ RdR w' B b.rows ∧ Below w.heap.size w w'
def FgPost (w : World) (o : Option Bt) (e : Ending) (w' : World) : Prop := match o with | none => FgBad w e w' | some b => FgGood w b e w'
theorem ref_start (w : World) (A : Option Addr) (cap : Nat) (l : List UInt8) (hr : RdS w A cap l) (hold : ∀ ad, A = some ad → l ≠ [] → ad.block < w.heap.size) :
    Fa w (w.heap.size + 1) A cap l g0 ((w.alloc (.cells #[.int .i64 0, .int .i64 0, .slice none 0 0] 60)).alloc (.cells #[.slice A l.length cap, .int .i64 0, .bool false, .int .i64 0] 161)) := by
  have h1 := heap_alloc_new (w.alloc (.cells #[.int .i64 0, .int .i64 0, .slice none 0 0] 60)) (.cells #[.slice A l.length cap, .int .i64 0, .bool false, .int .i64 0] 161)
  rw [World.size_alloc] at h1
  refine ⟨(below_new w _).alloc (by simp) _, ⟨Nat.zero_le _, 0, 0, ⟨rfl, fun _ => rfl, fun e => by cases e⟩, ⟨h1, (hr.alloc _).alloc _, fun ad ha hne e => by have := hold ad ha hne; omega, Nat.zero_le _⟩⟩, Nat.lt_succ_self _, (BtB.new w 0 0 none 0 0).alloc _⟩
theorem rds_old {w : World} {A : Option Addr} {cap : Nat} {l : List UInt8} (h : RdS w A cap l) : ∀ ad, A = some ad → l ≠ [] → ad.block < w.heap.size := fun ad ha hne => by
  cases l with
  | nil => exact absurd rfl hne
  | cons c l =>
    have h1 := World.block_lt_of_cell? w _ (h.rd ad ha 0 c rfl)
    rwa [show (ad.add 0).block = ad.block by simp [Addr.add]] at h1
/-- The result of nothing is laid into the result's own block. -/
theorem res_below {w wr : World} (h : Below w.heap.size w wr) (v0 v1 v2 : Value) : Below w.heap.size w (((wr.setCell ⟨w.heap.size, 0, none⟩ v0).setCell ⟨w.heap.size, 1, none⟩ v1).setCell ⟨w.heap.size, 2, none⟩ v2) :=
  below_of_grown (grown_set (grown_set (grown_set (grown_of h) _ _ (Or.inr (Nat.le_refl _))) _ _ (Or.inr (Nat.le_refl _))) _ _ (Or.inr (Nat.le_refl _)))
end Go.Proofs.YtgeahpfdaehjaaaGreatDoor
namespace Go.Proofs.YtgeahpfdaehjaaaGreatDoor
open Go.ChangeShapes Go.WideShapes Go.ChangeAt Go.RowKit
set_option linter.unusedVariables false

end Go.Proofs.YtgeahpfdaehjaaaGreatDoor
