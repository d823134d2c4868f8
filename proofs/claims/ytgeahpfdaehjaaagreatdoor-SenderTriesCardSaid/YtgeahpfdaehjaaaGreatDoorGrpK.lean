/-
  Layer 21 (spill): the batch with a number, its bytes, and whether there is one.
  Layer 21 (spill), what is of no program: each record of a journal is the batch of its number.
  Layer 21 (spill): a spill in memory, over its journal, over its disk; Next, Len, Head.
  Layer 21 (spill): is each record the batch of its number; Open.
-/
import Derived.Test.YtgeahpfdaehjaaaGreatDoorGrpE
import Derived.Test.YtgeahpfdaehjaaaGreatDoorQBatchHead
import Derived.Test.YtgeahpfdaehjaaaGreatDoorGrpD
import Derived.Test.YtgeahpfdaehjaaaGreatDoorGrpI
namespace Go.Proofs.YtgeahpfdaehjaaaGreatDoor
open Go.ChangeShapes Go.WideShapes Go.ChangeAt Go.RowKit
set_option linter.unusedVariables false

/-- What read tells: the batch, its bytes; or none. -/
def ReadGood (w : World) (b : Bt) (r : Rc) (e : Ending) (w' : World) : Prop :=
  ∃ B c A cap, e = .returned (.tuple #[btVal b.seq b.start B b.rows.length c, .slice A r.length cap, .bool true]) ∧ RdR w' B b.rows ∧ RdS w' A cap r ∧ Below w.heap.size w w' ∧ ∀ a, A = some a → w.heap.size ≤ a.block
def ReadBad (w : World) (e : Ending) (w' : World) : Prop :=
  e = .returned (.tuple #[btVal 0 0 none 0 0, .slice none 0 0, .bool false]) ∧ Below w.heap.size w w'
/-! ### what can be read, where a batch's own block is set -/
theorem bt_ne {w : World} {N : Nat} {s t : Int} {B : Option Addr} {n c : Nat} (z : BtB w N s t B n c) {p : Addr} {u : Value} (hc : w.cell? p = some u) (h1 : ∀ x, u ≠ .int .i64 x) (h2 : ∀ a b c, u ≠ .slice a b c) : p.block ≠ N := fun e => by
  have hs := World.cell?_spot hc
  obtain ⟨b, o, sp⟩ := p
  simp only at hs e
  subst hs e
  rw [cell_of_block z.blk] at hc
  match o, hc with
  | 0, hc => exact h1 _ (Option.some.inj hc).symm
  | 1, hc => exact h1 _ (Option.some.inj hc).symm
  | 2, hc => exact h2 _ _ _ (Option.some.inj hc).symm
  | o + 3, hc => cases hc
theorem cell_far {w : World} {N o : Nat} {v : Value} {p : Addr} (h : p.block ≠ N) : (w.setCell ⟨N, o, none⟩ v).cell? p = w.cell? p := World.cell?_of_block (heap_set_other h)
theorem RdS.bt {w : World} {N : Nat} {s t : Int} {B : Option Addr} {n c : Nat} (z : BtB w N s t B n c) {A : Option Addr} {cap : Nat} {l : List UInt8} (h : RdS w A cap l) (o : Nat) (v : Value) : RdS (w.setCell ⟨N, o, none⟩ v) A cap l :=
  ⟨h.le, h.nn, fun ad ha i x hx => by
    have h1 := h.rd ad ha i x hx
    rw [cell_far (bt_ne z h1 (fun _ e => by cases e) (fun _ _ _ e => by cases e))]
    exact h1⟩
theorem RdN.bt {w : World} {N : Nat} {s t : Int} {B : Option Addr} {n c : Nat} (z : BtB w N s t B n c) {A : Option Addr} {cap : Nat} {l : List Nat} (h : RdN w A cap l) (o : Nat) (v : Value) : RdN (w.setCell ⟨N, o, none⟩ v) A cap l :=
  ⟨h.le, h.nn, fun ad ha i x hx => by
    have h1 := h.rd ad ha i x hx
    rw [cell_far (bt_ne z h1 (fun _ e => by cases e) (fun _ _ _ e => by cases e))]
    exact h1⟩
theorem RdR.bt {w : World} {N : Nat} {s t : Int} {B : Option Addr} {n c : Nat} (z : BtB w N s t B n c) {A : Option Addr} {rows : List Rw} (h : RdR w A rows) (o : Nat) (v : Value) : RdR (w.setCell ⟨N, o, none⟩ v) A rows := by
  rcases h with h | ⟨b, q, e, hc⟩
  · exact .inl h
  · refine .inr ⟨b, q, e, fun i r hi => ?_⟩
    obtain ⟨B', c', ha⟩ := hc i r hi
    have hb : b ≠ N := bt_ne z ha.p0 (fun _ e => by cases e) (fun _ _ _ e => by cases e)
    have hk : ∀ k, (w.setCell ⟨N, o, none⟩ v).cell? ⟨b, k, none⟩ = w.cell? ⟨b, k, none⟩ := fun k => cell_far hb
    exact ⟨B', c', by rw [hk]; exact ha.p0, by rw [hk]; exact ha.p1, by rw [hk]; exact ha.p2, by rw [hk]; exact ha.p3, by rw [hk]; exact ha.p4, by rw [hk]; exact ha.p5, by rw [hk]; exact ha.p6, by rw [hk]; exact ha.p7, ha.bk.bt z o v⟩
theorem BtB.s0 {w : World} {N : Nat} {s t : Int} {B : Option Addr} {n c : Nat} (z : BtB w N s t B n c) (x : Int) : BtB (w.setCell ⟨N, 0, none⟩ (.int .i64 x)) N x t B n c := ⟨by rw [heap_set_same z.blk]; rfl⟩
theorem BtB.s1 {w : World} {N : Nat} {s t : Int} {B : Option Addr} {n c : Nat} (z : BtB w N s t B n c) (x : Int) : BtB (w.setCell ⟨N, 1, none⟩ (.int .i64 x)) N s x B n c := ⟨by rw [heap_set_same z.blk]; rfl⟩
/-- A batch stored in a batch's block. -/
theorem bt_store {w : World} {N : Nat} {s t : Int} {B : Option Addr} {n c : Nat} (z : BtB w N s t B n c) (x y : Int) (v : Value) :
    (∀ A cap l, RdS w A cap l → RdS (((w.setCell ⟨N, 0, none⟩ (.int .i64 x)).setCell ⟨N, 1, none⟩ (.int .i64 y)).setCell ⟨N, 2, none⟩ v) A cap l) ∧
    (∀ A rows, RdR w A rows → RdR (((w.setCell ⟨N, 0, none⟩ (.int .i64 x)).setCell ⟨N, 1, none⟩ (.int .i64 y)).setCell ⟨N, 2, none⟩ v) A rows) :=
  ⟨fun A cap l h => ((h.bt z 0 _).bt (z.s0 x) 1 _).bt ((z.s0 x).s1 y) 2 v, fun A rows h => ((h.bt z 0 _).bt (z.s0 x) 1 _).bt ((z.s0 x).s1 y) 2 v⟩
section
variable {w : World} {B ad aj : Nat} {many : Int} {vp vr : Value} {P : List Int} {R : List Rc}
set_option maxRecDepth 100000 in
theorem readS_none (h : JrG w B ad aj many vp vr P R) (hf : Fits P R) {n : Int} (hn : n = jNext P R) :
    Calls Tryz.prog 49 #[.pointer (some ⟨aj, 0, none⟩), .int .i64 n] w (ReadBad w) := by
  have B0 := below_new w (.cells #[.int .i64 0, .int .i64 0, .slice none 0 0] 60)
  have Z0 := Lib.hid (BtB.new w 0 0 none 0 0)
  have C1 := Lib.hid (recordJ_none (h.still B0) hf hn)
  have B0 := Lib.hid B0
  clear h hf hn
  go_enter Tryz.func49, Tryz.ntmps49
  go_wp2_with fail
  refine C1.out.mono ?_
  rintro e w1 ⟨rfl, b1⟩
  have Z1 := Z0.out.below b1 (Nat.le_refl _)
  have B1 := Lib.hid (B0.out.trans (b1.mono (by simp)))
  have d0 := Z1.c0
  have d1 := Z1.c1
  have d2 := Z1.c2
  have f0 := Z1.f 0
  have f1 := Z1.f 1
  have f2 := Z1.f 2
  clear Z1 b1 C1
  go_wp2_with fail
  refine bodyPost_ret (v := .tuple #[.agg #[.int .i64 0, .int .i64 0, .slice none 0 0], .slice none 0 0, .bool false]) (by simp [results, Tryz.results49, go_sem, d0, d1, d2]) rfl ?_
  exact ⟨rfl, below_of_grown (grown_set (grown_set (grown_set (grown_of B1.out) _ _ (Or.inr (Nat.le_refl _))) _ _ (Or.inr (Nat.le_refl _))) _ _ (Or.inr (Nat.le_refl _)))⟩
set_option maxRecDepth 100000 in
theorem readS_bad (hL : Laid w) (h : JrG w B ad aj many vp vr P R) (hf : Fits P R) {k : Nat} {r : Rc} (hk : R[k]? = some r) (hr : r.length ≤ 4096) {n : Int} (hn : n = jFirst P + (k : Nat)) (hb : getF r = none) :
    Calls Tryz.prog 49 #[.pointer (some ⟨aj, 0, none⟩), .int .i64 n] w (ReadBad w) := by
  have B0 := below_new w (.cells #[.int .i64 0, .int .i64 0, .slice none 0 0] 60)
  have Z0 := Lib.hid (BtB.new w 0 0 none 0 0)
  have C1 := Lib.hid (recordJ (h.still B0) hf hk (by omega) hn)
  have HL := Lib.hid (hL.below B0)
  have B0 := Lib.hid B0
  have HB := Lib.hid hb
  have HR := Lib.hid hr
  clear h hf hn hL hb hr hk
  go_enter Tryz.func49, Tryz.ntmps49
  go_wp2_with fail
  refine C1.out.mono ?_
  rintro e w1 ⟨A1, cap1, rfl, r1, b1, n1⟩
  have Z1 := Lib.hid (Z0.out.below b1 (Nat.le_refl _))
  have B1 := Lib.hid (B0.out.trans (b1.mono (by simp)))
  have C2 := batchGet A1 cap1 r w1 (HL.out.below b1) r1 (by have := HR.out; omega)
  rw [HB.out] at C2
  have C2 := Lib.hid C2
  clear b1 r1 C1 n1
  generalize r.length = K at *
  go_wp2_with fail
  refine C2.out.mono ?_
  rintro e w2 ⟨rfl, b2⟩
  unfold btVal
  have Z2 := Z1.out.below b2 (Nat.le_refl _)
  have B2 := Lib.hid (B1.out.trans (b2.mono B1.out.size))
  have d0 := Z2.c0
  have d1 := Z2.c1
  have d2 := Z2.c2
  have f0 := Z2.f 0
  have f1 := Z2.f 1
  have f2 := Z2.f 2
  have hz9 : w.heap.size < w2.heap.size := Z2.lt
  clear Z2 b2 C2
  go_wp2_with fail
  refine bodyPost_ret (v := .tuple #[.agg #[.int .i64 0, .int .i64 0, .slice none 0 0], .slice none 0 0, .bool false]) (by simp [results, Tryz.results49, go_sem, d0, d1, d2, hz9]) rfl ?_
  exact ⟨rfl, below_of_grown (grown_alloc (grown_set (grown_set (grown_set (grown_of B2.out) _ _ (Or.inr (Nat.le_refl _))) _ _ (Or.inr (Nat.le_refl _))) _ _ (Or.inr (Nat.le_refl _))) _)⟩
set_option maxRecDepth 100000 in
theorem readS_other (hL : Laid w) (h : JrG w B ad aj many vp vr P R) (hf : Fits P R) {k : Nat} {r : Rc} (hk : R[k]? = some r) (hr : r.length ≤ 4096) {n : Int} (hn : n = jFirst P + (k : Nat)) {b : Bt} (hb : getF r = some b) (hs : b.seq ≠ n) :
    Calls Tryz.prog 49 #[.pointer (some ⟨aj, 0, none⟩), .int .i64 n] w (ReadBad w) := by
  have B0 := below_new w (.cells #[.int .i64 0, .int .i64 0, .slice none 0 0] 60)
  have Z0 := Lib.hid (BtB.new w 0 0 none 0 0)
  have C1 := Lib.hid (recordJ (h.still B0) hf hk (by omega) hn)
  have HL := Lib.hid (hL.below B0)
  have B0 := Lib.hid B0
  have HB := Lib.hid hb
  have HR := Lib.hid hr
  have hq : (b.seq == n) = false := beq_eq_false_iff_ne.2 hs
  clear h hf hn hL hb hr hk
  go_enter Tryz.func49, Tryz.ntmps49
  go_wp2_with fail
  refine C1.out.mono ?_
  rintro e w1 ⟨A1, cap1, rfl, r1, b1, n1⟩
  have Z1 := Lib.hid (Z0.out.below b1 (Nat.le_refl _))
  have B1 := Lib.hid (B0.out.trans (b1.mono (by simp)))
  have C2 := batchGet A1 cap1 r w1 (HL.out.below b1) r1 (by have := HR.out; omega)
  rw [HB.out] at C2
  have C2 := Lib.hid C2
  clear b1 r1 C1 n1
  generalize r.length = K at *
  go_wp2_with fail
  refine C2.out.mono ?_
  rintro e w2 ⟨Bq, cq, rfl, rr2, b2⟩
  unfold btVal
  have Z2 := Z1.out.below b2 (Nat.le_refl _)
  have B2 := Lib.hid (B1.out.trans (b2.mono B1.out.size))
  have d0 := Z2.c0
  have d1 := Z2.c1
  have d2 := Z2.c2
  have f0 := Z2.f 0
  have f1 := Z2.f 1
  have f2 := Z2.f 2
  have hz9 : w.heap.size < w2.heap.size := Z2.lt
  clear Z2 b2 C2 rr2
  generalize b.rows.length = K2 at *
  go_wp2_with fail
  refine bodyPost_ret (v := .tuple #[.agg #[.int .i64 0, .int .i64 0, .slice none 0 0], .slice none 0 0, .bool false]) (by simp [results, Tryz.results49, go_sem, d0, d1, d2, hz9]) rfl ?_
  exact ⟨rfl, below_of_grown (grown_alloc (grown_set (grown_set (grown_set (grown_of B2.out) _ _ (Or.inr (Nat.le_refl _))) _ _ (Or.inr (Nat.le_refl _))) _ _ (Or.inr (Nat.le_refl _))) _)⟩
set_option maxRecDepth 100000 in
theorem readS_good (hL : Laid w) (h : JrG w B ad aj many vp vr P R) (hf : Fits P R) {k : Nat} {r : Rc} (hk : R[k]? = some r) (hr : r.length ≤ 4096) {n : Int} (hn : n = jFirst P + (k : Nat)) {b : Bt} (hb : getF r = some b) (hs : b.seq = n) :
    Calls Tryz.prog 49 #[.pointer (some ⟨aj, 0, none⟩), .int .i64 n] w (ReadGood w b r) := by
  have B0 := below_new w (.cells #[.int .i64 0, .int .i64 0, .slice none 0 0] 60)
  have Z0 := Lib.hid (BtB.new w 0 0 none 0 0)
  have C1 := Lib.hid (recordJ (h.still B0) hf hk (by omega) hn)
  have HL := Lib.hid (hL.below B0)
  have B0 := Lib.hid B0
  have HB := Lib.hid hb
  have HR := Lib.hid hr
  clear h hf hn hL hb hr hk
  subst hs
  obtain ⟨K, hK⟩ : ∃ K, r.length = K := ⟨_, rfl⟩
  obtain ⟨K2, hK2⟩ : ∃ K2, b.rows.length = K2 := ⟨_, rfl⟩
  unfold ReadGood
  rw [hK, hK2]
  have HK := Lib.hid hK
  have HK2 := Lib.hid hK2
  rw [hK] at C1
  clear hK hK2
  go_enter Tryz.func49, Tryz.ntmps49
  go_wp2_with fail
  refine C1.out.mono ?_
  rintro e w1 ⟨A1, cap1, rfl, r1, b1, n1⟩
  have Z1 := Lib.hid (Z0.out.below b1 (Nat.le_refl _))
  have B1 := Lib.hid (B0.out.trans (b1.mono (by simp)))
  have C2 := batchGet A1 cap1 r w1 (HL.out.below b1) r1 (by have := HR.out; omega)
  have R1 := Lib.hid r1
  have N1 := Lib.hid n1
  rw [HB.out, HK.out] at C2
  unfold GetPost GetGood at C2
  simp only [HK2.out] at C2
  have C2 := Lib.hid C2
  clear b1 r1 C1 n1
  go_wp2_with fail
  refine C2.out.mono ?_
  rintro e w2 ⟨Bq, cq, rfl, rr2, b2⟩
  unfold btVal
  have Z2 := Z1.out.below b2 (Nat.le_refl _)
  have B2 := Lib.hid (B1.out.trans (b2.mono B1.out.size))
  have d0 := Z2.c0
  have d1 := Z2.c1
  have d2 := Z2.c2
  have f0 := Z2.f 0
  have f1 := Z2.f 1
  have f2 := Z2.f 2
  have ST := Lib.hid (bt_store Z2 b.seq b.start (.slice Bq K2 cq))
  have hz9 : w.heap.size < w2.heap.size := Z2.lt
  have R2 := Lib.hid (R1.out.below b2 (Nat.le_refl _))
  have RR2 := Lib.hid rr2
  clear Z2 b2 C2 rr2
  go_wp2_with fail
  refine bodyPost_ret (v := .tuple #[.agg #[.int .i64 b.seq, .int .i64 b.start, .slice Bq K2 cq], .slice A1 K cap1, .bool true]) (by simp [results, Tryz.results49, go_sem, d0, d1, d2, hz9]) rfl ?_
  exact ⟨Bq, cq, A1, cap1, rfl, (ST.out.2 _ _ RR2.out).alloc _, (ST.out.1 _ _ _ R2.out).alloc _, below_of_grown (grown_alloc (grown_set (grown_set (grown_set (grown_of B2.out) _ _ (Or.inr (Nat.le_refl _))) _ _ (Or.inr (Nat.le_refl _))) _ _ (Or.inr (Nat.le_refl _))) _), fun a e => by have := N1.out a e; simp at this; omega⟩
end
end Go.Proofs.YtgeahpfdaehjaaaGreatDoor
namespace Go.Proofs.YtgeahpfdaehjaaaGreatDoor
open Go.ChangeShapes Go.WideShapes Go.ChangeAt Go.RowKit
set_option linter.unusedVariables false

def RecG (G : List Sg) : Prop := ∀ k r, (recs G)[k]? = some r → ∃ b, getF r = some b ∧ b.seq = fsG G + (k : Nat)
theorem rec_nil : RecG [] := fun k r h => by simp [recs_nil] at h
theorem rec_snoc {G G' : List Sg} {r : Rc} {b : Bt} (h : RecG G) (e : recs G' = recs G ++ [r]) (hf : fsG G' = fsG G) (hb : getF r = some b) (hs : b.seq = nxG G) : RecG G' := fun k q hq => by
  rw [e] at hq
  rw [hf]
  by_cases hk : k < (recs G).length
  · rw [List.getElem?_append_left hk] at hq
    exact h k q hq
  · rw [List.getElem?_append_right (by omega)] at hq
    have hk0 : k - (recs G).length = 0 := by
      have := (List.getElem?_eq_some_iff.1 hq).1
      simp at this
      omega
    rw [hk0] at hq
    simp only [List.getElem?_cons_zero, Option.some.injEq] at hq
    subst hq
    exact ⟨b, hb, by rw [hs, nxG_eq]; omega⟩
theorem rec_trim {G : List Sg} {h : Int} (hc : CleanG G) (hf : fsG G ≤ h) (hr : RecG G) : RecG (trimG G h) := fun k q hq => by
  obtain ⟨a, b, c, d, e⟩ := trim_clean G h hc hf
  rw [e, List.getElem?_drop] at hq
  obtain ⟨x, h1, h2⟩ := hr _ q hq
  exact ⟨x, h1, by rw [h2]; omega⟩
end Go.Proofs.YtgeahpfdaehjaaaGreatDoor
namespace Go.Proofs.YtgeahpfdaehjaaaGreatDoor
open Go.ChangeShapes Go.WideShapes Go.ChangeAt Go.RowKit
set_option linter.unusedVariables false

def spCells (aj : Nat) (room head : Int) : Array Value := #[.pointer (some ⟨aj, 0, none⟩), .int .i64 room, .int .i64 head]
structure SpB (w : World) (sp aj : Nat) (room head : Int) : Prop where
  blk : w.heap[sp]? = some (.cells (spCells aj room head) 80 (0, 0))
section
variable {w w' : World} {sp aj : Nat} {room head : Int}
theorem SpB.c0 (h : SpB w sp aj room head) : w.cell? ⟨sp, 0, none⟩ = some (.pointer (some ⟨aj, 0, none⟩)) := cell_of_block h.blk
theorem SpB.c1 (h : SpB w sp aj room head) : w.cell? ⟨sp, 1, none⟩ = some (.int .i64 room) := cell_of_block h.blk
theorem SpB.c2 (h : SpB w sp aj room head) : w.cell? ⟨sp, 2, none⟩ = some (.int .i64 head) := cell_of_block h.blk
theorem SpB.f (h : SpB w sp aj room head) (o : Nat) : w.frozen? ⟨sp, o, none⟩ = false := frozen_of_block h.blk
theorem SpB.lt (h : SpB w sp aj room head) : sp < w.heap.size := lt_of_block h.blk
theorem SpB.set2 (h : SpB w sp aj room head) (x : Int) : SpB (w.setCell ⟨sp, 2, none⟩ (.int .i64 x)) sp aj room x := ⟨by rw [heap_set_same h.blk]; rfl⟩
theorem SpB.below (h : SpB w sp aj room head) (hb : Below w.heap.size w w') : SpB w' sp aj room head := ⟨by rw [hb.block _ h.lt]; exact h.blk⟩
end
/-- A spill's blocks are K. -/
structure Sx (w : World) (K : Nat → Prop) (sp ad aj rm : Nat) (many room head : Int) (G : List Sg) : Prop where
  ex : ∃ FF, Jx w FF ad aj rm false (pts' G) many (ns G) (recs G) ∧ SpB w sp aj room head ∧ ¬ FF sp ∧ ∀ g, K g ↔ FF g ∨ g = sp
  laid : Laid w
  lo : ∀ g, K g → 6 ≤ g
structure SOk (rm : Nat) (many room head : Int) (G : List Sg) : Prop where
  g : GOk rm many G
  rec_ : RecG G
  h0 : fsG G ≤ head
  h1 : head ≤ nxG G
  r : 1 ≤ room ∧ room ≤ 1000
section
variable {w w' : World} {K : Nat → Prop} {sp ad aj rm : Nat} {many room head : Int} {G G' : List Sg}
theorem Sx.spb (h : Sx w K sp ad aj rm many room head G) : SpB w sp aj room head := by
  obtain ⟨FF, _, h2, _⟩ := h.ex
  exact h2
theorem Sx.jrg (h : Sx w K sp ad aj rm many room head G) : ∃ vp vr, JrG w 0 ad aj many vp vr (ns G) (recs G) := by
  obtain ⟨FF, h1, _⟩ := h.ex
  exact h1.jrg
theorem Sx.lt (h : Sx w K sp ad aj rm many room head G) {g : Nat} (hg : K g) : g < w.heap.size := by
  obtain ⟨FF, h1, h2, _, h4⟩ := h.ex
  rcases (h4 g).1 hg with e | rfl
  · exact h1.lt e
  · exact h2.lt
theorem Sx.below (h : Sx w K sp ad aj rm many room head G) (hb : Below w.heap.size w w') : Sx w' K sp ad aj rm many room head G := by
  obtain ⟨⟨FF, h1, h2, h3, h4⟩, h5, h6⟩ := h
  exact ⟨⟨FF, h1.below hb, h2.below hb, h3, h4⟩, h5.below hb, h6⟩
theorem Sx.keeps {F : Nat → Prop} (h : Sx w K sp ad aj rm many room head G) (k : Keeps F w w') (hF : ∀ g, K g → ¬ F g) (hg : ∀ g, F g → 6 ≤ g) : Sx w' K sp ad aj rm many room head G := by
  obtain ⟨⟨FF, h1, h2, h3, h4⟩, h5, h6⟩ := h
  refine ⟨⟨FF, h1.keeps k (fun g hg => hF g ((h4 g).2 (.inl hg))), ⟨keeps_out k h2.blk (hF sp ((h4 sp).2 (.inr rfl)))⟩, h3, h4⟩, h5.keep (fun i hi => k.block i (by have := h5.n; omega) (fun e => by have := hg i e; omega)) k.size, h6⟩
/-- A call on the journal. -/
theorem Sx.callJ (h : Sx w K sp ad aj rm many room head G) {f : FuncId} {args : Array Value} {E : Ending → Prop}
    (hc : ∀ W : Fr, Jg W w ad aj rm many G → Calls Tryz.prog f args w fun e w' => E e ∧ Jg W w' ad aj rm many G') :
    Calls Tryz.prog f args w fun e w' => E e ∧ ∃ K', Sx w' K' sp ad aj rm many room head G' ∧ Mv8 w K w' K' := by
  obtain ⟨⟨FF, h1, h2, h3, h4⟩, h5, h6⟩ := h
  refine (hc ⟨w, FF⟩ h1.jn).mono ?_
  rintro e w' ⟨he, j⟩
  obtain ⟨FF', q1, q2⟩ := Jn.jx j
  have q2 : Mv8 w FF w' FF' := q2
  have hn := h5.n
  have hsz := q2.keeps.size
  have hlo : ∀ g, FF g → 6 ≤ g := fun g hg => h6 g ((h4 g).2 (.inl hg))
  refine ⟨he, fun g => FF' g ∨ g = sp, ⟨⟨FF', q1, ⟨keeps_out q2.keeps h2.blk h3⟩, fun e => ?_, fun g => Iff.rfl⟩, h5.keep (fun i hi => q2.keeps.block i (by omega) (fun e => by have := hlo i e; omega)) hsz, fun g hg => ?_⟩, q2.keeps.wide (fun g hg _ => (h4 g).2 (.inl hg)), fun g hg => ?_⟩
  · rcases q2.own sp e with e | e
    · exact h3 e
    · have := h2.lt; omega
  · rcases hg with e | rfl
    · rcases q2.own g e with e | e
      · exact hlo g e
      · show 6 ≤ g
        have : w.heap.size ≤ g := e
        omega
    · exact h6 g ((h4 g).2 (.inr rfl))
  · rcases hg with e | rfl
    · rcases q2.own g e with e | e
      · exact .inl ((h4 g).2 (.inl e))
      · exact .inr e
    · exact .inl ((h4 g).2 (.inr rfl))
theorem Sx.set2 (h : Sx w K sp ad aj rm many room head G) (x : Int) : Sx (w.setCell ⟨sp, 2, none⟩ (.int .i64 x)) K sp ad aj rm many room x G ∧ Mv8 w K (w.setCell ⟨sp, 2, none⟩ (.int .i64 x)) K := by
  obtain ⟨⟨FF, h1, h2, h3, h4⟩, h5, h6⟩ := h
  have k : Keeps (fun g => g = sp) w (w.setCell ⟨sp, 2, none⟩ (.int .i64 x)) := (Keeps.refl _ w).set _ _ (.inl rfl)
  have hsp := h6 sp ((h4 sp).2 (.inr rfl))
  exact ⟨⟨⟨FF, h1.keeps k (fun g hg e => h3 (by rw [← e]; exact hg)), h2.set2 x, h3, h4⟩, h5.set _ _ hsp, h6⟩, k.wide (fun g hg _ => (h4 g).2 (.inr hg)), fun g hg => .inl hg⟩
theorem nextS (h : Sx w K sp ad aj rm many room head G) (ok : GOk rm many G) :
    Calls Tryz.prog 11 #[.pointer (some ⟨sp, 0, none⟩)] w fun e w' => e = .returned (.int .i64 (nxG G)) ∧ ∃ m, w' = w.drewN m := by
  have c0 := h.spb.c0
  obtain ⟨vp, vr, g⟩ := h.jrg
  have C := Lib.hid (nextJ g ok.fits)
  rw [jNext_nx] at C
  clear g h
  generalize nxG G = x at *
  go_enter Tryz.func11, Tryz.ntmps11
  go_wp2_with fail
  refine C.out.mono ?_
  rintro e w1 ⟨rfl, m, rfl⟩
  go_wp2
  go_ret
  exact ⟨rfl, _, rfl⟩
theorem SOk.bds (ok : SOk rm many room head G) : 0 ≤ head ∧ head ≤ nxG G ∧ nxG G ≤ 9000 := by
  have h1 := ok.g.clean.lo
  have h2 := ok.h0
  have h3 := ok.h1
  have h4 := ok.g.nx
  exact ⟨by omega, h3, h4⟩
theorem lenS (h : Sx w K sp ad aj rm many room head G) (ok : SOk rm many room head G) :
    Calls Tryz.prog 18 #[.pointer (some ⟨sp, 0, none⟩)] w fun e w' => e = .returned (.int .i64 (nxG G - head)) ∧ ∃ m, w' = w.drewN m := by
  have c2 := h.spb.c2
  have C := Lib.hid (fun n : Nat => nextS (h.below (below_drewN w n)) ok.g)
  have hb := ok.bds
  have hw : IntKind.i64.wrap (nxG G - head) = nxG G - head := IntWalk.i64_in _ (by omega)
  clear h hb ok
  generalize nxG G = x at *
  go_enter Tryz.func18, Tryz.ntmps18
  go_wp2_with fail
  go_quiet ((go_at_call 11; exact Calls.quiet_of (C.out _)))
  go_wp2
  go_ret
  exact ⟨rfl, _, rfl⟩
theorem SOk.at (ok : SOk rm many room head G) (hl : head < nxG G) : ∃ k r b, (recs G)[k]? = some r ∧ r.length ≤ 4096 ∧ head = jFirst (ns G) + (k : Nat) ∧ getF r = some b ∧ b.seq = head := by
  have h0 := ok.h0
  have hlt : (head - fsG G).toNat < (recs G).length := by rw [nxG_eq] at hl; omega
  have hk : (recs G)[(head - fsG G).toNat]? = some (recs G)[(head - fsG G).toNat] := List.getElem?_eq_getElem hlt
  obtain ⟨b, h1, h2⟩ := ok.rec_ _ _ hk
  have h3 : ∀ r ∈ recs G, r.length ≤ 4096 := fun r hr => by
    unfold recs at hr
    obtain ⟨rs, hrs, hr⟩ := List.mem_flatten.1 hr
    obtain ⟨f, hf, rfl⟩ := List.mem_map.1 hrs
    exact (ok.g.clean.good f hf r hr).2
  exact ⟨_, _, b, hk, h3 _ (List.getElem_mem _), by show head = fsG G + _; omega, h1, by omega⟩
set_option maxRecDepth 100000 in
/-- What Head tells. -/
theorem headS (h : Sx w K sp ad aj rm many room head G) (ok : SOk rm many room head G) {k : Nat} {r : Rc} {b : Bt} (hk : (recs G)[k]? = some r) (hr : r.length ≤ 4096) (hn : head = jFirst (ns G) + (k : Nat)) (hb : getF r = some b) (hs : b.seq = head) :
    Calls Tryz.prog 34 #[.pointer (some ⟨sp, 0, none⟩)] w (ReadGood w b r) := by
  have B0 := below_new w (.cells #[.int .i64 0, .int .i64 0, .slice none 0 0] 60)
  have Z0 := Lib.hid (BtB.new w 0 0 none 0 0)
  have S0 := h.below B0
  have c0 := S0.spb.c0
  have c2 := S0.spb.c2
  have lt := h.spb.lt
  obtain ⟨vp, vr, g⟩ := S0.jrg
  have C := Lib.hid (fun n : Nat => readS_good (S0.laid.drew n) (g.drewN n) ok.g.fits hk hr hn hb hs)
  have B0 := Lib.hid B0
  obtain ⟨N, hN⟩ : ∃ N, r.length = N := ⟨_, rfl⟩
  obtain ⟨N2, hN2⟩ : ∃ N2, b.rows.length = N2 := ⟨_, rfl⟩
  unfold ReadGood at *
  simp only [hN, hN2] at C ⊢
  clear h ok hk hr hn hb hN hN2 g S0
  subst hs
  go_enter Tryz.func34, Tryz.ntmps34
  go_wp2_with fail
  go_region_with ((go_at_call 49; refine (C.out _).mono ?_; rintro e w1 ⟨B1, cc1, A1, cap1, rfl, rr1, r1, b1, n1⟩; have N1 := Lib.hid n1; clear n1; unfold btVal; have Z1 := Z0.out.below (Below.undraw (m := 0) b1) (Nat.le_refl _); have d0 := Z1.c0; have d1 := Z1.c1; have d2 := Z1.c2; have f0 := Z1.f 0; have f1 := Z1.f 1; have f2 := Z1.f 2; have RR1 := Lib.hid rr1; have R1 := Lib.hid r1; have B1' := Lib.hid (Below.undraw (m := 0) b1); have ST := Lib.hid (bt_store Z1 b.seq b.start (.slice B1 N2 cc1)); clear Z1 rr1 r1 b1))
  all_goals
    go_wp2_with fail
    refine bodyPost_ret (v := .tuple #[.agg #[.int .i64 b.seq, .int .i64 b.start, .slice B1 N2 cc1], .slice A1 N cap1, .bool true]) (by simp [results, Tryz.results34, go_sem, d0, d1, d2]) rfl ?_
    exact ⟨B1, cc1, A1, cap1, rfl, ST.out.2 _ _ RR1.out, ST.out.1 _ _ _ R1.out, below_of_grown (grown_set (grown_set (grown_set (grown_of (B0.out.trans (B1'.out.mono (by simp)))) _ _ (Or.inr (Nat.le_refl _))) _ _ (Or.inr (Nat.le_refl _))) _ _ (Or.inr (Nat.le_refl _))), fun a e => by have := N1.out a e; simp at this; omega⟩
set_option maxRecDepth 100000 in
/-- .. where there is none. -/
theorem headS_none (h : Sx w K sp ad aj rm many room head G) (ok : SOk rm many room head G) (hn : head = nxG G) :
    Calls Tryz.prog 34 #[.pointer (some ⟨sp, 0, none⟩)] w (ReadBad w) := by
  have B0 := below_new w (.cells #[.int .i64 0, .int .i64 0, .slice none 0 0] 60)
  have Z0 := Lib.hid (BtB.new w 0 0 none 0 0)
  have S0 := h.below B0
  have c0 := S0.spb.c0
  have c2 := S0.spb.c2
  have lt := h.spb.lt
  obtain ⟨vp, vr, g⟩ := S0.jrg
  have C := Lib.hid (fun n : Nat => readS_none (n := head) (g.drewN n) ok.g.fits hn)
  have B0 := Lib.hid B0
  unfold ReadBad btVal at *
  clear h ok hn g S0
  go_enter Tryz.func34, Tryz.ntmps34
  go_wp2_with fail
  go_region_with ((go_at_call 49; refine (C.out _).mono ?_; rintro e w1 ⟨rfl, b1⟩; have Z1 := Z0.out.below (Below.undraw (m := 0) b1) (Nat.le_refl _); have d0 := Z1.c0; have d1 := Z1.c1; have d2 := Z1.c2; have f0 := Z1.f 0; have f1 := Z1.f 1; have f2 := Z1.f 2; have B1' := Lib.hid (Below.undraw (m := 0) b1); clear Z1 b1))
  all_goals
    go_wp2_with fail
    refine bodyPost_ret (v := .tuple #[.agg #[.int .i64 0, .int .i64 0, .slice none 0 0], .slice none 0 0, .bool false]) (by simp [results, Tryz.results34, go_sem, d0, d1, d2]) rfl ?_
    exact ⟨rfl, below_of_grown (grown_set (grown_set (grown_set (grown_of (B0.out.trans (B1'.out.mono (by simp)))) _ _ (Or.inr (Nat.le_refl _))) _ _ (Or.inr (Nat.le_refl _))) _ _ (Or.inr (Nat.le_refl _)))⟩
end
end Go.Proofs.YtgeahpfdaehjaaaGreatDoor
namespace Go.Proofs.YtgeahpfdaehjaaaGreatDoor
open Go.ChangeShapes Go.WideShapes Go.ChangeAt Go.RowKit
set_option linter.unusedVariables false

/-- Are these bytes the batch of this number? -/
def batG (n : Int) (r : Rc) : Bool := match getF r with | some b => b.seq == n | none => false
def recOk : Int → List Rc → Bool
  | _, [] => true
  | n, r :: l => batG n r && recOk (n + 1) l
theorem batG_some {n : Int} {r : Rc} (h : batG n r = true) : ∃ b, getF r = some b ∧ b.seq = n := by
  unfold batG at h
  cases hg : getF r with
  | none => rw [hg] at h; cases h
  | some b => rw [hg] at h; exact ⟨b, rfl, by simpa using h⟩
theorem batG_not {n : Int} {r : Rc} (h : batG n r = false) : getF r = none ∨ ∃ b, getF r = some b ∧ b.seq ≠ n := by
  unfold batG at h
  cases hg : getF r with
  | none => exact .inl rfl
  | some b => rw [hg] at h; exact .inr ⟨b, rfl, by simpa using h⟩
theorem recOk_at : ∀ (l : List Rc) (n : Int), recOk n l = true → ∀ k r, l[k]? = some r → ∃ b, getF r = some b ∧ b.seq = n + (k : Nat)
  | [], n, h, k, r, hk => by simp at hk
  | x :: l, n, h, 0, r, hk => by
    unfold recOk at h
    simp only [Bool.and_eq_true] at h
    simp only [List.getElem?_cons_zero, Option.some.injEq] at hk
    subst hk
    obtain ⟨b, h1, h2⟩ := batG_some h.1
    exact ⟨b, h1, by omega⟩
  | x :: l, n, h, k + 1, r, hk => by
    unfold recOk at h
    simp only [Bool.and_eq_true] at h
    rw [List.getElem?_cons_succ] at hk
    obtain ⟨b, h1, h2⟩ := recOk_at l (n + 1) h.2 k r hk
    exact ⟨b, h1, by omega⟩
theorem recOk_rec {G : List Sg} (h : recOk (fsG G) (recs G) = true) : RecG G := fun k r hk => recOk_at _ _ h k r hk
theorem recOk_of : ∀ (l : List Rc) (n : Int), (∀ k r, l[k]? = some r → ∃ b, getF r = some b ∧ b.seq = n + (k : Nat)) → recOk n l = true
  | [], n, h => rfl
  | x :: l, n, h => by
    unfold recOk
    obtain ⟨b, h1, h2⟩ := h 0 x rfl
    have e : batG n x = true := by unfold batG; rw [h1]; simp [h2]
    rw [e, Bool.true_and]
    exact recOk_of l (n + 1) (fun k r hk => by
      obtain ⟨b, h1, h2⟩ := h (k + 1) r (by rw [List.getElem?_cons_succ]; exact hk)
      exact ⟨b, h1, by omega⟩)
theorem rec_recOk {G : List Sg} (h : RecG G) : recOk (fsG G) (recs G) = true := recOk_of _ _ (fun k r hk => h k r hk)
theorem recOk_drop {l : List Rc} {r : Rc} {k : Nat} (n : Int) (hk : l[k]? = some r) : recOk (n + (k : Nat)) (l.drop k) = (batG (n + (k : Nat)) r && recOk (n + ((k + 1 : Nat) : Int)) (l.drop (k + 1))) := by
  have hl := (List.getElem?_eq_some_iff.1 hk).1
  have e : l.drop k = r :: l.drop (k + 1) := by
    rw [List.drop_eq_getElem_cons hl]
    congr 1
    exact (List.getElem?_eq_some_iff.1 hk).2
  rw [e, recOk]
  congr 2
  omega
section
variable {w : World} {B ad aj : Nat} {many : Int} {vp vr : Value} {P : List Int} {R : List Rc}
set_option maxHeartbeats 1000000 in
set_option maxRecDepth 100000 in
theorem allB (hL : Laid w) (h : JrG w B ad aj many vp vr P R) (hf : Fits P R) (hg : ∀ r ∈ R, r.length ≤ 4096) :
    Calls Tryz.prog 21 #[.pointer (some ⟨aj, 0, none⟩)] w fun e w' => e = .returned (.bool (recOk (jFirst P) R)) ∧ Below w.heap.size w w' := by
  have C1 := Lib.hid (firstJ h)
  have C2 := Lib.hid (nextJ h hf)
  have HL := Lib.hid hL
  have HJ := Lib.hid h
  have HF := Lib.hid hf
  have HG := Lib.hid hg
  have hff := hf.first
  have hrl := hf.rl
  have hw : IntKind.i64.wrap (jNext P R - jFirst P) = (R.length : Int) := by
    rw [show jNext P R - jFirst P = (R.length : Int) by unfold jNext; omega]
    exact IntWalk.i64_in _ (by omega)
  clear hL h hf hg
  obtain ⟨N, hN⟩ : ∃ N, R.length = N := ⟨_, rfl⟩
  have HN := Lib.hid hN
  rw [hN] at hw hrl
  clear hN
  go_enter Tryz.func21, Tryz.ntmps21
  go_wp2_with fail
  refine C1.out.mono ?_
  rintro e w1 ⟨rfl, rfl⟩
  go_wp2_with fail
  refine C2.out.mono ?_
  rintro e w2 ⟨rfl, m, rfl⟩
  clear C1 C2
  have B1 := Lib.hid (below_drewN w1 m)
  go_wp2_with fail
  go_loopg [14] N (fun g s14 wx => ∃ k, k + g = N ∧ s14 = .int .i64 (k : Nat) ∧ Hid (Below w1.heap.size w1 wx) ∧ Hid (recOk (jFirst P + (k : Nat)) (R.drop k) = recOk (jFirst P) R))
  case atStart => exact ⟨0, by omega, rfl, B1, Lib.hid (by simp)⟩
  case round =>
    clear B1
    obtain ⟨k, hk, rfl, HB, HQ⟩ := hrel
    cases gk with
    | zero =>
      have x1 : decide ((k : Int) < (N : Int)) = false := decide_eq_false (by omega)
      have FIN : Hid (recOk (jFirst P) R = true) := Lib.hid (by
        rw [← HQ.out, List.drop_eq_nil_of_le (by rw [HN.out]; omega)]
        rfl)
      go_wp2_with fail
      go_ret
      exact ⟨by rw [FIN.out]; rfl, HB.out⟩
    | succ g =>
      have x1 : decide ((k : Int) < (N : Int)) = true := decide_eq_true (by omega)
      obtain ⟨r, hr⟩ : ∃ r, R[k]? = some r := ⟨R[k]'(by rw [HN.out]; omega), List.getElem?_eq_getElem _⟩
      have hrl2 := HG.out r (List.mem_of_getElem? hr)
      have hstep := recOk_drop (jFirst P) hr
      rw [HQ.out] at hstep
      have hs : IntKind.i64.wrap (jFirst P + (k : Int)) = jFirst P + (k : Int) := IntWalk.i64_in _ (by omega)
      have JB := HJ.out.still HB.out
      have LB := HL.out.below HB.out
      cases hb : batG (jFirst P + (k : Nat)) r with
      | true =>
        obtain ⟨b, h1, h2⟩ := batG_some hb
        have CR := Lib.hid (readS_good LB JB HF.out hr hrl2 rfl h1 h2)
        rw [hb, Bool.true_and] at hstep
        have HQ2 : Hid (recOk (jFirst P + ((k + 1 : Nat) : Int)) (R.drop (k + 1)) = recOk (jFirst P) R) := Lib.hid hstep.symm
        clear hstep JB LB hr hb h1 h2 hrl2 HQ
        unfold ReadGood btVal at CR
        go_wp2_with fail
        refine CR.out.mono ?_
        rintro e w3 ⟨B3, c3, A3, cap3, rfl, _, _, b3, _⟩
        have B4 := Lib.hid ((HB.out.trans (b3.mono HB.out.size)).alloc (Nat.le_trans HB.out.size b3.size) (.cells #[.int .i64 b.seq, .int .i64 b.start, .slice B3 b.rows.length c3] 60))
        clear b3 CR
        generalize b.rows.length = N1 at *
        generalize r.length = N2 at *
        go_wp2_with fail
        go_roundg g
        case rel => exact ⟨k + 1, by omega, by go_num, B4, HQ2⟩
        case measure => omega
      | false =>
        have CR : Hid (Calls Tryz.prog 49 #[.pointer (some ⟨aj, 0, none⟩), .int .i64 (jFirst P + (k : Nat))] wr (ReadBad wr)) := Lib.hid (by
          rcases batG_not hb with h1 | ⟨b, h1, h2⟩
          · exact readS_bad LB JB HF.out hr hrl2 rfl h1
          · exact readS_other LB JB HF.out hr hrl2 rfl h1 h2)
        rw [hb, Bool.false_and] at hstep
        have FIN : Hid (recOk (jFirst P) R = false) := Lib.hid hstep
        clear hstep JB LB hr hb hrl2 HQ
        unfold ReadBad btVal at CR
        go_wp2_with fail
        refine CR.out.mono ?_
        rintro e w3 ⟨rfl, b3⟩
        have B4 := Lib.hid ((HB.out.trans (b3.mono HB.out.size)).alloc (Nat.le_trans HB.out.size b3.size) (.cells #[.int .i64 0, .int .i64 0, .slice none 0 0] 60))
        clear b3 CR
        go_wp2_with fail
        go_ret
        exact ⟨by rw [FIN.out]; rfl, B4.out⟩
end
/-- The parts as they are cut when they are opened. -/
def cutG (G : List Sg) : List Sg := G.map (fun g => ⟨g.n, g.rs, [], (flat g.rs).length⟩)
theorem cut_pts (G : List Sg) : pts' (cutG G) = G.map Sg.cut := by
  unfold pts' cutG
  rw [List.map_map]
  refine List.map_congr_left (fun g _ => ?_)
  simp only [Function.comp_apply, Sg.pt, Sg.cut, List.append_nil]
theorem cut_ns (G : List Sg) : ns (cutG G) = G.map (·.n) := by unfold ns cutG; rw [List.map_map]; rfl
theorem cut_recs (G : List Sg) : recs (cutG G) = recs G := by unfold recs cutG; rw [List.map_map]; rfl
theorem room_bad (w : World) (p : Value) (many room : Int) (h : room < 1 ∨ 1000 < room) :
    Calls Tryz.prog 7 #[p, .int .i64 many, .int .i64 room] w fun e w' => e = .returned (.tuple #[.pointer none, .iface 41 (.int .i64 1)]) ∧ w' = w := by
  rcases h with h | h
  · go_enter Tryz.func7, Tryz.ntmps7
    go_wp2
    go_ret2
    exact ⟨rfl, rfl⟩
  · have h1 : ¬ room < 1 := by omega
    go_enter Tryz.func7, Tryz.ntmps7
    go_wp2
    go_ret2
    exact ⟨rfl, rfl⟩
theorem many_bad (w : World) (ad : Nat) (many room : Int) (hr : 1 ≤ room ∧ room ≤ 1000) (h : many < 1 ∨ 100 < many) :
    Calls Tryz.prog 7 #[.pointer (some ⟨ad, 0, none⟩), .int .i64 many, .int .i64 room] w fun e w' => e = .returned (.tuple #[.pointer none, .iface 41 (.int .i64 1)]) ∧ w' = w := by
  have C := openBad w ad many h
  unfold errV at C
  have C := Lib.hid C
  have h1 : ¬ room < 1 := by omega
  have h2 : ¬ 1000 < room := by omega
  go_enter Tryz.func7, Tryz.ntmps7
  go_wp2_with fail
  refine C.out.mono ?_
  rintro e w1 ⟨rfl, rfl⟩
  go_wp2
  go_ret2
  exact ⟨rfl, rfl⟩
section
variable {w : World} {ad rm : Nat} {many room : Int} {G : List Sg} {dn : Bool} {F : Nat → Prop}
set_option maxHeartbeats 1000000 in
set_option maxRecDepth 100000 in
theorem openS (hL : Laid w) (hlo : ∀ g, F g → 6 ≤ g) (h : Dsk w F ad rm dn (G.map Sg.pt)) (hi : Inv rm (G.map Sg.pt)) (hs : Segs G) (hm : 1 ≤ many ∧ many ≤ 100) (hr : 1 ≤ room ∧ room ≤ 1000) :
    Calls Tryz.prog 7 #[.pointer (some ⟨ad, 0, none⟩), .int .i64 many, .int .i64 room] w fun e w' =>
      (recOk (fsG G) (recs G) = true ∧ ∃ sp aj K', e = .returned (.tuple #[.pointer (some ⟨sp, 0, none⟩), .nilIface]) ∧ Sx w' K' sp ad aj rm many room (fsG G) (cutG G) ∧ Mv8 w F w' K') ∨
      (recOk (fsG G) (recs G) = false ∧ e = .returned (.tuple #[.pointer none, .iface 41 (.int .i64 2)]) ∧ ∃ F', Mv8 w F w' F') := by
  have O : OwnZ ⟨w, F⟩ w (fun _ => False) ad rm dn (G.map Sg.pt) := ⟨F, h, Keeps.refl _ _, fun g hg => by rcases hg with e | e; exact .inl e; exact e.elim⟩
  have C1 := Lib.hid (openJ (many := many) O hi hs hm)
  have HS := Lib.hid hs
  have HL := Lib.hid hL
  have HLO := Lib.hid hlo
  have h1 : ¬ room < 1 := by omega
  have h2 : ¬ 1000 < room := by omega
  clear O h hi hs hm hr hL hlo
  go_enter Tryz.func7, Tryz.ntmps7
  go_wp2_with fail
  refine C1.out.mono ?_
  rintro e w1 ⟨aj, rfl, j1⟩
  obtain ⟨FF, q1, q2⟩ := Jn.jx j1
  have q2 : Mv8 w F w1 FF := q2
  have hn := HL.out.n
  have hsz := q2.keeps.size
  have L1 : Laid w1 := HL.out.keep (fun i hi => q2.keeps.block i (by omega) (fun e => by have := HLO.out i e; omega)) hsz
  have hFl : ∀ g, FF g → 6 ≤ g := fun g hg => by
    rcases q2.own g hg with e | e
    · exact HLO.out g e
    · have : w.heap.size ≤ g := e
      omega
  obtain ⟨vp, vr, gj⟩ := q1.jrg
  have hf : Fits (G.map (·.n)) (recs G) := seg_fits (X := G) (Y := []) HS.out (by simp)
  have hgr : ∀ r ∈ recs G, r.length ≤ 4096 := fun r hr => by
    unfold recs at hr
    obtain ⟨rs, hrs, hr⟩ := List.mem_flatten.1 hr
    obtain ⟨f, hf, rfl⟩ := List.mem_map.1 hrs
    exact ((HS.out.good f hf).good r hr).2
  have C2 := Lib.hid (allB L1 gj hf hgr)
  have C3 := Lib.hid (fun (wx : World) (hb : Below w1.heap.size w1 wx) => firstJ (gj.still hb))
  have Q1 := Lib.hid q1
  have Q2 := Lib.hid q2
  have LL := Lib.hid L1
  have HFL := Lib.hid hFl
  clear C1 j1 q1 q2 L1 gj hf hgr hFl hn hsz
  go_wp2_with fail
  refine C2.out.mono ?_
  rintro e w2 ⟨rfl, b2⟩
  have B2 := Lib.hid b2
  have K1 := Lib.hid (C3.out w2 b2)
  clear C2 C3 b2
  have hjf : jFirst (G.map (·.n)) = fsG G := rfl
  rw [hjf] at K1
  cases hok : recOk (fsG G) (recs G) with
  | true =>
    have HOK := Lib.hid hok
    rw [show recOk (jFirst (List.map (fun x => x.n) G)) (recs G) = true from hok]
    clear hjf hok
    go_wp2_with fail
    refine K1.out.mono ?_
    rintro e w3 ⟨rfl, rfl⟩
    have FIN : Hid (Sx (w3.alloc (.cells (spCells aj room (fsG G)) 80)) (fun g => FF g ∨ g = w3.heap.size) w3.heap.size ad aj rm many room (fsG G) (cutG G) ∧ Mv8 w F (w3.alloc (.cells (spCells aj room (fsG G)) 80)) (fun g => FF g ∨ g = w3.heap.size)) := Lib.hid (by
      have b3 : Below w1.heap.size w1 (w3.alloc (.cells (spCells aj room (fsG G)) 80)) := B2.out.alloc B2.out.size _
      have hsz := Q2.out.keeps.size
      have hb2 := B2.out.size
      have hn := HL.out.n
      refine ⟨⟨⟨FF, ?_, ⟨heap_alloc_new w3 _⟩, fun e => by have := Q1.out.lt e; omega, fun g => Iff.rfl⟩, LL.out.below b3, fun g hg => ?_⟩, Q2.out.keeps.trans (Keeps.of_below b3 (Nat.le_refl _) (fun _ => False)) (fun g e => e.elim), fun g hg => ?_⟩
      · rw [cut_pts, cut_ns, cut_recs]; exact Q1.out.below b3
      · rcases hg with e | rfl
        · exact HFL.out g e
        · have : w.heap.size ≤ w1.heap.size := hsz
          show 6 ≤ w3.heap.size
          omega
      · rcases hg with e | rfl
        · exact Q2.out.own g e
        · have : w.heap.size ≤ w1.heap.size := hsz
          exact .inr (by omega))
    unfold spCells at FIN
    clear Q1 Q2 LL HFL HS HL HLO K1 B2
    go_wp2_with fail
    go_ret2
    exact .inl ⟨HOK.out, _, aj, _, rfl, FIN.out⟩
  | false =>
    have HOK := Lib.hid hok
    rw [show recOk (jFirst (List.map (fun x => x.n) G)) (recs G) = false from hok]
    have FIN : Hid (Mv8 w F w2 FF) := Lib.hid ⟨Q2.out.keeps.trans (Keeps.of_below B2.out (Nat.le_refl _) (fun _ => False)) (fun g e => e.elim), Q2.out.own⟩
    clear hjf hok Q1 Q2 LL HFL HS HL HLO K1 B2
    go_wp2_with fail
    go_ret2
    exact .inr ⟨HOK.out, rfl, _, FIN.out⟩
end
end Go.Proofs.YtgeahpfdaehjaaaGreatDoor
