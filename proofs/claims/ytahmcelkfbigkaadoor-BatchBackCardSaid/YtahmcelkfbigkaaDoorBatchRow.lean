/-
  Layer 7 (batch): the reader's method row, walked.
-/
import Derived.Test.YtahmcelkfbigkaaDoorBatchRowKit
import Derived.Deep.RegionHeld3
namespace Go.Proofs.YtahmcelkfbigkaaDoor
open Go.ChangeShapes Go.WideShapes Go.ChangeAt Go.RowKit
set_option linter.unusedVariables false

theorem u_beq (n : Nat) : ((n : Int) == 1) = (n == 1) := by
  rw [Bool.eq_iff_iff, beq_iff_eq, beq_iff_eq]; omega
theorem Jl.ret {w : World} {P N : Nat} {A : Option Addr} {cap : Nat} {l : List UInt8} {g : Gs} {wr : World} {G : Nat} {r : Rw} {B : Option Addr} {c : Nat} (h : Jl w P N A cap l g wr G r B c) (hold : ∀ ad, A = some ad → l ≠ [] → ad.block < w.heap.size) (v0 v1 v2 v3 v4 v5 v6 v7 : Value) :
    Kp w P N ((((((((wr.setCell ⟨w.heap.size, 0, none⟩ v0).setCell ⟨w.heap.size, 1, none⟩ v1).setCell ⟨w.heap.size, 2, none⟩ v2).setCell ⟨w.heap.size, 3, none⟩ v3).setCell ⟨w.heap.size, 4, none⟩ v4).setCell ⟨w.heap.size, 5, none⟩ v5).setCell ⟨w.heap.size, 6, none⟩ v6).setCell ⟨w.heap.size, 7, none⟩ v7) ∧ Brd ((((((((wr.setCell ⟨w.heap.size, 0, none⟩ v0).setCell ⟨w.heap.size, 1, none⟩ v1).setCell ⟨w.heap.size, 2, none⟩ v2).setCell ⟨w.heap.size, 3, none⟩ v3).setCell ⟨w.heap.size, 4, none⟩ v4).setCell ⟨w.heap.size, 5, none⟩ v5).setCell ⟨w.heap.size, 6, none⟩ v6).setCell ⟨w.heap.size, 7, none⟩ v7) P N A cap l g ∧ OwnN ((((((((wr.setCell ⟨w.heap.size, 0, none⟩ v0).setCell ⟨w.heap.size, 1, none⟩ v1).setCell ⟨w.heap.size, 2, none⟩ v2).setCell ⟨w.heap.size, 3, none⟩ v3).setCell ⟨w.heap.size, 4, none⟩ v4).setCell ⟨w.heap.size, 5, none⟩ v5).setCell ⟨w.heap.size, 6, none⟩ v6).setCell ⟨w.heap.size, 7, none⟩ v7) w.heap.size B c r.bks := by
  have gr : wr.grownBy ((((((((wr.setCell ⟨w.heap.size, 0, none⟩ v0).setCell ⟨w.heap.size, 1, none⟩ v1).setCell ⟨w.heap.size, 2, none⟩ v2).setCell ⟨w.heap.size, 3, none⟩ v3).setCell ⟨w.heap.size, 4, none⟩ v4).setCell ⟨w.heap.size, 5, none⟩ v5).setCell ⟨w.heap.size, 6, none⟩ v6).setCell ⟨w.heap.size, 7, none⟩ v7) (some w.heap.size) := by
    refine grown_set (grown_set (grown_set (grown_set (grown_set (grown_set (grown_set (grown_set (grown_refl _ _) _ _ ?_) _ _ ?_) _ _ ?_) _ _ ?_) _ _ ?_) _ _ ?_) _ _ ?_) _ _ ?_ <;> exact Or.inl rfl
  have hP := h.on.hP
  have hN := h.on.hN
  refine ⟨h.on.kp.grown gr (fun b e => by cases e; exact .inr (.inr (Nat.le_refl _))), h.on.brd.grown gr (fun b e => by cases e; exact ⟨by omega, by omega, fun ad ha hne => by have := hold ad ha hne; omega⟩), ?_⟩
  exact owns_mono (owns_kept h.own gr (fun b e => by cases e; exact .inl (Nat.lt_succ_self _))) (Nat.le_succ _)
theorem Jl.app {w : World} {P N : Nat} {A : Option Addr} {cap : Nat} {l : List UInt8} {g : Gs} {wr w8 : World} {G : Nat} {r : Rw} {B : Option Addr} {c n : Nat} (h : Jl w P N A cap l g wr G r B c) (hold : ∀ ad, A = some ad → l ≠ [] → ad.block < w.heap.size)
    (g8 : (wr.alloc (.cells #[.int .u64 (n : Nat)] 41)).grownBy w8 (Value.slice B r.bks.length c).ownBlock) : Ja w P N A cap l g w8 ∧ RowB w8 G r B c := by
  have hk : ∀ b, (Value.slice B r.bks.length c).ownBlock = some b → w.heap.size + 1 ≤ b ∧ b ≠ G := fun b hb => by
    obtain ⟨c', f, h1⟩ := owns_block h.own b hb
    refine ⟨(World.ownsRow.lt h.own b hb).1, fun e => ?_⟩
    rw [e, h.row.blk] at h1
    cases h1
  exact ⟨(h.on.alloc0 _).grown g8 (fun b e => (hk b e).1) hold, (h.row.alloc _).grown g8 (fun e => (hk G e).2 rfl)⟩
theorem Jl.put {w : World} {P N : Nat} {A : Option Addr} {cap : Nat} {l : List UInt8} {g : Gs} {w8 : World} {G : Nat} {r : Rw} {B A8 : Option Addr} {c c8 n : Nat} (h : Ja w P N A cap l g w8 ∧ RowB w8 G r B c) (far : w.heap.size + 1 ≤ G) (hold : ∀ ad, A = some ad → l ≠ [] → ad.block < w.heap.size)
    (o8 : OwnN w8 (w.heap.size + 1) A8 c8 (r.bks ++ [n])) : Jl w P N A cap l g (w8.setCell ⟨G, 7, none⟩ (.slice A8 (r.bks.length + 1) c8)) G ⟨r.key, r.kind, r.many, r.sum, r.least, r.most, r.over, r.bks ++ [n]⟩ A8 c8 := by
  have gr := grown_set (grown_refl w8 (some G)) ⟨G, 7, none⟩ (.slice A8 (r.bks.length + 1) c8) (Or.inl rfl)
  refine ⟨h.1.grown gr (fun b e => by cases e; exact far) hold, ⟨?_⟩, far, ?_⟩
  · have := heap_set_same (o := 7) (v := .slice A8 (r.bks.length + 1) c8) h.2.blk
    rw [show (r.bks ++ [n]).length = r.bks.length + 1 by simp]
    exact this
  · exact owns_kept o8 gr (fun b e => by cases e; exact .inr ⟨_, _, _, h.2.blk, by decide⟩)
theorem Ja.end_ {w : World} {P N : Nat} {A : Option Addr} {cap : Nat} {l : List UInt8} {g : Gs} {wr : World} (h : Ja w P N A cap l g wr) (k : ByteArray) (kd : Int) (mn : Nat) (sm ls ms : Int) (ov : Bool) :
    Jl w P N A cap l g (wr.alloc (.cells #[.string k, .int .i64 kd, .int .u64 (mn : Nat), .int .i64 sm, .int .i64 ls, .int .i64 ms, .bool ov, .slice none 0 0] 44)) wr.heap.size ⟨k, kd, mn, sm, ls, ms, ov, []⟩ none 0 := Ja.fin h ⟨k, kd, mn, sm, ls, ms, ov, []⟩ rfl
theorem Jb.end_ {w : World} {P N : Nat} {A : Option Addr} {cap : Nat} {l : List UInt8} {g : Gs} {wr : World} {G : Nat} (h : Jb w P N A cap l g wr G) (hold : ∀ ad, A = some ad → l ≠ [] → ad.block < w.heap.size) (k : ByteArray) (kd : Int) (mn : Nat) (sm ls ms : Int) (ov : Bool) :
    Jl w P N A cap l g ((((((((wr.setCell ⟨G, 0, none⟩ (.string k)).setCell ⟨G, 1, none⟩ (.int .i64 kd)).setCell ⟨G, 2, none⟩ (.int .u64 (mn : Nat))).setCell ⟨G, 3, none⟩ (.int .i64 sm)).setCell ⟨G, 4, none⟩ (.int .i64 ls)).setCell ⟨G, 5, none⟩ (.int .i64 ms)).setCell ⟨G, 6, none⟩ (.bool ov)).setCell ⟨G, 7, none⟩ (.slice none 0 0)) G ⟨k, kd, mn, sm, ls, ms, ov, []⟩ none 0 := Jb.fin h ⟨k, kd, mn, sm, ls, ms, ov, []⟩ rfl hold
set_option maxHeartbeats 8000000 in
set_option maxRecDepth 100000 in
theorem brRow (w : World) (P N : Nat) (A : Option Addr) (cap : Nat) (l : List UInt8) (g : Gs) (h : Brd w P N A cap l g) (hl : l.length ≤ 1000000) :
    Calls Tryd.prog 38 #[.pointer (some ⟨P, 0, none⟩)] w (RowPost w P N A cap l (gRow l g).1 (gRow l g).2) := by
  obtain ⟨va, ga, vb, gb, vc, gc, nd, gd, ne, ge, nf, gf, vo, go, e1, e2, e3, e4, e5, e6, e7, hh, hb3⟩ := head_parts l g
  have hold := Lib.hid h.old
  have D1 := fun w' (h : Brd w' P N A cap l g) => brText w' P N A cap l g h hl
  rw [e1] at D1
  have CA1 := Lib.hid (liftA (w := w) D1)
  have CB1 := Lib.hid (liftB (w := w) D1)
  clear D1
  have D2 : ∀ w', Brd w' P N A cap l ga → Calls Tryd.prog 37 #[.pointer (some ⟨P, 0, none⟩), .int .u64 3] w' (NumB w' P N A cap l (gUp l 3 ga).1 (gUp l 3 ga).2) := fun w' h => brUpTo w' P N A cap l ga 3 h hl (by omega)
  rw [e2] at D2
  have CA2 := Lib.hid (liftA (w := w) D2)
  have CB2 := Lib.hid (liftB (w := w) D2)
  clear D2
  have D3 := fun w' (h : Brd w' P N A cap l gb) => brNumber w' P N A cap l gb h hl
  rw [e3] at D3
  have CA3 := Lib.hid (liftA (w := w) D3)
  have CB3 := Lib.hid (liftB (w := w) D3)
  clear D3
  have D4 := fun w' (h : Brd w' P N A cap l gc) => brWhole w' P N A cap l gc h hl
  rw [e4] at D4
  have CA4 := Lib.hid (liftA (w := w) D4)
  have CB4 := Lib.hid (liftB (w := w) D4)
  clear D4
  have D5 := fun w' (h : Brd w' P N A cap l gd) => brWhole w' P N A cap l gd h hl
  rw [e5] at D5
  have CA5 := Lib.hid (liftA (w := w) D5)
  have CB5 := Lib.hid (liftB (w := w) D5)
  clear D5
  have D6 := fun w' (h : Brd w' P N A cap l ge) => brWhole w' P N A cap l ge h hl
  rw [e6] at D6
  have CA6 := Lib.hid (liftA (w := w) D6)
  have CB6 := Lib.hid (liftB (w := w) D6)
  clear D6
  have D7 : ∀ w', Brd w' P N A cap l gf → Calls Tryd.prog 37 #[.pointer (some ⟨P, 0, none⟩), .int .u64 1] w' (NumB w' P N A cap l (gUp l 1 gf).1 (gUp l 1 gf).2) := fun w' h => brUpTo w' P N A cap l gf 1 h hl (by omega)
  rw [e7] at D7
  have CA7 := Lib.hid (liftA (w := w) D7)
  have CB7 := Lib.hid (liftB (w := w) D7)
  clear D7
  obtain ⟨M, gm, e8⟩ : ∃ M gm, gUp l 65 go = (M, gm) := ⟨_, _, rfl⟩
  have hM : M ≤ 65 := by have := gUp_le l 65 go; rw [e8] at this; exact this
  have D8 : ∀ w', Brd w' P N A cap l go → Calls Tryd.prog 37 #[.pointer (some ⟨P, 0, none⟩), .int .u64 65] w' (NumB w' P N A cap l (gUp l 65 go).1 (gUp l 65 go).2) := fun w' h => brUpTo w' P N A cap l go 65 h hl (by omega)
  rw [e8] at D8
  have D8 := Lib.hid D8
  have HE8 := Lib.hid e8
  clear e8
  have HH := Lib.hid hh
  obtain ⟨ov, hov⟩ : ∃ ov, ov = (vo == 1) := ⟨_, rfl⟩
  have xo : ((vo : Int) == 1) = ov := by rw [hov]; exact u_beq vo
  rw [← hov] at HH
  have xb : IntKind.i64.wrap (vb : Int) = (vb : Int) := by rw [IntKind.wrap_i64]; omega
  generalize unfoldN nd = zd at *
  generalize unfoldN ne = ze at *
  generalize unfoldN nf = zf at *
  have J0 : Hid (Ja w P N A cap l g (w.alloc (.cells #[.string ⟨#[]⟩, .int .i64 0, .int .u64 0, .int .i64 0, .int .i64 0, .int .i64 0, .bool false, .slice none 0 0] 44))) := Lib.hid ⟨(Kp.refl _ _ _).alloc _, h.alloc _, ⟨heap_alloc_new w _⟩, h.lt, h.rdr.lt⟩
  have HB0 := Lib.hid h
  have HR : Hid (gRow l g = (⟨⟨va.toArray⟩, (vb : Nat), vc, zd, ze, zf, ov, (gBks l M gm []).1⟩, (gBks l M gm []).2)) := Lib.hid (by unfold gRow; rw [HH.out]; simp only [HE8.out])
  rw [HR.out]
  clear e1 e2 e3 e4 e5 e6 e7 hh hov h
  go_enter Tryd.func38, Tryd.ntmps38
  go_wp2
  generalize w.alloc (.cells #[.string ⟨#[]⟩, .int .i64 0, .int .u64 0, .int .i64 0, .int .i64 0, .int .i64 0, .bool false, .slice none 0 0] 44) = W at J0 ⊢
  go_cut [3] from 4 to 35 (fun v3 wx => ∃ G, v3 = .pointer (some ⟨G, 0, none⟩) ∧ Hid (Jl w P N A cap l go wx G ⟨⟨va.toArray⟩, (vb : Nat), vc, zd, ze, zf, ov, []⟩ none 0))
  case first =>
    have j0 : Ja w P N A cap l g W.drew := J0.out.next ((Kp.refl _ _ _).below (below_drew1 _)) (J0.out.brd.below (below_drew1 _))
    have s0 := j0.c0
    have jb0 : Jb w P N A cap l g (W.alloc (.cells #[.string ⟨#[]⟩, .int .i64 0, .int .u64 0, .int .i64 0, .int .i64 0, .int .i64 0, .bool false, .slice none 0 0] 44)).drew W.heap.size := J0.out.alloc.next ((Kp.refl _ _ _).below (below_drew1 _)) (J0.out.alloc.on.brd.below (below_drew1 _))
    clear J0
    go_region_held3 (fun w' => w'.cell? ⟨P, 0, none⟩ = some (.pointer (some ⟨N, 0, none⟩)))
      (first | with_reducible assumption | with_reducible exact Jb.far8 (by assumption) _ _ _ _ _ _ _ _ | with_reducible exact Ja.c0 (by assumption) | with_reducible exact Jb.c0 (by assumption) | with_reducible exact Ja.c0 (Ja.alloc0 (by assumption) _) | fail)
      (first
            | ((go_at_call 47; with_reducible refine (CA1.out _ (by assumption)).mono ?_); rintro e w9 ⟨rfl, j9⟩)
            | ((go_at_call 47; with_reducible refine (CB1.out _ _ (by assumption)).mono ?_); rintro e w9 ⟨rfl, j9⟩)
            | ((go_at_call 47; with_reducible refine (CB1.out _ _ (Ja.alloc (by assumption))).mono ?_); rintro e w9 ⟨rfl, j9⟩)
            | ((go_at_call 37; with_reducible refine (CA2.out _ (by assumption)).mono ?_); rintro e w9 ⟨rfl, j9⟩)
            | ((go_at_call 37; with_reducible refine (CB2.out _ _ (by assumption)).mono ?_); rintro e w9 ⟨rfl, j9⟩)
            | ((go_at_call 37; with_reducible refine (CB2.out _ _ (Ja.alloc (by assumption))).mono ?_); rintro e w9 ⟨rfl, j9⟩)
            | ((go_at_call 46; with_reducible refine (CA3.out _ (by assumption)).mono ?_); rintro e w9 ⟨rfl, j9⟩)
            | ((go_at_call 46; with_reducible refine (CB3.out _ _ (by assumption)).mono ?_); rintro e w9 ⟨rfl, j9⟩)
            | ((go_at_call 46; with_reducible refine (CB3.out _ _ (Ja.alloc (by assumption))).mono ?_); rintro e w9 ⟨rfl, j9⟩)
            | ((go_at_call 48; with_reducible refine (CA4.out _ (by assumption)).mono ?_); rintro e w9 ⟨rfl, j9⟩)
            | ((go_at_call 48; with_reducible refine (CB4.out _ _ (by assumption)).mono ?_); rintro e w9 ⟨rfl, j9⟩)
            | ((go_at_call 48; with_reducible refine (CB4.out _ _ (Ja.alloc (by assumption))).mono ?_); rintro e w9 ⟨rfl, j9⟩)
            | ((go_at_call 48; with_reducible refine (CA5.out _ (by assumption)).mono ?_); rintro e w9 ⟨rfl, j9⟩)
            | ((go_at_call 48; with_reducible refine (CB5.out _ _ (by assumption)).mono ?_); rintro e w9 ⟨rfl, j9⟩)
            | ((go_at_call 48; with_reducible refine (CB5.out _ _ (Ja.alloc (by assumption))).mono ?_); rintro e w9 ⟨rfl, j9⟩)
            | ((go_at_call 48; with_reducible refine (CA6.out _ (by assumption)).mono ?_); rintro e w9 ⟨rfl, j9⟩)
            | ((go_at_call 48; with_reducible refine (CB6.out _ _ (by assumption)).mono ?_); rintro e w9 ⟨rfl, j9⟩)
            | ((go_at_call 48; with_reducible refine (CB6.out _ _ (Ja.alloc (by assumption))).mono ?_); rintro e w9 ⟨rfl, j9⟩)
            | ((go_at_call 37; with_reducible refine (CA7.out _ (by assumption)).mono ?_); rintro e w9 ⟨rfl, j9⟩)
            | ((go_at_call 37; with_reducible refine (CB7.out _ _ (by assumption)).mono ?_); rintro e w9 ⟨rfl, j9⟩; have f0 := j9.row.f 0; have f1 := j9.row.f 1; have f2 := j9.row.f 2; have f3 := j9.row.f 3; have f4 := j9.row.f 4; have f5 := j9.row.f 5; have f6 := j9.row.f 6; have f7 := j9.row.f 7; have d0 := j9.row.c0; have d1 := j9.row.c1; have d2 := j9.row.c2; have d3 := j9.row.c3; have d4 := j9.row.c4; have d5 := j9.row.c5; have d6 := j9.row.c6; have d7 := j9.row.c7)
            | ((go_at_call 37; with_reducible refine (CB7.out _ _ (Ja.alloc (by assumption))).mono ?_); rintro e w9 ⟨rfl, j9⟩; have f0 := j9.row.f 0; have f1 := j9.row.f 1; have f2 := j9.row.f 2; have f3 := j9.row.f 3; have f4 := j9.row.f 4; have f5 := j9.row.f 5; have f6 := j9.row.f 6; have f7 := j9.row.f 7; have d0 := j9.row.c0; have d1 := j9.row.c1; have d2 := j9.row.c2; have d3 := j9.row.c3; have d4 := j9.row.c4; have d5 := j9.row.c5; have d6 := j9.row.c6; have d7 := j9.row.c7)
            | fail)
    all_goals go_wp2
    all_goals
      go_meet
      case rel =>
        refine ⟨_, rfl, Lib.hid ?_⟩
        first
          | with_reducible exact Ja.end_ (by assumption) _ _ _ _ _ _ _
          | with_reducible exact Jb.end_ (by assumption) hold.out _ _ _ _ _ _ _
          | fail
  case rest =>
    obtain ⟨G, rfl, HJ⟩ := hcut
    clear xo xb J0
    go_wp2_with fail
    refine (liftL D8.out _ HJ.out).mono ?_
    rintro e w2 ⟨rfl, j2⟩
    have J2 := Lib.hid j2
    clear j2 HJ
    go_wp2_with fail
    go_loopg [38] M (fun gh s38 wx => ∃ (i : Nat) (g' : Gs) (acc : List Nat) (B : Option Addr) (c : Nat), i + gh = M ∧ acc.length = i ∧ s38 = .int .u64 i ∧ Hid (Jl w P N A cap l g' wx G ⟨⟨va.toArray⟩, (vb : Nat), vc, zd, ze, zf, ov, acc⟩ B c ∧ gBks l gh g' acc = gBks l M gm []))
    case atStart => exact ⟨0, gm, [], none, 0, by omega, rfl, rfl, Lib.hid ⟨J2.out, rfl⟩⟩
    case round =>
      clear J2
      obtain ⟨i, g', acc, B, c, hig, hac, rfl, HG⟩ := hrel
      subst hac
      have c7 : wr.cell? ⟨G, 7, none⟩ = some (.slice B acc.length c) := HG.out.1.row.c7
      cases gk with
      | zero =>
        have x1 : decide ((acc.length : Int) < (M : Int)) = false := decide_eq_false (by omega)
        have x2 : decide (acc.length < M) = false := decide_eq_false (by omega)
        have c0 : wr.cell? ⟨G, 0, none⟩ = some (.string ⟨va.toArray⟩) := HG.out.1.row.c0
        have c1 : wr.cell? ⟨G, 1, none⟩ = some (.int .i64 (vb : Nat)) := HG.out.1.row.c1
        have c2 : wr.cell? ⟨G, 2, none⟩ = some (.int .u64 (vc : Nat)) := HG.out.1.row.c2
        have c3 : wr.cell? ⟨G, 3, none⟩ = some (.int .i64 zd) := HG.out.1.row.c3
        have c4 : wr.cell? ⟨G, 4, none⟩ = some (.int .i64 ze) := HG.out.1.row.c4
        have c5 : wr.cell? ⟨G, 5, none⟩ = some (.int .i64 zf) := HG.out.1.row.c5
        have c6 : wr.cell? ⟨G, 6, none⟩ = some (.bool ov) := HG.out.1.row.c6
        have d0 := HG.out.1.on.res.c0
        have d1 := HG.out.1.on.res.c1
        have d2 := HG.out.1.on.res.c2
        have d3 := HG.out.1.on.res.c3
        have d4 := HG.out.1.on.res.c4
        have d5 := HG.out.1.on.res.c5
        have d6 := HG.out.1.on.res.c6
        have d7 := HG.out.1.on.res.c7
        have f0 := HG.out.1.on.res.f 0
        have f1 := HG.out.1.on.res.f 1
        have f2 := HG.out.1.on.res.f 2
        have f3 := HG.out.1.on.res.f 3
        have f4 := HG.out.1.on.res.f 4
        have f5 := HG.out.1.on.res.f 5
        have f6 := HG.out.1.on.res.f 6
        have f7 := HG.out.1.on.res.f 7
        have HK : Hid (gBks l M gm [] = (acc, g')) := Lib.hid HG.out.2.symm
        go_wp2_with fail
        refine bodyPost_ret (v := .agg #[.string ⟨va.toArray⟩, .int .i64 (vb : Nat), .int .u64 (vc : Nat), .int .i64 zd, .int .i64 ze, .int .i64 zf, .bool ov, .slice B acc.length c]) (by simp [results, Tryd.results38, go_sem, d0, d1, d2, d3, d4, d5, d6, d7]) rfl ?_
        rw [HK.out]
        exact ⟨B, c, rfl, HG.out.1.ret hold.out _ _ _ _ _ _ _ _⟩
      | succ gh =>
        have x1 : decide ((acc.length : Int) < (M : Int)) = true := decide_eq_true (by omega)
        have x2 : decide (acc.length < M) = true := decide_eq_true (by omega)
        obtain ⟨n, g2, en⟩ : ∃ n g2, gNum l g' = (n, g2) := ⟨_, _, rfl⟩
        have HX : Hid (gBks l gh g2 (acc ++ [n]) = gBks l M gm []) := Lib.hid (by rw [← HG.out.2, gBks, en])
        have D9 := fun w' (h : Brd w' P N A cap l g') => brNumber w' P N A cap l g' h hl
        rw [en] at D9
        have CN := Lib.hid (liftL (w := w) (G := G) (r := ⟨⟨va.toArray⟩, (vb : Nat), vc, zd, ze, zf, ov, acc⟩) (B := B) (c := c) D9)
        have j0 : Jl w P N A cap l g' wr.drew G ⟨⟨va.toArray⟩, (vb : Nat), vc, zd, ze, zf, ov, acc⟩ B c := HG.out.1.next ((Kp.refl _ _ _).below (below_drew1 _)) (HG.out.1.on.brd.below (below_drew1 _))
        have s0 := HG.out.1.on.c0
        have hal : acc.length ≤ 1000 := by omega
        have HFAR := Lib.hid HG.out.1.far
        clear D9 en
        go_wp2
        go_region_law (first
          | (go_simp; (go_at_call 46; with_reducible refine (CN.out _ (by assumption)).mono ?_); rintro e w9 ⟨rfl, j9⟩; (try dsimp only); have q7 : w9.cell? ⟨G, 7, none⟩ = some (.slice B acc.length c) := j9.row.c7; have lg9 := j9.row.lt; have q8 : (w9.alloc (.cells #[.int .u64 (n : Nat)] 41)).cell? ⟨G, 7, none⟩ = some (.slice B acc.length c) := (j9.row.alloc _).c7)
          | (obtain ⟨A8, c8, w8, r8, o8, g8⟩ := append_nat n j9.own j9.on.size hal; have j8 := j9.app hold.out g8; have z7 := j8.2.f 7; have y7 : w8.cell? ⟨G, 7, none⟩ = some (.slice B acc.length c) := j8.2.c7; refine step_append_at rfl (.tmp 41) (.tmp 47) 42 rfl _ _ _ rfl rfl r8 ?_))
        all_goals go_wp2
        all_goals
          go_roundg gh
          case rel => exact ⟨acc.length + 1, g2, acc ++ [n], A8, c8, by omega, by simp, by go_num, Lib.hid ⟨Jl.put j8 HFAR.out hold.out o8, HX.out⟩⟩
          case measure => omega
end Go.Proofs.YtahmcelkfbigkaaDoor
