/-
  Layer 9 (journal): Sync, begin, Append, where nothing fails.
  Layer 9 (journal): the whole records of a part's bytes.
  Layer 9 (journal): a part is taken; all parts; Open.
  Layer 9 (journal): all parts are taken; Open.
  Layers 9 and 21, of no program: parts behind one another, and what an append and a sync make of the last one.
  Layers 9 and 21 (journal, spill), what is of no program: any bytes are whole records and what is torn behind them; a journal's parts where nothing is torn and all is synced; what an append, a crash, a trim make of them.
  Layer 21 (spill), what is of no program: a record is appended and synced, where there is room and where there is none; the oldest parts go.
-/
import Derived.Test.YtgeahpfdaehjaaaGreatDoorGrpN
import Derived.Deep.AppendSrc
import Derived.Deep.LoopGhost
import Derived.Test.YtgeahpfdaehjaaaGreatDoorGrpA
namespace Go.Proofs.YtgeahpfdaehjaaaGreatDoor
open Go.ChangeShapes Go.WideShapes Go.ChangeAt Go.RowKit
set_option linter.unusedVariables false

section
variable {W : Fr} {w : World} {ad aj rm : Nat} {dn : Bool} {L : List Pt} {many : Int} {P : List Int} {R : List Rc}
def JOps (W : Fr) (w : World) (ad aj rm : Nat) (dn : Bool) (many : Int) (c : Nat) (L : List Pt) (P : List Int) (R : List Rc) (e : Ending) (w' : World) : Prop :=
  e = .returned (ErrV c) ∧ Jn W w' ad aj rm dn L many P R
theorem jSync_inv (h : Inv rm L) : Inv rm (jSync dn L P).2 := by
  unfold jSync
  split
  · exact h
  · exact sync_inv h
theorem jSync_len (h : Inv rm L) : (jSync dn L P).2.length = L.length := by
  unfold jSync
  split
  · rfl
  · exact sync_len h
theorem Below.undraw {w w' : World} {n m : Nat} (h : Below (w.drewN n).heap.size (w.drewN n) w') : Below w.heap.size w w' := ⟨h.os, h.tape, h.output, h.size, h.block⟩
set_option maxHeartbeats 1000000 in
set_option maxRecDepth 100000 in
theorem syncJ (h : Jn W w ad aj rm dn L many P R) (hf : Fits P R) (hi : Inv rm L) (hl : L.length ≤ 1000) :
    Calls Tryz.prog 28 #[.pointer (some ⟨aj, 0, none⟩)] w (JOps W w ad aj rm dn many (jSync dn L P).1 (jSync dn L P).2 P R) := by
  obtain ⟨vp, vr, g⟩ := h.jrg
  have c0 := g.c0
  have c2 := g.c2
  by_cases hP : P = []
  · subst hP
    have H := Lib.hid h
    obtain ⟨A, cap, rfl, hA⟩ := j_ints g
    clear h g hA
    go_enter Tryz.func28, Tryz.ntmps28
    go_wp2
    go_ret
    exact ⟨rfl, H.out⟩
  · have D := Lib.hid (lastJ (g.still (below_drew w)) hP hf.pl)
    obtain ⟨A, cap, rfl, hA⟩ := j_ints g
    have hlast := hf.last
    have CS := Lib.hid (fun n : Nat => (h.still (below_drewN w n)).sync (jLast P) hi hl (by omega) (by omega))
    have hj : jSync dn L P = opSync dn L (jLast P) := by unfold jSync; rw [if_neg hP]
    rw [hj]
    have h0 : 0 < P.length := List.length_pos_iff.2 hP
    generalize P.length = N at c2 h0
    have hb : ((N : Int) == 0) = false := beq_eq_false_iff_ne.2 (by omega)
    have hb' : ¬ N = 0 := by omega
    clear h g hA h0 hi hl hf hlast hj
    unfold JOps
    generalize opSync dn L (jLast P) = r at *
    generalize jLast P = x at *
    go_enter Tryz.func28, Tryz.ntmps28
    go_wp2_with fail
    go_region_with (first
      | (go_at_call 56; refine D.out.mono ?_; rintro e w1 ⟨rfl, m, rfl⟩)
      | (go_at_call 58; refine (CS.out _).mono ?_; rintro e w1 ⟨rfl, hJ⟩))
    all_goals go_wp2
    all_goals go_ret
    all_goals exact ⟨rfl, hJ⟩
theorem Jn.append_ok (h : Jn W w ad aj rm dn L many P R) {n : Int} {B : Option Addr} {cb : Nat} {bs : List UInt8} {L' : List Pt} (ha : opAppend rm dn L n bs = (0, L')) (hr : RdS w B cb bs) (hi : Inv rm L) (hl : L.length ≤ 1000) (hn : n ≤ 9223372036854775807) (hb : bs.length ≤ 1000000) :
    Calls Tryz.prog 55 #[.pointer (some ⟨ad, 0, none⟩), .int .i64 n, .slice B bs.length cb] w fun e w' => e = .returned .nilIface ∧ Jn W w' ad aj rm dn L' many P R := by
  have := h.append n hr hi hl hn hb
  rw [ha] at this
  exact this
theorem syncJ_ok {L' : List Pt} (h : Jn W w ad aj rm dn L many P R) (hs : jSync dn L P = (0, L')) (hf : Fits P R) (hi : Inv rm L) (hl : L.length ≤ 1000) :
    Calls Tryz.prog 28 #[.pointer (some ⟨aj, 0, none⟩)] w fun e w' => e = .returned .nilIface ∧ Jn W w' ad aj rm dn L' many P R := by
  have := syncJ h hf hi hl
  rw [hs] at this
  exact this
set_option maxHeartbeats 2000000 in
set_option maxRecDepth 100000 in
theorem beginJ {L1 L2 : List Pt} {b : Rc} {N : Int} (hN : jNext P R = N) (h : Jn W w ad aj rm dn L many P R) (hf : Fits P R) (hi : Inv rm L) (hl : L.length ≤ 1000) (hb : GoodR b) (hs : jSync dn L P = (0, L1)) (ha : opAppend rm dn L1 N (encR b) = (0, L2)) :
    Calls Tryz.prog 54 #[.pointer (some ⟨aj, 0, none⟩), .string ⟨b.toArray⟩] w fun e w' => e = .returned .nilIface ∧ Jn W w' ad aj rm dn L2 many (P ++ [N]) (R ++ [b]) := by
  have C1 := Lib.hid (syncJ_ok h hs hf hi hl)
  have hi1 : Hid (Inv rm L1) := Lib.hid (by have := jSync_inv (dn := dn) (P := P) hi; rw [hs] at this; exact this)
  have hl1 : Hid (L1.length ≤ 1000) := Lib.hid (by have := jSync_len (dn := dn) (P := P) hi; rw [hs] at this; simp only at this; omega)
  have hn := hf.next
  rw [hN] at hn
  have BJ := Lib.hid (fun w => bytesJ w b hb.2)
  have HE := Lib.hid (encR_length hb)
  have HF := Lib.hid hf
  have HA := Lib.hid ha
  have HB := Lib.hid hb
  have HPR := Lib.hid (And.intro hf.pl hf.rl)
  have HN := Lib.hid hN
  clear h hi hl hs ha hb hf hN
  go_enter Tryz.func54, Tryz.ntmps54
  go_wp2_with fail
  refine C1.out.mono ?_
  rintro e w1 ⟨rfl, J1⟩
  obtain ⟨vp1, vr1, g1⟩ := J1.jrg
  have C2 := Lib.hid (nextJ g1 HF.out)
  rw [HN.out] at C2
  have K1 := Lib.hid J1
  clear J1 g1 C1
  go_wp2_with fail
  refine C2.out.mono ?_
  rintro e w2 ⟨rfl, m, hm⟩
  have J2 : Hid (Jn W w2 ad aj rm dn L1 many P R) := Lib.hid (by rw [hm]; exact K1.out.still (below_drewN w1 m))
  clear hm C2 K1 vp1 vr1
  have c0 : w2.cell? ⟨aj, 0, none⟩ = some (.pointer (some ⟨ad, 0, none⟩)) := by obtain ⟨vp, vr, g⟩ := J2.out.jrg; exact g.c0
  go_wp2_with fail
  go_region_with (first
    | (go_at_call 57; refine (BJ.out _).mono ?_; rintro e w3 ⟨A3, cap3, rfl, r3, b3⟩; have q3 : Jn W w3 ad aj rm dn L1 many P R := J2.out.still ((below_drew w2).trans b3); have CA := Lib.hid (q3.append_ok HA.out r3 hi1.out hl1.out (by omega) (by have := HE.out; have := HB.out.2; omega)); have c3 : w3.cell? ⟨aj, 0, none⟩ = some (.pointer (some ⟨ad, 0, none⟩)) := (by obtain ⟨vp, vr, g⟩ := q3.jrg; exact g.c0); clear q3 r3 b3)
    | (go_at_call 55; refine CA.out.mono ?_; rintro e w4 ⟨rfl, J4⟩))
  all_goals
    clear CA
    obtain ⟨vp4, vr4, o4, g4⟩ := J4
    have q2 := g4.c2
    obtain ⟨A4, cap4, rfl, _⟩ := j_ints g4
    obtain ⟨A5, cap5, w5, r5, lt5, c05, c35, f5, o6, g6, _, _⟩ := addP o4 g4 N (by have := HPR.out.1; omega)
    obtain ⟨A6, cap6, rfl, _⟩ := ps_shape g6.rk
    obtain ⟨A7, cap7, w7, r7, lt7, c07, f7, o8, g8⟩ := addR o6 g6 b HPR.out.2
    simp only [World.size_setCell] at r7
    have R5 := Lib.hid r5
    have R7 := Lib.hid r7
    have DONE : Hid (Jn W (w7.setCell ⟨aj, 3, none⟩ (.slice A7 (R.length + 1) cap7)) ad aj rm dn L2 many (P ++ [N]) (R ++ [b])) := Lib.hid ⟨_, _, o8, g8⟩
    have lt4 := g4.lt
    clear r5 r7 o4 g4 o6 g6 o8 g8
    generalize P.length = PL at *
    generalize R.length = RL at *
    go_wp2_with (first
      | (at_builtin; refine wpList_append_two rfl (.tmp 30) (.tmp 32) 109 109 rfl _ _ _ rfl rfl R5.out ?_)
      | (at_builtin; refine wpList_append_two rfl (.tmp 40) (.tmp 42) 107 107 rfl _ _ _ rfl rfl R7.out ?_)
      | fail)
    go_ret
    exact ⟨rfl, DONE.out⟩
set_option maxHeartbeats 1000000 in
set_option maxRecDepth 100000 in
theorem appendJ_full {L1 L2 : List Pt} {b : Rc} {N : Int} {A : Option Addr} {cap : Nat} (h : Jn W w ad aj rm dn L many P R) (hm : 0 ≤ many ∧ many ≤ 1000) (hr : RdS w A cap b) (hfull : jFull many P R = true) (hN : jNext P R = N) (hf : Fits P R) (hi : Inv rm L) (hl : L.length ≤ 1000) (hb : GoodR b) (hs : jSync dn L P = (0, L1)) (ha : opAppend rm dn L1 N (encR b) = (0, L2)) :
    Calls Tryz.prog 27 #[.pointer (some ⟨aj, 0, none⟩), .slice A b.length cap] w fun e w' => e = .returned .nilIface ∧ Jn W w' ad aj rm dn L2 many (P ++ [N]) (R ++ [b]) := by
  obtain ⟨vp, vr, g⟩ := h.jrg
  have C1 := Lib.hid (enoughJ g hf hm)
  rw [hfull] at C1
  have hcv := rd_conv hr
  have b1 : ¬ (b.length : Int) < 1 := by have := hb.1; omega
  have b2 : ¬ 4096 < (b.length : Int) := by have := hb.2; omega
  have C2 := Lib.hid (fun m : Nat => beginJ hN (h.still (below_drewN w m)) hf hi hl hb hs ha)
  clear h g hr hfull hN hf hi hl hb hs ha hm
  generalize b.length = K at *
  go_enter Tryz.func27, Tryz.ntmps27
  go_wp2_with fail
  refine C1.out.mono ?_
  rintro e w1 ⟨rfl, m, rfl⟩
  go_wp2_with fail
  refine (C2.out m).mono ?_
  rintro e w2 ⟨rfl, J2⟩
  have J2 := Lib.hid J2
  go_wp2
  go_ret
  exact ⟨rfl, J2.out⟩
set_option maxHeartbeats 2000000 in
set_option maxRecDepth 100000 in
theorem appendJ_in {L2 : List Pt} {b : Rc} {A : Option Addr} {cap : Nat} (h : Jn W w ad aj rm dn L many P R) (hm : 0 ≤ many ∧ many ≤ 1000) (hr : RdS w A cap b) (hfull : jFull many P R = false) (hf : Fits P R) (hi : Inv rm L) (hl : L.length ≤ 1000) (hb : GoodR b) (ha : opAppend rm dn L (jLast P) (encR b) = (0, L2)) :
    Calls Tryz.prog 27 #[.pointer (some ⟨aj, 0, none⟩), .slice A b.length cap] w fun e w' => e = .returned .nilIface ∧ Jn W w' ad aj rm dn L2 many P (R ++ [b]) := by
  obtain ⟨vp, vr, g⟩ := h.jrg
  have C1 := Lib.hid (enoughJ g hf hm)
  rw [hfull] at C1
  have hcv := rd_conv hr
  have b1 : ¬ (b.length : Int) < 1 := by have := hb.1; omega
  have b2 : ¬ 4096 < (b.length : Int) := by have := hb.2; omega
  have hP : P ≠ [] := fun e => by subst e; cases hfull
  have hlast := hf.last
  have D := Lib.hid (fun (wx : World) (hx : Below w.heap.size w wx) => lastJ (g.still hx) hP hf.pl)
  have HE := encR_length hb
  have HB := hb.2
  have CA := Lib.hid (fun (wx : World) (hx : Below w.heap.size w wx) (B : Option Addr) (cb : Nat) (hrx : RdS wx B cb (encR b)) => (h.still hx).append_ok ha hrx hi hl (by omega) (by omega))
  have BJ := Lib.hid (fun w => bytesJ w b hb.2)
  have HPR := Lib.hid (And.intro hf.pl hf.rl)
  have c0 := g.c0
  have lt := g.lt
  have G := Lib.hid (fun (wx : World) (hx : Below w.heap.size w wx) => (g.still hx).c0)
  clear h g hr hfull hf hi hl hb ha hm HE HB hP
  generalize jLast P = x at *
  generalize b.length = K at *
  go_enter Tryz.func27, Tryz.ntmps27
  go_wp2_with fail
  refine C1.out.mono ?_
  rintro e w1 ⟨rfl, m, rfl⟩
  clear C1
  go_wp2_with fail
  go_region_with (first
    | (go_at_call 56; refine (D.out _ (by first | exact below_drewN w _ | assumption)).mono ?_; rintro e w4 ⟨rfl, m4, rfl⟩)
    | (go_at_call 57; refine (BJ.out _).mono ?_; rintro e w3 ⟨A3, cap3, rfl, r3, b3⟩; have B3 : Below w.heap.size w w3 := (below_drewN w _).trans b3; have c3 := G.out w3 B3; have K0 := Lib.hid (CA.out w3 B3 _ _ r3); have K1 := Lib.hid (fun n : Nat => CA.out (w3.drewN n) (B3.trans ((below_drewN w3 n).mono B3.size)) _ _ (r3.drew n)); clear r3 b3)
    | (go_at_call 55; (first | with_reducible refine K0.out.mono ?_ | with_reducible refine (K1.out _).mono ?_); rintro e w5 ⟨rfl, J4⟩))
  all_goals
    clear D CA BJ K0 K1 G
    obtain ⟨vp4, vr4, o4, g4⟩ := J4
    have q3 := g4.c3
    obtain ⟨A6, cap6, rfl, _⟩ := ps_shape g4.rk
    obtain ⟨A7, cap7, w7, r7, lt7, c07, f7, o8, g8⟩ := addR o4 g4 b HPR.out.2
    have R7 := Lib.hid r7
    have DONE : Hid (Jn W (w7.setCell ⟨aj, 3, none⟩ (.slice A7 (R.length + 1) cap7)) ad aj rm dn L2 many P (R ++ [b])) := Lib.hid ⟨_, _, o8, g8⟩
    have lt4 := g4.lt
    clear r7 o4 g4 o8 g8
    generalize R.length = RL at *
    go_wp2_with (first
      | (at_builtin; refine wpList_append_two rfl (.tmp 39) (.tmp 41) 107 107 rfl _ _ _ rfl rfl R7.out ?_)
      | fail)
    go_ret
    exact ⟨rfl, DONE.out⟩
end
end Go.Proofs.YtgeahpfdaehjaaaGreatDoor
namespace Go.Proofs.YtgeahpfdaehjaaaGreatDoor
open Go.ChangeShapes Go.WideShapes Go.ChangeAt Go.RowKit
set_option linter.unusedVariables false

theorem rd_first {w : World} {A : Option Addr} {cap : Nat} {l : List UInt8} (h : RdS w A cap l) : ∀ ad, A = some ad → l ≠ [] → ad.block < w.heap.size := fun ad ha hne => by
  cases l with
  | nil => exact absurd rfl hne
  | cons c l =>
    have h1 := World.block_lt_of_cell? w _ (h.rd ad ha 0 c rfl)
    rw [addr_block] at h1
    exact h1
theorem readerJ (w : World) (A : Option Addr) (cap : Nat) (l : List UInt8) (h : RdS w A cap l) :
    Calls Tryz.prog 101 #[.slice A l.length cap] w fun e w' => e = .returned (.pointer (some ⟨w.heap.size, 0, none⟩)) ∧ w' = w.alloc (.cells #[.slice A l.length cap, .int .i64 0, .bool false] 185) := by
  clear h
  go_enter Tryz.func101, Tryz.ntmps101
  go_wp2
  go_ret
  exact ⟨rfl, rfl⟩
/-- Half way through a part's bytes: the reader stands at p, the row v has the records x. -/
structure Wh (w : World) (A : Option Addr) (cap : Nat) (l : List UInt8) (p : Nat) (x : List Rc) (v : Value) (wx : World) : Prop where
  blk : wx.heap[w.heap.size]? = some (.cells #[.slice A l.length cap, .int .i64 (p : Nat), .bool false] 185 (0, 0))
  row : OS wx w.heap.size v x
  below : Below w.heap.size w wx
section
variable {w w1 w2 : World} {A : Option Addr} {cap p q : Nat} {l : List UInt8} {x : List Rc} {v : Value}
theorem Wh.rdr (h : Wh w A cap l p x v w1) (hr : RdS w A cap l) (hp : p ≤ l.length) : Rdr w1 w.heap.size A cap l ⟨p, false⟩ :=
  ⟨h.blk, hr.below h.below (Nat.le_refl _), fun ad ha hl e => by have := rd_first hr ad ha hl; omega, hp⟩
theorem Wh.text {b : Bool} (h : Wh w A cap l p x v w1) (m : w1.grownBy w2 (some w.heap.size)) : OS w2 w.heap.size v x ∧ Below w.heap.size w w2 := by
  have k : Keeps (fun g => g = w.heap.size) w1 w2 := Keeps.of_grown m (fun g e => by cases e; rfl)
  exact ⟨owns_keeps h.row k (fun g hg e => owns_off h.row h.blk (by decide) (by rw [← e]; exact hg)), h.below.trans (k.below (fun g e => by omega) h.below.size)⟩
theorem Wh.move (h : Wh w A cap l p x v w1) (m : Mr w1 w.heap.size A cap l ⟨q, false⟩ w2) : Wh w A cap l q x v w2 :=
  ⟨m.rdr.blk, (h.text (b := true) m.grown).1, (h.text (b := true) m.grown).2⟩
theorem Wh.still (h : Wh w A cap l p x v w1) (hb : Below w1.heap.size w1 w2) : Wh w A cap l p x v w2 :=
  ⟨by rw [hb.block _ (lt_of_block h.blk)]; exact h.blk, owns_keeps h.row (Keeps.of_below hb (Nat.le_refl _) (fun _ => False)) (fun _ _ e => e), h.below.trans (hb.mono h.below.size)⟩
theorem Wh.add (h : Wh w A cap l p x v w1) (r : Rc) (hl : x.length ≤ 100000) :
    ∃ A' cap' w2, (Builtin.append_ #[107, 107] 107 #[v, .slice (some ⟨w1.heap.size, 0, none⟩) 1 1]).run Tryz.prog (w1.alloc (.cells #[.string ⟨r.toArray⟩] 9)) = .ok (.slice A' (x.length + 1) cap') w2 ∧
      Wh w A cap l p (x ++ [r]) (.slice A' (x.length + 1) cap') w2 := by
  obtain ⟨v', w2, hrun, hown, hgr, _⟩ := add_str h.row r hl h.below.size
  obtain ⟨A', cap', e, _, _⟩ := owns_view hown
  rw [List.length_append, List.length_singleton] at e
  subst e
  have k : Keeps (fun g => v.ownBlock = some g) w1 w2 := ((Keeps.refl _ w1).alloc _).trans (Keeps.of_grown (F := fun g => v.ownBlock = some g) hgr (fun g e => e)) (fun g e => .inl e)
  exact ⟨A', cap', w2, hrun, keeps_out k h.blk (owns_off h.row h.blk (by decide)), hown, h.below.trans (k.below (fun g e => (owns_block h.row e).1) h.below.size)⟩
end
def WhlJ (w : World) (rs : List Rc) (e : Ending) (w' : World) : Prop :=
  ∃ A cap, e = .returned (.tuple #[.slice A rs.length cap, .int .i64 ((flat rs).length : Nat)]) ∧ OS w' w.heap.size (.slice A rs.length cap) rs ∧ Below w.heap.size w w'
theorem flat_le : ∀ (x y : List Rc), (flat x).length ≤ (flat (x ++ y)).length := fun x y => by rw [flat_app, List.length_append]; omega
theorem flat_count : ∀ (x : List Rc), x.length ≤ (flat x).length
  | [] => Nat.le_refl _
  | r :: x => by
    have := encR_pos r
    have := flat_count x
    rw [flat, List.length_append, List.length_cons]; omega
theorem text_ne {r : Rc} (h : GoodR r) : List.isEmpty r = false := by
  cases r with
  | nil => exact absurd h.1 (by simp)
  | cons c r => rfl
set_option maxRecDepth 100000 in
theorem wholeJ (w : World) (A : Option Addr) (cap : Nat) (rs : List Rc) (t : List UInt8) (hr : RdS w A cap (flat rs ++ t)) (hg : ∀ r ∈ rs, GoodR r) (ht : Torn t) (hl : (flat rs ++ t).length ≤ 65536) :
    Calls Tryz.prog 96 #[.slice A (flat rs ++ t).length cap] w (WhlJ w rs) := by
  have C0 := Lib.hid (readerJ w A cap _ hr)
  have W0 : Hid (Wh w A cap (flat rs ++ t) 0 [] (.slice none 0 0) (w.alloc (.cells #[.slice A (flat rs ++ t).length cap, .int .i64 0, .bool false] 185))) :=
    Lib.hid ⟨heap_alloc_new w _, World.ownsRow_nil _ _ _ _, (Below.refl _ w).alloc (Nat.le_refl _) _⟩
  have HR := Lib.hid hr
  have HG := Lib.hid hg
  have HT := Lib.hid ht
  have HL := Lib.hid hl
  obtain ⟨l, hel⟩ : ∃ l, flat rs ++ t = l := ⟨_, rfl⟩
  have HE := Lib.hid hel
  rw [hel] at C0 W0 HR HL ⊢
  clear hr hg ht hl hel
  generalize w.alloc (.cells #[.slice A l.length cap, .int .i64 0, .bool false] 185) = w0 at *
  go_enter Tryz.func96, Tryz.ntmps96
  go_wp2_with fail
  refine C0.out.mono ?_
  rintro e w1 ⟨rfl, rfl⟩
  clear C0
  go_wp2_with fail
  go_loopg [4, 5] (rs.length) (fun g s4 s5 wx => ∃ (x y : List Rc) (B : Option Addr) (cb : Nat), y.length = g ∧ Hid (x ++ y = rs) ∧ s4 = .slice B x.length cb ∧ s5 = .int .i64 ((flat x).length : Nat) ∧ Hid (Wh w A cap l (flat x).length x s4 wx))
  case atStart => exact ⟨[], rs, none, 0, rfl, Lib.hid rfl, rfl, rfl, W0⟩
  case round =>
    clear W0
    obtain ⟨x, y, B, cb, hy, HX, rfl, rfl, HW⟩ := hrel
    have hxl : (flat x).length ≤ l.length := by rw [← HE.out, ← HX.out, flat_app, List.append_assoc, List.length_append]; omega
    have hx1 := flat_count x
    have hle := HL.out
    have C1 := wireReadText wr w.heap.size A cap l ⟨(flat x).length, false⟩ 4096 (HW.out.rdr HR.out hxl) (by omega) (by omega) (by omega)
    unfold Texts at C1
    cases y with
    | nil =>
      have hz := read_torn x t HT.out
      have hxr : x = rs := by have := HX.out; simpa using this
      rw [hxr, HE.out, ← hxr] at hz
      have K1 : Hid (∀ w2, Mr wr w.heap.size A cap l (rsText l 4096 ⟨(flat x).length, false⟩).2 w2 → WhlJ w rs (.returned (.tuple #[.slice B x.length cb, .int .i64 ((flat x).length : Nat)])) w2) := Lib.hid (fun w2 m => by
        have h2 := HW.out.text (b := true) m.grown
        rw [← hxr]
        exact ⟨B, cb, rfl, h2.1, h2.2⟩)
      rw [hz] at C1
      have C1 := Lib.hid C1
      clear hz hxr HX hxl
      generalize (flat x).length = N at *
      generalize x.length = M at *
      go_wp2_with fail
      refine C1.out.mono ?_
      rintro e w2 ⟨rfl, m2⟩
      have F2 := Lib.hid (K1.out w2 m2)
      clear C1 K1 m2
      go_wp2_with fail
      go_ret2
      exact F2.out
    | cons r y =>
      obtain ⟨g, rfl⟩ : ∃ g, gk = g + 1 := ⟨y.length, by simpa using hy.symm⟩
      have hrg : GoodR r := HG.out r (by rw [← HX.out]; simp)
      have hz := read_next x r (flat y ++ t) hrg
      have hl' : flat x ++ (encR r ++ (flat y ++ t)) = l := by rw [← HE.out, ← HX.out, flat_app, flat, List.append_assoc, List.append_assoc]
      rw [hl'] at hz
      rw [hz] at C1
      simp only at C1
      have hnx : (flat (x ++ [r])).length = (flat x).length + (encR r).length := by rw [flat_snoc, List.length_append]
      have hb : (flat x).length + (encR r).length ≤ 65536 := by
        have := congrArg List.length hl'
        simp only [List.length_append] at this
        omega
      have hne := text_ne hrg
      have HX2 : Hid ((x ++ [r]) ++ y = rs) := Lib.hid (by rw [← HX.out]; simp)
      have C1 := Lib.hid C1
      have BJ := Lib.hid (fun w => bytesJ w r hrg.2)
      have HN := Lib.hid hnx
      have HM : Hid ((x ++ [r]).length = x.length + 1) := Lib.hid (by simp)
      clear hz hl' hnx HX hrg hxl
      go_wp2_with fail
      refine C1.out.mono ?_
      rintro e w2 ⟨rfl, m2⟩
      obtain ⟨A3, cap3, w3, r3, h3⟩ := (HW.out.move m2).add r (by omega)
      have R3 := Lib.hid r3
      have H3 := Lib.hid h3
      clear r3 h3 m2 C1 HW
      generalize hN : (flat x).length = N at *
      generalize hM : x.length = M at *
      generalize hK : (encR r).length = K at *
      go_wp2_with (first
        | (at_builtin; refine wpList_append_two rfl (.tmp 16) (.tmp 18) 107 107 rfl _ _ _ rfl rfl R3.out ?_)
        | ((go_at_call 57; refine (BJ.out _).mono ?_); rintro e w4 ⟨A4, cap4, rfl, _, b4⟩; have B4 := Lib.hid b4; clear b4)
        | fail)
      go_roundg g
      case rel => exact ⟨x ++ [r], y, A3, cap3, by simpa using hy, HX2, by rw [HM.out], by rw [HN.out]; go_num, Lib.hid (H3.out.still B4.out)⟩
      case measure => simp at hy; omega
end Go.Proofs.YtgeahpfdaehjaaaGreatDoor
namespace Go.Proofs.YtgeahpfdaehjaaaGreatDoor
open Go.ChangeShapes Go.WideShapes Go.ChangeAt Go.RowKit
set_option linter.unusedVariables false

section
variable {W : Fr} {w : World} {ad aj rm : Nat} {dn : Bool} {L : List Pt} {many : Int} {P : List Int} {R : List Rc} {y : Value} {ps : List Int}
theorem Jy.read (h : Jy W w ad aj rm dn L many P R y ps) {n : Int} {l : List UInt8} (hi : Inv rm L) (h0 : -9223372036854775808 ≤ n) (h1 : n ≤ 9223372036854775807) (hr : opRead dn L n = (0, l)) :
    Calls Tryz.prog 95 #[.pointer (some ⟨ad, 0, none⟩), .int .i64 n] w fun e w' => ∃ A cap, e = .returned (.tuple #[.slice A l.length cap, .nilIface]) ∧ RdS w' A cap l ∧ Jy W w' ad aj rm dn L many P R y ps := by
  obtain ⟨_, _, ⟨F, h2, h3⟩, _⟩ := id h
  have := readD w F ad rm dn L n h2 hi h0 h1
  rw [hr] at this
  refine this.mono ?_
  rintro e w' ⟨v, rfl, o, b⟩
  obtain ⟨A, cap, rfl, r⟩ := o.rd
  exact ⟨A, cap, rfl, r, h.still b⟩
theorem Jy.cut_ok (h : Jy W w ad aj rm dn L many P R y ps) {n m : Int} {L' : List Pt} (hi : Inv rm L) (hl : L.length ≤ 1000) (h0 : -9223372036854775808 ≤ n) (h1 : n ≤ 9223372036854775807) (hc : opCut dn L n m = (0, L')) :
    Calls Tryz.prog 97 #[.pointer (some ⟨ad, 0, none⟩), .int .i64 n, .int .i64 m] w fun e w' => e = .returned .nilIface ∧ Jy W w' ad aj rm dn L' many P R y ps := by
  have := h.dsk (L' := (opCut dn L n m).2) (dn' := dn) (E := fun e => e = .returned (ErrV (opCut dn L n m).1)) (fun F hF => cutD w F ad rm dn L n m hF hi hl h0 h1)
  rw [hc] at this
  exact this
set_option maxHeartbeats 1000000 in
set_option maxRecDepth 100000 in
theorem takeJ {rs : List Rc} {t : List UInt8} {L' : List Pt} {n : Int} (h : Jy W w ad aj rm dn L many P R y ps) (hi : Inv rm L) (hl : L.length ≤ 1000) (h0 : 0 ≤ n) (h1 : n ≤ 4611686018427387904)
    (hr : opRead dn L n = (0, flat rs ++ t)) (hg : ∀ r ∈ rs, GoodR r) (ht : Torn t) (hc : opCut dn L n ((flat rs).length : Nat) = (0, L')) (hP : P.length ≤ 1000) (hR : R.length + rs.length ≤ 200000) (hb : (flat rs ++ t).length ≤ 65536) :
    Calls Tryz.prog 74 #[.pointer (some ⟨aj, 0, none⟩), .int .i64 n] w fun e w' => e = .returned .nilIface ∧ Jy W w' ad aj rm dn L' many (P ++ [n]) (R ++ rs) y ps := by
  have c0 : w.cell? ⟨aj, 0, none⟩ = some (.pointer (some ⟨ad, 0, none⟩)) := by obtain ⟨_, _, _, g, _⟩ := h; exact g.c0
  have C1 := Lib.hid (h.read hi (by omega) (by omega) hr)
  have CW := Lib.hid (fun (w : World) (A : Option Addr) (cap : Nat) (hr : RdS w A cap (flat rs ++ t)) => wholeJ w A cap rs t hr hg ht hb)
  have CC := Lib.hid (fun (w : World) (P : List Int) (R : List Rc) (h : Jy W w ad aj rm dn L many P R y ps) => h.cut_ok hi hl (by omega) (by omega) hc)
  have HP := Lib.hid hP
  have HR := Lib.hid hR
  have hbn : (flat rs).length ≤ 65536 := by rw [List.length_append] at hb; omega
  clear h hi hl hr hg ht hc hP hR hb
  unfold WhlJ at CW
  generalize (flat rs ++ t).length = M at *
  generalize (flat rs).length = N at *
  go_enter Tryz.func74, Tryz.ntmps74
  go_wp2_with fail
  refine C1.out.mono ?_
  rintro e w1 ⟨A1, cap1, rfl, r1, J1⟩
  have CW1 := Lib.hid (CW.out w1 A1 cap1 r1)
  obtain ⟨vp1, vr1, o1, g1, hy1, hd1⟩ := J1
  have K1 := Lib.hid (And.intro o1 (And.intro g1 (And.intro hy1 hd1)))
  clear r1 C1 CW o1 g1 hy1 hd1
  go_wp2_with fail
  refine CW1.out.mono ?_
  rintro e w2 ⟨A2, cap2, rfl, o2, b2⟩
  obtain ⟨o1, g1, hy1, hd4⟩ := K1.out
  have o4 := o1.still b2
  have g4 := g1.still b2
  have hy4 : OI w2 0 y ps := owns_keeps hy1 (Keeps.of_below b2 (Nat.le_refl _) (fun _ => False)) (fun _ _ e => e)
  have q2 := g4.c2
  obtain ⟨A4, cap4, rfl, _⟩ := j_ints g4
  obtain ⟨A5, cap5, w5, r5, lt5, c05, c35, f5, o6, g6, k6, u6⟩ := addP o4 g4 n (by have := HP.out; omega)
  obtain ⟨A6, cap6, rfl, _⟩ := ps_shape g6.rk
  have hy6 := oi_keeps hy4 g4 hd4 k6
  have hd6 : ∀ x, y.ownBlock = some x → (Value.slice A5 (P.length + 1) cap5).ownBlock ≠ some x := fun x hx e => by
    rcases u6 x e with e | e
    · exact hd4 x hx e
    · have := (owns_block hy4 hx).2.1; omega
  have o2' : OS (w5.setCell ⟨aj, 2, none⟩ (.slice A5 (P.length + 1) cap5)) w1.heap.size (.slice A2 rs.length cap2) rs :=
    owns_keeps o2 k6 (fun x hx hf => by
      rcases hf with rfl | e | e
      · exact owns_off o2 g4.blk (by decide) hx
      · exact OwnO.ne (.of o2) g4.pk (by decide) hx e
      · have h1 := (owns_block o2 hx).1
        have h2 := (OwnO.block g1.rk e).2.1
        omega)
  obtain ⟨A7, cap7, w7, r7, lt7, c07, f7, o8, g8, k8⟩ := addRs o6 g6 o2' (by have := HR.out; omega)
  have J8 : Jy W (w7.setCell ⟨aj, 3, none⟩ (.slice A7 (R.length + rs.length) cap7)) ad aj rm dn L many (P ++ [n]) (R ++ rs) y ps := ⟨_, _, o8, g8, oi_keeps hy6 g6 hd6 k8, hd6⟩
  have C8 := Lib.hid (CC.out _ _ _ J8)
  have R5 := Lib.hid r5
  have R7 := Lib.hid r7
  have lt4 := g4.lt
  clear r5 r7 o1 g1 hy1 o4 g4 o6 g6 o8 g8 hy4 hd4 hy6 hd6 k6 u6 k8 J8 K1 CW1 o2 o2' b2 CC HP HR
  generalize P.length = PL at *
  generalize R.length = RL at *
  generalize rs.length = SL at *
  go_wp2_with (first
    | (at_builtin; refine wpList_append_two rfl (.tmp 30) (.tmp 32) 109 109 rfl _ _ _ rfl rfl R5.out ?_)
    | (at_builtin; refine wpList_append_two rfl (.tmp 40) (.tmp 41) 107 107 rfl _ _ _ rfl rfl R7.out ?_)
    | ((go_at_call 97; refine C8.out.mono ?_); rintro e w9 ⟨rfl, J9⟩)
    | fail)
  go_ret
  exact ⟨rfl, J9⟩
end
end Go.Proofs.YtgeahpfdaehjaaaGreatDoor
namespace Go.Proofs.YtgeahpfdaehjaaaGreatDoor
open Go.ChangeShapes Go.WideShapes Go.ChangeAt Go.RowKit
set_option linter.unusedVariables false

/-- Parts that hold whole records, torn bytes behind them, and leave no gap. -/
structure Segs (G : List Sg) : Prop where
  good : ∀ g ∈ G, g.Good
  chain : ∃ n, Chain n G
  lo : ∀ g ∈ G, 0 ≤ g.n ∧ g.n ≤ 4611686018427387904
  len : G.length ≤ 1000
  rl : (recs G).length ≤ 100000
theorem chain_at {g : Sg} {Y : List Sg} : ∀ (X : List Sg) (n : Int), Chain n (X ++ g :: Y) → g.n = n + ((recs X).length : Nat)
  | [], n, h => by
    have := h.1
    rw [recs_nil]; simp; exact this
  | x :: X, n, h => by
    have := chain_at X _ h.2
    rw [recs_cons, List.length_append]
    omega
theorem chain_first {G : List Sg} {g : Sg} {n : Int} (h : Chain n (g :: G)) : g.n = n := h.1
theorem seg_next {G X Y : List Sg} {g : Sg} (h : Segs G) (hG : X ++ g :: Y = G) (hX : X ≠ []) : jNext (X.map (·.n)) (recs X) = g.n := by
  obtain ⟨n, hc⟩ := h.chain
  rw [← hG] at hc
  have h1 := chain_at X n hc
  cases X with
  | nil => exact absurd rfl hX
  | cons x X =>
    have h2 : x.n = n := hc.1
    unfold jNext jFirst
    simp only [List.map_cons, List.headD_cons]
    rw [h1, h2]
theorem seg_fits {G X Y : List Sg} (h : Segs G) (hG : X ++ Y = G) : Fits (X.map (·.n)) (recs X) where
  lo n hn := by
    obtain ⟨g, hg, rfl⟩ := List.mem_map.1 hn
    exact h.lo g (by rw [← hG]; simp [hg])
  pl := by have := h.len; rw [← hG, List.length_append] at this; rw [List.length_map]; omega
  rl := by have := h.rl; rw [← hG, recs_app, List.length_append] at this; omega
section
variable {X Y : List Sg} {g : Sg}
/-- Half way: the parts ahead have been cut. -/
def half (X Y : List Sg) : List Pt := X.map Sg.cut ++ Y.map Sg.pt
theorem half_cons : half X (g :: Y) = X.map Sg.cut ++ g.pt :: Y.map Sg.pt := rfl
theorem half_next : half (X ++ [g]) Y = X.map Sg.cut ++ g.cut :: Y.map Sg.pt := by unfold half; rw [List.map_append, List.append_assoc]; rfl
theorem half_all (X : List Sg) : half X [] = X.map Sg.cut := by unfold half; simp
theorem half_read (h : Rises (half X (g :: Y))) : opRead false (half X (g :: Y)) g.n = (0, flat g.rs ++ g.t) := by
  rw [half_cons] at h ⊢
  have hf := find_has (n := g.n) (q := g.pt) (y := Y.map Sg.pt) rfl (fun p hp => h.mid.1 p hp)
  unfold opRead
  rw [if_pos (miss_some hf), bytes_some hf]
  rfl
theorem half_cut (h : Rises (half X (g :: Y))) : opCut false (half X (g :: Y)) g.n ((flat g.rs).length : Nat) = (0, half (X ++ [g]) Y) := by
  rw [half_next, half_cons] at *
  have hx := fun p hp => h.mid.1 p hp
  have hf := find_has (n := g.n) (q := g.pt) (y := Y.map Sg.pt) rfl hx
  unfold opCut
  rw [if_pos (miss_some hf), len_some hf, if_neg (by
    have : (g.pt).b.length = (flat g.rs).length + g.t.length := by show (flat g.rs ++ g.t).length = _; rw [List.length_append]
    omega), upd_has (n := g.n) (q := g.pt) rfl hx]
  have e : cutP g.n ((flat g.rs).length : Int).toNat (some g.pt) = g.cut := by
    unfold cutP Sg.cut Sg.pt
    simp only [Int.toNat_natCast, List.take_left]
  rw [e]
theorem half_len : (half X Y).length = X.length + Y.length := by unfold half; simp
end
section
variable {W : Fr} {w : World} {ad aj rm : Nat} {many : Int} {y : Value}
set_option maxHeartbeats 1000000 in
set_option maxRecDepth 100000 in
theorem takeAllJ {G : List Sg} (h : Jy W w ad aj rm false (G.map Sg.pt) many [] [] y (G.map (·.n))) (hi : Inv rm (G.map Sg.pt)) (hs : Segs G) :
    Calls Tryz.prog 47 #[.pointer (some ⟨aj, 0, none⟩), y] w fun e w' => e = .returned .nilIface ∧ Jn W w' ad aj rm false (G.map Sg.cut) many (G.map (·.n)) (recs G) := by
  obtain ⟨A, cap, rfl, hA⟩ : ∃ A cap, y = .slice A (G.map (·.n)).length cap ∧ ∀ (i : Nat) (n : Int), (G.map (·.n))[i]? = some n → ∃ g, A = some ⟨g, 0, none⟩ := by
    obtain ⟨_, _, _, _, hy, _⟩ := h
    exact oi_shape hy
  have H := Lib.hid h
  have HI := Lib.hid hi
  have HS := Lib.hid hs
  have HA := Lib.hid hA
  have hlen := hs.len
  have HM : Hid ((G.map (·.n)).length = G.length) := Lib.hid (by simp)
  rw [HM.out] at H ⊢
  clear h hi hs hA
  go_enter Tryz.func47, Tryz.ntmps47
  go_wp2_with fail
  go_loopg [10] (G.length) (fun k s10 wx => ∃ (X Y : List Sg) (K : Nat), Y.length = k ∧ Hid (X ++ Y = G) ∧ Hid (X.length = K) ∧ s10 = .int .i64 (K : Nat) ∧ Hid (Inv rm (half X Y)) ∧ Hid (Jy W wx ad aj rm false (half X Y) many (X.map (·.n)) (recs X) (.slice A G.length cap) (G.map (·.n))))
  case atStart => exact ⟨[], G, 0, rfl, Lib.hid rfl, Lib.hid rfl, rfl, HI, H⟩
  case round =>
    clear H HI
    obtain ⟨X, Y, K, hY, HX, HK, rfl, HI, HJ⟩ := hrel
    cases Y with
    | nil =>
      have hXG : X = G := by have := HX.out; simpa using this
      have x1 : ¬ K < G.length := by rw [← HK.out, hXG]; omega
      have FIN : Hid (Jn W wr ad aj rm false (G.map Sg.cut) many (G.map (·.n)) (recs G)) := Lib.hid (by
        have := HJ.out.jn
        rw [half_all, hXG] at this
        exact this)
      clear HX HI HJ hXG HK
      go_wp2_with fail
      go_ret
      exact ⟨rfl, FIN.out⟩
    | cons g Y =>
      obtain ⟨k, rfl⟩ : ∃ k, gk = k + 1 := ⟨Y.length, by simpa using hY.symm⟩
      have hlt : K < G.length := by rw [← HK.out, ← HX.out, List.length_append, List.length_cons]; omega
      have x1 : decide ((K : Int) < (G.length : Int)) = true := decide_eq_true (by omega)
      have hgi : (G.map (·.n))[K]? = some g.n := by rw [← HK.out, ← HX.out]; simp
      obtain ⟨ga, rfl⟩ := HA.out _ _ hgi
      have hgG : g ∈ G := by rw [← HX.out]; simp
      have hlo := HS.out.lo g hgG
      have hc : wr.cell? ⟨ga, K, none⟩ = some (.int .i64 g.n) := by
        obtain ⟨_, _, _, _, hy, _⟩ := HJ.out
        exact oi_cell hy hgi
      have hgood := HS.out.good g hgG
      have hmem : g.pt ∈ half X (g :: Y) := by rw [half_cons]; simp
      have hfits := used_mem hmem
      have hi := HI.out
      have hf1 := hi.fits
      have hf2 := hi.room
      have hbl : (flat g.rs ++ g.t).length ≤ 65536 := by
        have : g.pt.b = flat g.rs ++ g.t := rfl
        rw [this] at hfits; omega
      have hF : Hid (Fits (X.map (·.n)) (recs X)) := Lib.hid (seg_fits HS.out HX.out)
      have hrl : (recs X).length + g.rs.length ≤ 200000 := by
        have := HS.out.rl
        rw [← HX.out, recs_app, recs_cons, List.length_append, List.length_append] at this
        omega
      have hXl : (half X (g :: Y)).length ≤ 1000 := by rw [half_len]; have := congrArg List.length HX.out; rw [List.length_append] at this; omega
      have CT := Lib.hid (fun (wx : World) (hb : Below wr.heap.size wr wx) => takeJ (HJ.out.still hb) hi hXl hlo.1 hlo.2 (half_read hi.rise) hgood.good hgood.torn (half_cut hi.rise) hF.out.pl hrl hbl)
      have HI2 : Hid (Inv rm (half (X ++ [g]) Y)) := Lib.hid (by have := cut_inv (dn := false) (n := g.n) (m := ((flat g.rs).length : Nat)) hi; rw [half_cut hi.rise] at this; exact this)
      have HX2 : Hid ((X ++ [g]) ++ Y = G) := Lib.hid (by rw [← HX.out]; simp)
      have HL2 : Hid ((X ++ [g]).length = K + 1) := Lib.hid (by rw [← HK.out]; simp)
      have HP2 : Hid ((X ++ [g]).map (·.n) = X.map (·.n) ++ [g.n]) := Lib.hid (by simp)
      have HR2 : Hid (recs (X ++ [g]) = recs X ++ g.rs) := Lib.hid (by rw [recs_app, recs_cons, recs_nil, List.append_nil])
      rcases Nat.eq_zero_or_pos K with rfl | h0
      · have x2 : 0 < G.length := hlt
        clear x1
        have C0 := Lib.hid (CT.out wr (Below.refl _ _))
        clear hfits hmem hi hf1 hf2 hbl hrl hXl hgood hgi hgG CT HX HI hF hlt HK
        go_wp2_with fail
        refine C0.out.mono ?_
        rintro e w2 ⟨rfl, J2⟩
        have J3 : Hid (Jy W w2 ad aj rm false (half (X ++ [g]) Y) many ((X ++ [g]).map (·.n)) (recs (X ++ [g])) (.slice (some ⟨ga, 0, none⟩) G.length cap) (G.map (·.n))) := Lib.hid (by rw [HP2.out, HR2.out]; exact J2)
        clear C0 J2
        go_wp2_with fail
        go_roundg k
        case rel => exact ⟨X ++ [g], Y, 1, by simpa using hY, HX2, HL2, rfl, HI2, J3⟩
        case measure => simp at hY; omega
      · have hX0 : X ≠ [] := fun e => by have := HK.out; subst e; simp at this; omega
        have hnx := seg_next HS.out HX.out hX0
        have CN : Hid (Calls Tryz.prog 25 #[.pointer (some ⟨aj, 0, none⟩)] wr fun e w' => e = .returned (.int .i64 g.n) ∧ ∃ m, w' = wr.drewN m) := Lib.hid (by
          obtain ⟨_, vp, vr, gj, _⟩ := HJ.out
          have := nextJ gj hF.out
          rw [hnx] at this
          exact this)
        have C0 := Lib.hid (fun m : Nat => CT.out (wr.drewN m) (below_drewN wr m))
        have x2 : (0 : Int) < (K : Int) := by omega
        clear hfits hmem hi hf1 hf2 hbl hrl hXl hgood hgi hgG CT HX HI hF hX0 hnx HK
        go_wp2_with fail
        refine CN.out.mono ?_
        rintro e w1 ⟨rfl, m, rfl⟩
        go_wp2_with fail
        refine (C0.out m).mono ?_
        rintro e w2 ⟨rfl, J2⟩
        have J3 : Hid (Jy W w2 ad aj rm false (half (X ++ [g]) Y) many ((X ++ [g]).map (·.n)) (recs (X ++ [g])) (.slice (some ⟨ga, 0, none⟩) G.length cap) (G.map (·.n))) := Lib.hid (by rw [HP2.out, HR2.out]; exact J2)
        clear C0 J2 CN
        go_wp2_with fail
        go_roundg k
        case rel => exact ⟨X ++ [g], Y, K + 1, by simpa using hY, HX2, HL2, by go_num, HI2, J3⟩
        case measure => simp at hY; omega
theorem openNil (w : World) (n : Int) :
    Calls Tryz.prog 20 #[.pointer none, .int .i64 n] w fun e w' => e = .returned (.tuple #[.pointer none, errV 1]) ∧ w' = w := by
  go_enter Tryz.func20, Tryz.ntmps20
  go_wp2
  go_ret2
  exact ⟨rfl, rfl⟩
theorem openBad (w : World) (a : Nat) (n : Int) (h : n < 1 ∨ 100 < n) :
    Calls Tryz.prog 20 #[.pointer (some ⟨a, 0, none⟩), .int .i64 n] w fun e w' => e = .returned (.tuple #[.pointer none, errV 1]) ∧ w' = w := by
  rcases h with h | h
  · go_enter Tryz.func20, Tryz.ntmps20
    go_wp2
    go_ret2
    exact ⟨rfl, rfl⟩
  · have h1 : ¬ n < 1 := by omega
    go_enter Tryz.func20, Tryz.ntmps20
    go_wp2
    go_ret2
    exact ⟨rfl, rfl⟩
theorem OwnZ.parts {G : Nat → Prop} {dn : Bool} {L : List Pt} (h : OwnZ W w G ad rm dn L) (hi : Inv rm L) (hl : L.length ≤ 1000) :
    Calls Tryz.prog 48 #[.pointer (some ⟨ad, 0, none⟩)] w fun e w' => ∃ v, e = .returned v ∧ OI w' w.heap.size v (nums L) ∧ Below w.heap.size w w' := by
  obtain ⟨F, h1, _⟩ := h
  exact partsD w F ad rm dn L h1 hi.rise hl
theorem OwnZ.up {G : Nat → Prop} {dn : Bool} {L : List Pt} (h : OwnZ W w G ad rm dn L) :
    Calls Tryz.prog 46 #[.pointer (some ⟨ad, 0, none⟩)] w fun e w' => e = .returned (.tuple #[]) ∧ OwnZ W w' G ad rm false L :=
  h.dsk fun F hF => (up_walk w F ad rm dn L hF).mono fun e w' ⟨h1, h2, h3⟩ => ⟨h1, F, h2, h3⟩
theorem nums_pt (G : List Sg) : nums (G.map Sg.pt) = G.map (·.n) := by unfold nums; rw [List.map_map]; rfl
set_option maxRecDepth 100000 in
theorem openJ {dn : Bool} {G : List Sg} (h : OwnZ W w (fun _ => False) ad rm dn (G.map Sg.pt)) (hi : Inv rm (G.map Sg.pt)) (hs : Segs G) (hm : 1 ≤ many ∧ many ≤ 100) :
    Calls Tryz.prog 20 #[.pointer (some ⟨ad, 0, none⟩), .int .i64 many] w fun e w' => ∃ aj, e = .returned (.tuple #[.pointer (some ⟨aj, 0, none⟩), .nilIface]) ∧ Jn W w' ad aj rm false (G.map Sg.cut) many (G.map (·.n)) (recs G) := by
  have CU := Lib.hid h.up
  have HI := Lib.hid hi
  have HS := Lib.hid hs
  have h1 : ¬ many < 1 := by omega
  have h2 : ¬ 100 < many := by omega
  have hl : Hid ((G.map Sg.pt).length ≤ 1000) := Lib.hid (by rw [List.length_map]; exact hs.len)
  clear h hi hs hm
  go_enter Tryz.func20, Tryz.ntmps20
  go_wp2_with fail
  refine CU.out.mono ?_
  rintro e w1 ⟨rfl, o1⟩
  have o2 : OwnZ W (w1.alloc (.cells (jrCells ad many (.slice none 0 0) (.slice none 0 0)) 111)) (jfoot w1.heap.size (.slice none 0 0) (.slice none 0 0)) ad rm false (G.map Sg.pt) := o1.more ((Below.refl _ _).alloc (Nat.le_refl _) _) (fun g hg => by
    rcases hg with rfl | e | e
    · exact .inr (Nat.le_refl _)
    · cases e
    · cases e)
  have g2 : JrG (w1.alloc (.cells (jrCells ad many (.slice none 0 0) (.slice none 0 0)) 111)) 0 ad w1.heap.size many (.slice none 0 0) (.slice none 0 0) [] [] :=
    ⟨heap_alloc_new w1 _, Nat.zero_le _, PI.nil _ _, PS.nil _ _⟩
  have CP := Lib.hid (o2.parts HI.out hl.out)
  have K := Lib.hid (And.intro o2 g2)
  unfold jrCells at CP K
  clear o1 o2 g2 CU
  go_wp2_with fail
  refine CP.out.mono ?_
  rintro e w3 ⟨y, rfl, hy, b3⟩
  rw [nums_pt] at hy
  have J3 : Jy W w3 ad w1.heap.size rm false (G.map Sg.pt) many [] [] y (G.map (·.n)) := ⟨_, _, K.out.1.still b3, K.out.2.still b3, owns_mono hy (Nat.zero_le _), fun x _ e => by cases e⟩
  have CT := Lib.hid (takeAllJ J3 HI.out HS.out)
  clear CP K hy b3 J3
  go_wp2_with fail
  refine CT.out.mono ?_
  rintro e w4 ⟨rfl, J4⟩
  have J4 := Lib.hid J4
  clear CT
  go_wp2
  go_ret2
  exact ⟨_, rfl, J4.out⟩
end
end Go.Proofs.YtgeahpfdaehjaaaGreatDoor
namespace Go.Proofs.YtgeahpfdaehjaaaGreatDoor
open Go.ChangeShapes Go.WideShapes Go.ChangeAt Go.RowKit
set_option linter.unusedVariables false

theorem recs_snoc (X : List Sg) (g : Sg) : recs (X ++ [g]) = recs X ++ g.rs := by rw [recs_app, recs_cons, recs_nil, List.append_nil]
theorem chain_snoc {g g' : Sg} (hn : g'.n = g.n) : ∀ (X : List Sg) (n : Int), Chain n (X ++ [g]) → Chain n (X ++ [g'])
  | [], n, h => ⟨by rw [hn]; exact h.1, trivial⟩
  | x :: X, n, h => ⟨h.1, chain_snoc hn X _ h.2⟩
theorem chain_more {g : Sg} : ∀ (X : List Sg) (n : Int), Chain n X → g.n = n + ((recs X).length : Nat) → Chain n (X ++ [g])
  | [], n, _, h => ⟨by rw [recs_nil] at h; simpa using h, trivial⟩
  | x :: X, n, hc, h => ⟨hc.1, chain_more X _ hc.2 (by rw [recs_cons, List.length_append] at h; omega)⟩
theorem recs_count : ∀ (G : List Sg), (∀ f ∈ G, f.rs ≠ []) → G.length ≤ (recs G).length
  | [], _ => Nat.le_refl _
  | g :: G, h => by
    have h1 := recs_count G (fun f hf => h f (by simp [hf]))
    have h2 := List.length_pos_iff.2 (h g (by simp))
    rw [recs_cons, List.length_append, List.length_cons]; omega
theorem used_pts : ∀ (G : List Sg), (∀ f ∈ G, f.t = []) → used (G.map Sg.pt) = (flat (recs G)).length
  | [], _ => rfl
  | g :: G, h => by
    rw [List.map_cons, used_cons, used_pts G (fun f hf => h f (by simp [hf])), recs_cons, flat_app, List.length_append]
    have : g.pt.b = flat g.rs := by show flat g.rs ++ g.t = _; rw [h g (by simp), List.append_nil]
    rw [this]
section
variable {X G : List Sg} {g : Sg} {rm : Nat} {b : Rc}
theorem last_pt (X : List Sg) (g : Sg) (x : Pt) : (X ++ [g]).map Sg.pt = X.map Sg.pt ++ g.pt :: [] := by rw [List.map_append]; rfl
theorem jLast_snoc (X : List Sg) (g : Sg) : jLast ((X ++ [g]).map (·.n)) = g.n := by unfold jLast; rw [List.map_append]; simp
theorem rises_lt {X : List Sg} {g : Sg} (h : Rises ((X ++ [g]).map Sg.pt)) : ∀ p ∈ X.map Sg.pt, p.n < g.n := by
  rw [List.map_append] at h
  exact (h.mid (q := g.pt) (y := [])).1
theorem sync_last (h : Rises ((X ++ [g]).map Sg.pt)) : jSync false ((X ++ [g]).map Sg.pt) ((X ++ [g]).map (·.n)) = (0, (X ++ [(⟨g.n, g.rs, g.t, (flat g.rs ++ g.t).length⟩ : Sg)]).map Sg.pt) := by
  have hx := rises_lt h
  unfold jSync
  rw [if_neg (by simp), jLast_snoc]
  rw [List.map_append, List.map_append]
  have hf := find_has (n := g.n) (q := g.pt) (y := []) rfl hx
  unfold opSync
  rw [show List.map Sg.pt [g] = [g.pt] from rfl, if_pos (miss_some hf), upd_has (n := g.n) (q := g.pt) rfl hx]
  rfl
theorem append_last (h : Rises ((X ++ [g]).map Sg.pt)) (hn : 0 ≤ g.n) (ht : g.t = []) (hr : (encR b).length ≤ rm - used ((X ++ [g]).map Sg.pt)) :
    opAppend rm false ((X ++ [g]).map Sg.pt) g.n (encR b) = (0, (X ++ [(⟨g.n, g.rs ++ [b], g.t, g.s⟩ : Sg)]).map Sg.pt) := by
  have hx := rises_lt h
  unfold opAppend
  rw [if_neg (by simp), if_neg (by omega), if_neg (by omega), List.map_append, List.map_append, show List.map Sg.pt [g] = [g.pt] from rfl, upd_has (n := g.n) (q := g.pt) rfl hx]
  unfold joinP Sg.pt
  simp only [List.map_cons, List.map_nil, ht, List.append_nil, flat_snoc]
theorem append_fresh {n : Int} (hn : 0 ≤ n) (hx : ∀ p ∈ G.map Sg.pt, p.n < n) (hr : (encR b).length ≤ rm - used (G.map Sg.pt)) :
    opAppend rm false (G.map Sg.pt) n (encR b) = (0, (G ++ [(⟨n, [b], [], 0⟩ : Sg)]).map Sg.pt) := by
  unfold opAppend
  rw [if_neg (by simp), if_neg (by omega), if_neg (by omega), List.map_append]
  have := upd_no (n := n) (f := joinP n (encR b)) (y := []) (by simp) hx
  rw [List.append_nil] at this
  rw [this]
  unfold joinP Sg.pt
  simp only [List.map_cons, List.map_nil, List.append_nil, flat_one]
end
end Go.Proofs.YtgeahpfdaehjaaaGreatDoor
namespace Go.Proofs.YtgeahpfdaehjaaaGreatDoor
open Go.ChangeShapes Go.WideShapes Go.ChangeAt Go.RowKit
set_option linter.unusedVariables false

/-- Any bytes are whole records, and what is torn. -/
theorem parse_all : ∀ (n : Nat) (l : List UInt8), l.length ≤ n → ∃ rs t, l = flat rs ++ t ∧ (∀ r ∈ rs, GoodR r) ∧ Torn t
  | 0, l, h => by
    obtain rfl : l = [] := List.length_eq_zero_iff.1 (by omega)
    exact ⟨[], [], rfl, by simp, torn_nil⟩
  | n + 1, l, h => by
    rcases hd : decF 0 0 l with _ | ⟨m, k⟩
    · exact ⟨[], l, rfl, by simp, fun a b e => by rw [hd] at e; cases e⟩
    · by_cases hb : m = 0 ∨ 4096 < m ∨ l.length - k < m
      · exact ⟨[], l, rfl, by simp, fun a b e => by
          rw [hd] at e
          simp only [Option.some.injEq, Prod.mk.injEq] at e
          obtain ⟨rfl, rfl⟩ := e
          exact hb⟩
      · obtain ⟨m', h1, h2, h3, _⟩ := dec_inv l 0 0 m k hd
        simp only [Nat.pow_zero, Nat.mul_one, Nat.zero_add] at h1 h2
        subst h1
        rw [Nat.sub_zero] at h3
        have hk : (enc m).length = k := h2.symm
        have hl : (l.drop k).length = l.length - k := List.length_drop
        have hr : ((l.drop k).take m).length = m := by rw [List.length_take]; omega
        have e : l = encR ((l.drop k).take m) ++ (l.drop k).drop m := by
          unfold encR
          rw [hr, List.append_assoc, List.take_append_drop]
          exact h3
        have hlen : ((l.drop k).drop m).length ≤ n := by rw [List.length_drop, hl]; omega
        obtain ⟨rs, t, e2, hg, ht⟩ := parse_all n _ hlen
        refine ⟨(l.drop k).take m :: rs, t, ?_, ?_, ht⟩
        · rw [flat, List.append_assoc, ← e2]
          exact e
        · intro r hm
          rcases List.mem_cons.1 hm with rfl | hm
          · exact ⟨by omega, by omega⟩
          · exact hg r hm

/-! ### parts where nothing is torn and all is synced -/
def fsG (G : List Sg) : Int := jFirst (G.map (·.n))
def nxG (G : List Sg) : Int := jNext (G.map (·.n)) (recs G)
theorem fsG_cons (g : Sg) (G : List Sg) : fsG (g :: G) = g.n := rfl
theorem nxG_eq (G : List Sg) : nxG G = fsG G + ((recs G).length : Nat) := rfl
structure CleanG (G : List Sg) : Prop where
  chain : Chain (fsG G) G
  t0 : ∀ g ∈ G, g.t = []
  syn : ∀ g ∈ G, g.s = (flat g.rs).length
  ne : ∀ g ∈ G.tail, g.rs ≠ []
  good : ∀ g ∈ G, ∀ r ∈ g.rs, GoodR r
  lo : 0 ≤ fsG G
  hi : nxG G ≤ 10000
theorem CleanG.nil : CleanG [] := ⟨trivial, by simp, by simp, by simp, by simp, Int.le_refl _, by show (0 : Int) ≤ _; omega⟩
theorem CleanG.cuts {G : List Sg} (h : CleanG G) : G.map Sg.cut = G.map Sg.pt := by
  refine List.map_congr_left (fun g hg => ?_)
  unfold Sg.cut Sg.pt
  rw [h.t0 g hg, h.syn g hg, List.append_nil]
theorem crash_id (k : Nat) : ∀ (L : List Pt), (∀ p ∈ L, p.s = p.b.length) → crash k L = L
  | [], _ => rfl
  | p :: L, h => by
    have hp := h p (by simp)
    unfold crash
    have e : min k (p.b.length - p.s) = 0 := by omega
    simp only [e, Nat.sub_zero, Nat.add_zero]
    rw [crash_id k L (fun q hq => h q (by simp [hq]))]
    congr 1
    cases p
    simp only at hp
    subst hp
    simp
theorem CleanG.crash {G : List Sg} (h : CleanG G) (k : Nat) : Go.Proofs.YtgeahpfdaehjaaaGreatDoor.crash k (G.map Sg.pt) = G.map Sg.pt := crash_id k _ (fun p hp => by
  obtain ⟨g, hg, rfl⟩ := List.mem_map.1 hp
  unfold Sg.pt
  simp only
  rw [h.t0 g hg, h.syn g hg, List.append_nil])
theorem chain_bd {G X Y : List Sg} {g : Sg} {n : Int} (hc : Chain n G) (h : G = X ++ g :: Y) : n ≤ g.n ∧ g.n ≤ n + ((recs G).length : Nat) := by
  subst h
  have h1 := chain_at X n hc
  rw [recs_app, List.length_append]
  omega
theorem recs_many : ∀ (G : List Sg), (∀ g ∈ G, g.rs ≠ []) → G.length ≤ (recs G).length
  | [], _ => Nat.le_refl _
  | g :: G, h => by
    have := recs_many G (fun f hf => h f (by simp [hf]))
    have h1 := List.length_pos_iff.2 (h g (by simp))
    rw [recs_cons, List.length_append, List.length_cons]
    omega
theorem CleanG.count {G : List Sg} (h : CleanG G) : (recs G).length ≤ 10000 ∧ G.length ≤ (recs G).length + 1 := by
  have h1 := h.lo
  have h2 := h.hi
  rw [nxG_eq] at h2
  refine ⟨by omega, ?_⟩
  cases G with
  | nil => simp
  | cons g G =>
    have h3 := recs_many G h.ne
    rw [recs_cons, List.length_append, List.length_cons]
    omega
theorem CleanG.segs {G : List Sg} (h : CleanG G) (hl : G.length ≤ 1000) : Segs G where
  good g hg := ⟨h.good g hg, by rw [h.t0 g hg]; exact torn_nil⟩
  chain := ⟨_, h.chain⟩
  lo g hg := by
    obtain ⟨X, Y, e⟩ := List.append_of_mem hg
    have h1 := chain_bd h.chain e
    have h2 := h.lo
    have h3 := h.count.1
    have h4 := h.hi
    rw [nxG_eq] at h4
    omega
  len := hl
  rl := by have := h.count.1; omega
/-- The last part, and the next record's number. -/
theorem clean_last {X : List Sg} {g : Sg} (h : CleanG (X ++ [g])) : nxG (X ++ [g]) = g.n + (g.rs.length : Nat) := by
  have h1 := chain_at X _ h.chain
  rw [nxG_eq, recs_app, recs_cons, recs_nil, List.append_nil, List.length_append]
  omega
theorem fsG_snoc {X : List Sg} {g : Sg} (hX : X ≠ []) : fsG (X ++ [g]) = fsG X := by
  cases X with
  | nil => exact absurd rfl hX
  | cons a X => rfl
theorem fsG_set (X : List Sg) (g g' : Sg) (hn : g'.n = g.n) : fsG (X ++ [g']) = fsG (X ++ [g]) := by
  cases X with
  | nil => exact hn
  | cons a X => rfl
theorem tail_snoc {X : List Sg} {g f : Sg} (hX : X ≠ []) (hf : f ∈ (X ++ [g]).tail) : f ∈ X.tail ∨ f = g := by
  cases X with
  | nil => exact absurd rfl hX
  | cons a X => simpa using hf
/-- A record behind the last one, in the last part: synced. -/
def growG (X : List Sg) (g : Sg) (r : Rc) : List Sg := X ++ [⟨g.n, g.rs ++ [r], [], (flat (g.rs ++ [r])).length⟩]
/-- .. in a part of its own. -/
def freshG (G : List Sg) (r : Rc) : List Sg := G ++ [⟨nxG G, [r], [], (flat [r]).length⟩]
theorem recs_grow (X : List Sg) (g : Sg) (r : Rc) : recs (growG X g r) = recs (X ++ [g]) ++ [r] := by
  unfold growG
  rw [recs_app, recs_app, recs_cons, recs_cons, recs_nil, List.append_nil, List.append_nil, List.append_assoc]
theorem recs_fresh (G : List Sg) (r : Rc) : recs (freshG G r) = recs G ++ [r] := by
  unfold freshG
  rw [recs_app, recs_cons, recs_nil, List.append_nil]
theorem fsG_grow (X : List Sg) (g : Sg) (r : Rc) : fsG (growG X g r) = fsG (X ++ [g]) := fsG_set X g _ rfl
theorem fsG_fresh (G : List Sg) (r : Rc) : fsG (freshG G r) = if G = [] then nxG G else fsG G := by
  unfold freshG
  split
  · rename_i h; subst h; rfl
  · exact fsG_snoc (by assumption)
theorem fsG_fresh' (G : List Sg) (r : Rc) : fsG (freshG G r) = fsG G := by
  rw [fsG_fresh]
  split
  · rename_i h; subst h; rfl
  · rfl
theorem clean_grow {X : List Sg} {g : Sg} {r : Rc} (h : CleanG (X ++ [g])) (hr : GoodR r) (hi : nxG (X ++ [g]) < 10000) : CleanG (growG X g r) := by
  have hm : ∀ f ∈ growG X g r, f ∈ X ∨ f = ⟨g.n, g.rs ++ [r], [], (flat (g.rs ++ [r])).length⟩ := fun f hf => by unfold growG at hf; simpa using hf
  have hX : ∀ f ∈ X, f ∈ X ++ [g] := fun f hf => by simp [hf]
  refine ⟨?_, fun f hf => ?_, fun f hf => ?_, fun f hf => ?_, fun f hf => ?_, ?_, ?_⟩
  · rw [fsG_grow]
    exact chain_snoc (g := g) (g' := ⟨g.n, g.rs ++ [r], [], (flat (g.rs ++ [r])).length⟩) rfl X _ h.chain
  · rcases hm f hf with hf | rfl
    · exact h.t0 f (hX f hf)
    · rfl
  · rcases hm f hf with hf | rfl
    · exact h.syn f (hX f hf)
    · rfl
  · by_cases hx : X = []
    · subst hx; simp [growG] at hf
    · rcases tail_snoc hx hf with hf | rfl
      · exact h.ne f (by
          cases X with
          | nil => cases hf
          | cons a X => simp at hf ⊢; exact .inl hf)
      · simp
  · intro q hq
    rcases hm f hf with hf | rfl
    · exact h.good f (hX f hf) q hq
    · rcases List.mem_append.1 hq with hq | hq
      · exact h.good g (by simp) q hq
      · rw [List.mem_singleton] at hq; subst hq; exact hr
  · rw [fsG_grow]; exact h.lo
  · rw [nxG_eq] at hi ⊢
    rw [fsG_grow, recs_grow, List.length_append, List.length_singleton]
    omega
theorem clean_fresh {G : List Sg} {r : Rc} (h : CleanG G) (hr : GoodR r) (hi : nxG G < 10000) : CleanG (freshG G r) := by
  have hm : ∀ f ∈ freshG G r, f ∈ G ∨ f = ⟨nxG G, [r], [], (flat [r]).length⟩ := fun f hf => by unfold freshG at hf; simpa using hf
  refine ⟨?_, fun f hf => ?_, fun f hf => ?_, fun f hf => ?_, fun f hf => ?_, ?_, ?_⟩
  · rw [fsG_fresh']
    exact chain_more G _ h.chain (nxG_eq G)
  · rcases hm f hf with hf | rfl
    · exact h.t0 f hf
    · rfl
  · rcases hm f hf with hf | rfl
    · exact h.syn f hf
    · rfl
  · by_cases hx : G = []
    · subst hx; simp [freshG] at hf
    · rcases tail_snoc hx hf with hf | rfl
      · exact h.ne f hf
      · simp
  · intro q hq
    rcases hm f hf with hf | rfl
    · exact h.good f hf q hq
    · simp only [List.mem_singleton] at hq; subst hq; exact hr
  · rw [fsG_fresh']; exact h.lo
  · rw [nxG_eq] at hi ⊢
    rw [fsG_fresh', recs_fresh, List.length_append, List.length_singleton]
    omega
/-- All parts go whose records are all below h, but for the last one. -/
def trimG : List Sg → Int → List Sg
  | g :: f :: G, h => if f.n ≤ h then trimG (f :: G) h else g :: f :: G
  | [g], _ => [g]
  | [], _ => []
theorem clean_less {g f : Sg} {G : List Sg} (h : CleanG (g :: f :: G)) : CleanG (f :: G) ∧ f.n = g.n + (g.rs.length : Nat) ∧ recs (g :: f :: G) = g.rs ++ recs (f :: G) ∧ nxG (f :: G) = nxG (g :: f :: G) := by
  have hc := h.chain
  rw [fsG_cons] at hc
  have e : f.n = g.n + (g.rs.length : Nat) := hc.2.1
  have hn : nxG (f :: G) = nxG (g :: f :: G) := by
    rw [nxG_eq, nxG_eq, fsG_cons, fsG_cons, recs_cons g, List.length_append]
    omega
  refine ⟨⟨?_, fun x hx => h.t0 x (by simp [List.mem_cons.1 hx]), fun x hx => h.syn x (by simp [List.mem_cons.1 hx]), fun x hx => h.ne x (by simp at hx ⊢; exact .inr hx), fun x hx => h.good x (by simp [List.mem_cons.1 hx]), ?_, ?_⟩, e, rfl, hn⟩
  · rw [fsG_cons, e]; exact hc.2
  · have := h.lo; rw [fsG_cons] at this ⊢; omega
  · rw [hn]; exact h.hi
theorem trim_clean : ∀ (G : List Sg) (h : Int), CleanG G → fsG G ≤ h → CleanG (trimG G h) ∧ fsG (trimG G h) ≤ h ∧ nxG (trimG G h) = nxG G ∧ fsG G ≤ fsG (trimG G h) ∧ recs (trimG G h) = (recs G).drop (fsG (trimG G h) - fsG G).toNat
  | [], h, hc, hf => ⟨hc, hf, rfl, Int.le_refl _, rfl⟩
  | [g], h, hc, hf => ⟨hc, hf, rfl, Int.le_refl _, by simp [trimG]⟩
  | g :: f :: G, h, hc, hf => by
    unfold trimG
    split
    · rename_i hh
      obtain ⟨h1, h2, h3, h4⟩ := clean_less hc
      obtain ⟨a, b, c, d, e⟩ := trim_clean (f :: G) h h1 (by rw [fsG_cons]; exact hh)
      rw [fsG_cons] at d
      refine ⟨a, b, c.trans h4, by rw [fsG_cons]; omega, ?_⟩
      have e3 : g.rs.drop ((fsG (trimG (f :: G) h) - f.n).toNat + g.rs.length) = [] := List.drop_eq_nil_of_le (by omega)
      have e4 : (fsG (trimG (f :: G) h) - fsG (g :: f :: G)).toNat = (fsG (trimG (f :: G) h) - f.n).toNat + g.rs.length := by rw [fsG_cons]; omega
      rw [e, h3, e4, fsG_cons, List.drop_append, e3, List.nil_append]
      congr 1
      omega
    · exact ⟨hc, hf, rfl, Int.le_refl _, by simp⟩

end Go.Proofs.YtgeahpfdaehjaaaGreatDoor
namespace Go.Proofs.YtgeahpfdaehjaaaGreatDoor
open Go.ChangeShapes Go.WideShapes Go.ChangeAt Go.RowKit
set_option linter.unusedVariables false

def ns (G : List Sg) : List Int := G.map (·.n)
def pts' (G : List Sg) : List Pt := G.map Sg.pt
/-- The parts, a record behind the last one, synced. -/
def putG (many : Int) (G : List Sg) (r : Rc) : List Sg :=
  if jFull many (ns G) (recs G) = true then freshG G r else growG G.dropLast (G.getLastD ⟨0, [], [], 0⟩) r
/-- .. before they are synced. -/
def appG (many : Int) (G : List Sg) (r : Rc) : List Sg :=
  if jFull many (ns G) (recs G) = true then G ++ [⟨nxG G, [r], [], 0⟩] else G.dropLast ++ [⟨(G.getLastD ⟨0, [], [], 0⟩).n, (G.getLastD ⟨0, [], [], 0⟩).rs ++ [r], [], (G.getLastD ⟨0, [], [], 0⟩).s⟩]
section
variable {G X : List Sg} {g : Sg} {r : Rc} {rm : Nat} {many : Int}
theorem snoc_of (h : G ≠ []) : G = G.dropLast ++ [G.getLastD ⟨0, [], [], 0⟩] := by
  rcases List.eq_nil_or_concat G with e | ⟨X, g, e⟩
  · exact absurd e h
  · rw [e]; simp
theorem not_full_ne (h : ¬ jFull many (ns G) (recs G) = true) : G ≠ [] := fun e => by subst e; exact h rfl
theorem put_full (h : jFull many (ns G) (recs G) = true) : putG many G r = freshG G r := by unfold putG; rw [if_pos h]
theorem app_full (h : jFull many (ns G) (recs G) = true) : appG many G r = G ++ [⟨nxG G, [r], [], 0⟩] := by unfold appG; rw [if_pos h]
theorem put_in (h : ¬ jFull many (ns (X ++ [g])) (recs (X ++ [g])) = true) : putG many (X ++ [g]) r = growG X g r := by unfold putG; rw [if_neg h]; simp
theorem app_in (h : ¬ jFull many (ns (X ++ [g])) (recs (X ++ [g])) = true) : appG many (X ++ [g]) r = X ++ [⟨g.n, g.rs ++ [r], [], g.s⟩] := by unfold appG; rw [if_neg h]; simp
theorem clean_sync (h : CleanG G) (hi : Inv rm (pts' G)) : jSync false (pts' G) (ns G) = (0, pts' G) := by
  rcases List.eq_nil_or_concat G with e | ⟨X, g, e⟩
  · subst e; rfl
  · rw [List.concat_eq_append] at e
    subst e
    have h1 := h.t0 g (by simp)
    have h2 := h.syn g (by simp)
    unfold pts' ns at *
    rw [sync_last hi.rise, h1, List.append_nil, ← h2]
    rw [← h1]
theorem clean_lt (h : CleanG G) : ∀ p ∈ pts' G, p.n < nxG G ∨ (∃ g, G = [g] ∧ g.rs = []) := fun p hp => by
  obtain ⟨f, hf, rfl⟩ := List.mem_map.1 hp
  obtain ⟨X, Y, e⟩ := List.append_of_mem hf
  subst e
  have h1 := chain_at X _ h.chain
  by_cases hx : f.rs = []
  · cases X with
    | nil =>
      cases Y with
      | nil => exact .inr ⟨f, rfl, hx⟩
      | cons y Y =>
        have hy := List.length_pos_iff.2 (h.ne y (by simp))
        refine .inl ?_
        rw [nxG_eq, recs_app, recs_cons, recs_cons, List.length_append, List.length_append, List.length_append]
        rw [recs_nil] at h1
        show f.n < _
        simp only [List.length_nil] at h1 ⊢
        omega
    | cons x X => exact absurd hx (h.ne f (by simp))
  · have hx := List.length_pos_iff.2 hx
    refine .inl ?_
    rw [nxG_eq, recs_app, recs_cons, List.length_append, List.length_append]
    show f.n < _
    omega
/-- A part is full only if it has a record. -/
theorem full_lt (h : CleanG G) (hm : 1 ≤ many) (hf : jFull many (ns G) (recs G) = true) : ∀ p ∈ pts' G, p.n < nxG G := fun p hp => by
  rcases clean_lt h p hp with e | ⟨g, rfl, e⟩
  · exact e
  · exfalso
    unfold ns at hf
    rw [jFull_some (by simp)] at hf
    have := of_decide_eq_true hf
    unfold jNext jFirst jLast at this
    simp only [List.map_cons, List.map_nil, List.headD_cons, List.getLastD_cons, List.getLastD_nil, recs_cons, recs_nil, e, List.append_nil, List.length_nil] at this
    omega
theorem nx_lo (h : CleanG G) : 0 ≤ nxG G := by have := h.lo; rw [nxG_eq]; omega
theorem used_pts' (h : CleanG G) : used (pts' G) = (flat (recs G)).length := used_pts G h.t0
theorem clean_put (h : CleanG G) (hr : GoodR r) (hi : nxG G < 10000) : CleanG (putG many G r) := by
  by_cases hf : jFull many (ns G) (recs G) = true
  · rw [put_full hf]; exact clean_fresh h hr hi
  · have e := snoc_of (not_full_ne hf)
    generalize G.dropLast = X at e
    generalize G.getLastD ⟨0, [], [], 0⟩ = g at e
    subst e
    rw [put_in hf]
    exact clean_grow h hr hi
theorem recs_put : recs (putG many G r) = recs G ++ [r] := by
  by_cases hf : jFull many (ns G) (recs G) = true
  · rw [put_full hf]; exact recs_fresh G r
  · have e := snoc_of (not_full_ne hf)
    generalize G.dropLast = X at e
    generalize G.getLastD ⟨0, [], [], 0⟩ = g at e
    subst e
    rw [put_in hf]
    exact recs_grow X g r
theorem fs_put : fsG (putG many G r) = fsG G := by
  by_cases hf : jFull many (ns G) (recs G) = true
  · rw [put_full hf]; exact fsG_fresh' G r
  · have e := snoc_of (not_full_ne hf)
    generalize G.dropLast = X at e
    generalize G.getLastD ⟨0, [], [], 0⟩ = g at e
    subst e
    rw [put_in hf]
    exact fsG_grow X g r
theorem nx_put : nxG (putG many G r) = nxG G + 1 := by
  rw [nxG_eq, nxG_eq, fs_put, recs_put, List.length_append, List.length_singleton]
  omega
theorem recs_appG : recs (appG many G r) = recs G ++ [r] := by
  by_cases hf : jFull many (ns G) (recs G) = true
  · rw [app_full hf, recs_snoc]
  · have e := snoc_of (not_full_ne hf)
    generalize G.dropLast = X at e
    generalize G.getLastD ⟨0, [], [], 0⟩ = g at e
    subst e
    rw [app_in hf, recs_snoc, recs_snoc, List.append_assoc]
theorem ns_appG : ns (appG many G r) = ns (putG many G r) := by
  by_cases hf : jFull many (ns G) (recs G) = true
  · rw [app_full hf, put_full hf]; unfold ns freshG; simp
  · have e := snoc_of (not_full_ne hf)
    generalize G.dropLast = X at e
    generalize G.getLastD ⟨0, [], [], 0⟩ = g at e
    subst e
    rw [app_in hf, put_in hf]; unfold ns growG; simp
theorem len_put : (putG many G r).length ≤ G.length + 1 := by
  have h : (ns (putG many G r)).length ≤ G.length + 1 := by
    rw [← ns_appG]
    by_cases hf : jFull many (ns G) (recs G) = true
    · rw [app_full hf]; unfold ns; simp
    · have e := snoc_of (not_full_ne hf)
      generalize G.dropLast = X at e
      generalize G.getLastD ⟨0, [], [], 0⟩ = g at e
      subst e
      rw [app_in hf]; unfold ns; simp
  unfold ns at h
  rw [List.length_map] at h
  exact h
theorem len_appG : (appG many G r).length = (putG many G r).length := by
  have := congrArg List.length (ns_appG (many := many) (G := G) (r := r))
  unfold ns at this
  rw [List.length_map, List.length_map] at this
  exact this
/-- There is room for it: it is appended, and then all is synced. -/
theorem app_ok (h : CleanG G) (hm : 1 ≤ many) (hi : Inv rm (pts' G)) (hroom : (encR r).length ≤ rm - used (pts' G)) :
    ((jFull many (ns G) (recs G) = true ∧ opAppend rm false (pts' G) (nxG G) (encR r) = (0, pts' (appG many G r)) ∧ ns (appG many G r) = ns G ++ [nxG G]) ∨
      (jFull many (ns G) (recs G) = false ∧ opAppend rm false (pts' G) (jLast (ns G)) (encR r) = (0, pts' (appG many G r)) ∧ ns (appG many G r) = ns G)) := by
  by_cases hf : jFull many (ns G) (recs G) = true
  · refine .inl ⟨hf, ?_, by rw [app_full hf]; unfold ns; simp⟩
    rw [app_full hf]
    exact append_fresh (nx_lo h) (full_lt h hm hf) hroom
  · have e := snoc_of (not_full_ne hf)
    generalize G.dropLast = X at e
    generalize G.getLastD ⟨0, [], [], 0⟩ = g at e
    subst e
    refine .inr ⟨by simpa using hf, ?_, by rw [app_in hf]; unfold ns; simp⟩
    rw [app_in hf]
    unfold pts' ns at *
    rw [jLast_snoc]
    have ht := h.t0 g (by simp)
    have hn : 0 ≤ g.n := hi.lo g.pt (List.mem_map.2 ⟨g, by simp, rfl⟩)
    have := append_last (b := r) hi.rise hn ht hroom
    rw [ht] at this
    exact this
theorem app_inv (h : CleanG G) (hm : 1 ≤ many) (hi : Inv rm (pts' G)) (hroom : (encR r).length ≤ rm - used (pts' G)) (hh : nxG G < 10000) : Inv rm (pts' (appG many G r)) := by
  have hl : jLast (ns G) ≤ 9223372036854775807 := by
    rcases List.eq_nil_or_concat G with e | ⟨X, g, e⟩
    · subst e; show (0 : Int) ≤ _; omega
    · rw [List.concat_eq_append] at e
      subst e
      unfold ns
      rw [jLast_snoc]
      exact hi.hi g.pt (List.mem_map.2 ⟨g, by simp, rfl⟩)
  rcases app_ok (r := r) h hm hi hroom with ⟨_, e, _⟩ | ⟨_, e, _⟩
  · have := append_inv (dn := false) (n := nxG G) (bs := encR r) hi (by omega)
    rw [e] at this
    exact this
  · have := append_inv (dn := false) (n := jLast (ns G)) (bs := encR r) hi hl
    rw [e] at this
    exact this
theorem app_sync (h : CleanG G) (hi : Inv rm (pts' (appG many G r))) : jSync false (pts' (appG many G r)) (ns (appG many G r)) = (0, pts' (putG many G r)) := by
  by_cases hf : jFull many (ns G) (recs G) = true
  · rw [app_full hf] at hi ⊢
    rw [put_full hf]
    unfold pts' ns freshG at *
    rw [sync_last hi.rise, List.append_nil]
  · have e := snoc_of (not_full_ne hf)
    generalize G.dropLast = X at e
    generalize G.getLastD ⟨0, [], [], 0⟩ = g at e
    subst e
    rw [app_in hf] at hi ⊢
    rw [put_in hf]
    unfold pts' ns growG at *
    rw [sync_last hi.rise, List.append_nil]
theorem put_inv (h : CleanG G) (hm : 1 ≤ many) (hi : Inv rm (pts' G)) (hroom : (encR r).length ≤ rm - used (pts' G)) (hh : nxG G < 10000) : Inv rm (pts' (putG many G r)) := by
  have h1 := app_inv h hm hi hroom hh
  have h2 := app_sync (many := many) (r := r) h h1
  have := jSync_inv (dn := false) (P := ns (appG many G r)) h1
  rw [h2] at this
  exact this
/-- There is no room for it. -/
theorem app_no (h : CleanG G) (hi : Inv rm (pts' G)) (hroom : ¬ (encR r).length ≤ rm - used (pts' G)) :
    opAppend rm false (pts' G) (nxG G) (encR r) = (6, pts' G) ∧ (jFull many (ns G) (recs G) = false → opAppend rm false (pts' G) (jLast (ns G)) (encR r) = (6, pts' G)) := by
  have h0 := nx_lo h
  refine ⟨?_, fun hf => ?_⟩
  · unfold opAppend
    rw [if_neg (by simp), if_neg (by omega), if_pos (by omega)]
  · have hf' : ¬ jFull many (ns G) (recs G) = true := by rw [hf]; simp
    have e := snoc_of (not_full_ne hf')
    generalize G.dropLast = X at e
    generalize G.getLastD ⟨0, [], [], 0⟩ = g at e
    subst e
    have hn : 0 ≤ g.n := hi.lo g.pt (List.mem_map.2 ⟨g, by simp, rfl⟩)
    unfold ns pts' at *
    rw [jLast_snoc]
    unfold opAppend
    rw [if_neg (by simp), if_neg (by omega), if_pos (by omega)]
/-- The first part goes. -/
theorem remove_first {f : Sg} (hi : Inv rm (pts' (g :: f :: X))) : opRemove false (pts' (g :: f :: X)) g.n = (0, pts' (f :: X)) ∧ Inv rm (pts' (f :: X)) := by
  have hf := find_has (n := g.n) (q := g.pt) (x := []) (y := pts' (f :: X)) rfl (by simp)
  have hd := del_has (n := g.n) (q := g.pt) (x := []) (y := pts' (f :: X)) rfl (by simp)
  have e : opRemove false (pts' (g :: f :: X)) g.n = (0, pts' (f :: X)) := by
    unfold opRemove
    rw [show pts' (g :: f :: X) = [] ++ g.pt :: pts' (f :: X) from rfl, if_pos (miss_some hf), hd]
    rfl
  refine ⟨e, ?_⟩
  have := remove_inv (dn := false) (n := g.n) hi
  rw [e] at this
  exact this
end
end Go.Proofs.YtgeahpfdaehjaaaGreatDoor
