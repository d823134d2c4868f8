/-
  Layer 9 (journal): Sync, begin, Append, where nothing fails.
-/
import Derived.Test.YtgohgmihoggcpaaJournalBase
import Derived.Deep.AppendSrc
namespace Go.Proofs.Ytgohgmihoggcpaa
open Go.ChangeShapes Go.WideShapes Go.ChangeAt Go.RowKit
set_option linter.unusedVariables false

section
variable {W w : World} {ad aj rm : Nat} {dn : Bool} {L : List Pt} {many : Int} {P : List Int} {R : List Rc}
def JOps (W w : World) (ad aj rm : Nat) (dn : Bool) (many : Int) (c : Nat) (L : List Pt) (P : List Int) (R : List Rc) (e : Ending) (w' : World) : Prop :=
  e = .returned (ErrV c) ∧ Jn W w' ad aj rm dn L many P R
theorem jSync_inv (h : Inv rm L) : Inv rm (jSync dn L P).2 := by
  unfold jSync
  split
  · exact h
  · exact sync_inv h
theorem jSync_len (h : Inv rm L) : (jSync dn L P).2.length = L.length := by
  unfold jSync
  split
  · rfl
  · exact sync_len h
theorem Below.undraw {w w' : World} {n m : Nat} (h : Below (w.drewN n).heap.size (w.drewN n) w') : Below w.heap.size w w' := ⟨h.os, h.tape, h.output, h.size, h.block⟩
set_option maxHeartbeats 1000000 in
set_option maxRecDepth 100000 in
theorem syncJ (h : Jn W w ad aj rm dn L many P R) (hf : Fits P R) (hi : Inv rm L) (hl : L.length ≤ 1000) :
    Calls Try.prog 8 #[.pointer (some ⟨aj, 0, none⟩)] w (JOps W w ad aj rm dn many (jSync dn L P).1 (jSync dn L P).2 P R) := by
  obtain ⟨vp, vr, g⟩ := h.jrg
  have c0 := g.c0
  have c2 := g.c2
  by_cases hP : P = []
  · subst hP
    have H := Lib.hid h
    obtain ⟨A, cap, rfl, hA⟩ := j_ints g
    clear h g hA
    go_enter Try.func8, Try.ntmps8
    go_wp2
    go_ret
    exact ⟨rfl, H.out⟩
  · have D := Lib.hid (lastJ (g.still (below_drew w)) hP hf.pl)
    obtain ⟨A, cap, rfl, hA⟩ := j_ints g
    have hlast := hf.last
    have CS := Lib.hid (fun n : Nat => (h.still (below_drewN w n)).sync (jLast P) hi hl (by omega) (by omega))
    have hj : jSync dn L P = opSync dn L (jLast P) := by unfold jSync; rw [if_neg hP]
    rw [hj]
    have h0 : 0 < P.length := List.length_pos_iff.2 hP
    generalize P.length = N at c2 h0
    have hb : ((N : Int) == 0) = false := beq_eq_false_iff_ne.2 (by omega)
    have hb' : ¬ N = 0 := by omega
    clear h g hA h0 hi hl hf hlast hj
    unfold JOps
    generalize opSync dn L (jLast P) = r at *
    generalize jLast P = x at *
    go_enter Try.func8, Try.ntmps8
    go_wp2_with fail
    go_region_with (first
      | (go_at_call 19; refine D.out.mono ?_; rintro e w1 ⟨rfl, m, rfl⟩)
      | (go_at_call 21; refine (CS.out _).mono ?_; rintro e w1 ⟨rfl, hJ⟩))
    all_goals go_wp2
    all_goals go_ret
    all_goals exact ⟨rfl, hJ⟩
theorem Jn.append_ok (h : Jn W w ad aj rm dn L many P R) {n : Int} {B : Option Addr} {cb : Nat} {bs : List UInt8} {L' : List Pt} (ha : opAppend rm dn L n bs = (0, L')) (hr : RdS w B cb bs) (hi : Inv rm L) (hl : L.length ≤ 1000) (hn : n ≤ 9223372036854775807) (hb : bs.length ≤ 1000000) :
    Calls Try.prog 18 #[.pointer (some ⟨ad, 0, none⟩), .int .i64 n, .slice B bs.length cb] w fun e w' => e = .returned .nilIface ∧ Jn W w' ad aj rm dn L' many P R := by
  have := h.append n hr hi hl hn hb
  rw [ha] at this
  exact this
theorem syncJ_ok {L' : List Pt} (h : Jn W w ad aj rm dn L many P R) (hs : jSync dn L P = (0, L')) (hf : Fits P R) (hi : Inv rm L) (hl : L.length ≤ 1000) :
    Calls Try.prog 8 #[.pointer (some ⟨aj, 0, none⟩)] w fun e w' => e = .returned .nilIface ∧ Jn W w' ad aj rm dn L' many P R := by
  have := syncJ h hf hi hl
  rw [hs] at this
  exact this
set_option maxHeartbeats 2000000 in
set_option maxRecDepth 100000 in
theorem beginJ {L1 L2 : List Pt} {b : Rc} {N : Int} (hN : jNext P R = N) (h : Jn W w ad aj rm dn L many P R) (hf : Fits P R) (hi : Inv rm L) (hl : L.length ≤ 1000) (hb : GoodR b) (hs : jSync dn L P = (0, L1)) (ha : opAppend rm dn L1 N (encR b) = (0, L2)) :
    Calls Try.prog 17 #[.pointer (some ⟨aj, 0, none⟩), .string ⟨b.toArray⟩] w fun e w' => e = .returned .nilIface ∧ Jn W w' ad aj rm dn L2 many (P ++ [N]) (R ++ [b]) := by
  have C1 := Lib.hid (syncJ_ok h hs hf hi hl)
  have hi1 : Hid (Inv rm L1) := Lib.hid (by have := jSync_inv (dn := dn) (P := P) hi; rw [hs] at this; exact this)
  have hl1 : Hid (L1.length ≤ 1000) := Lib.hid (by have := jSync_len (dn := dn) (P := P) hi; rw [hs] at this; simp only at this; omega)
  have hn := hf.next
  rw [hN] at hn
  have BJ := Lib.hid (fun w => bytesJ w b hb.2)
  have HE := Lib.hid (encR_length hb)
  have HF := Lib.hid hf
  have HA := Lib.hid ha
  have HB := Lib.hid hb
  have HPR := Lib.hid (And.intro hf.pl hf.rl)
  have HN := Lib.hid hN
  clear h hi hl hs ha hb hf hN
  go_enter Try.func17, Try.ntmps17
  go_wp2_with fail
  refine C1.out.mono ?_
  rintro e w1 ⟨rfl, J1⟩
  obtain ⟨vp1, vr1, g1⟩ := J1.jrg
  have C2 := Lib.hid (nextJ g1 HF.out)
  rw [HN.out] at C2
  have K1 := Lib.hid J1
  clear J1 g1 C1
  go_wp2_with fail
  refine C2.out.mono ?_
  rintro e w2 ⟨rfl, m, hm⟩
  have J2 : Hid (Jn W w2 ad aj rm dn L1 many P R) := Lib.hid (by rw [hm]; exact K1.out.still (below_drewN w1 m))
  clear hm C2 K1 vp1 vr1
  have c0 : w2.cell? ⟨aj, 0, none⟩ = some (.pointer (some ⟨ad, 0, none⟩)) := by obtain ⟨vp, vr, g⟩ := J2.out.jrg; exact g.c0
  go_wp2_with fail
  go_region_with (first
    | (go_at_call 20; refine (BJ.out _).mono ?_; rintro e w3 ⟨A3, cap3, rfl, r3, b3⟩; have q3 : Jn W w3 ad aj rm dn L1 many P R := J2.out.still ((below_drew w2).trans b3); have CA := Lib.hid (q3.append_ok HA.out r3 hi1.out hl1.out (by omega) (by have := HE.out; have := HB.out.2; omega)); have c3 : w3.cell? ⟨aj, 0, none⟩ = some (.pointer (some ⟨ad, 0, none⟩)) := (by obtain ⟨vp, vr, g⟩ := q3.jrg; exact g.c0); clear q3 r3 b3)
    | (go_at_call 18; refine CA.out.mono ?_; rintro e w4 ⟨rfl, J4⟩))
  all_goals
    clear CA
    obtain ⟨o4, vp4, vr4, g4⟩ := J4
    have q2 := g4.c2
    obtain ⟨A4, cap4, rfl, _⟩ := j_ints g4
    obtain ⟨A5, cap5, w5, r5, lt5, c05, c35, f5, o6, g6, _, _⟩ := addP o4 g4 N (by have := HPR.out.1; omega)
    obtain ⟨A6, cap6, rfl, _⟩ := os_shape g6.rk
    obtain ⟨A7, cap7, w7, r7, lt7, c07, f7, o8, g8⟩ := addR o6 g6 b HPR.out.2
    simp only [World.size_setCell] at r7
    have R5 := Lib.hid r5
    have R7 := Lib.hid r7
    have DONE : Hid (Jn W (w7.setCell ⟨aj, 3, none⟩ (.slice A7 (R.length + 1) cap7)) ad aj rm dn L2 many (P ++ [N]) (R ++ [b])) := Lib.hid ⟨o8, _, _, g8⟩
    have lt4 := g4.lt
    clear r5 r7 o4 g4 o6 g6 o8 g8
    generalize P.length = PL at *
    generalize R.length = RL at *
    go_wp2_with (first
      | (at_builtin; refine wpList_append_two rfl (.tmp 30) (.tmp 32) 44 44 rfl _ _ _ rfl rfl R5.out ?_)
      | (at_builtin; refine wpList_append_two rfl (.tmp 40) (.tmp 42) 45 45 rfl _ _ _ rfl rfl R7.out ?_)
      | fail)
    go_ret
    exact ⟨rfl, DONE.out⟩
set_option maxHeartbeats 1000000 in
set_option maxRecDepth 100000 in
theorem appendJ_full {L1 L2 : List Pt} {b : Rc} {N : Int} {A : Option Addr} {cap : Nat} (h : Jn W w ad aj rm dn L many P R) (hm : 0 ≤ many ∧ many ≤ 1000) (hr : RdS w A cap b) (hfull : jFull many P R = true) (hN : jNext P R = N) (hf : Fits P R) (hi : Inv rm L) (hl : L.length ≤ 1000) (hb : GoodR b) (hs : jSync dn L P = (0, L1)) (ha : opAppend rm dn L1 N (encR b) = (0, L2)) :
    Calls Try.prog 7 #[.pointer (some ⟨aj, 0, none⟩), .slice A b.length cap] w fun e w' => e = .returned .nilIface ∧ Jn W w' ad aj rm dn L2 many (P ++ [N]) (R ++ [b]) := by
  obtain ⟨vp, vr, g⟩ := h.jrg
  have C1 := Lib.hid (enoughJ g hf hm)
  rw [hfull] at C1
  have hcv := rd_conv hr
  have b1 : ¬ (b.length : Int) < 1 := by have := hb.1; omega
  have b2 : ¬ 4096 < (b.length : Int) := by have := hb.2; omega
  have C2 := Lib.hid (fun m : Nat => beginJ hN (h.still (below_drewN w m)) hf hi hl hb hs ha)
  clear h g hr hfull hN hf hi hl hb hs ha hm
  generalize b.length = K at *
  go_enter Try.func7, Try.ntmps7
  go_wp2_with fail
  refine C1.out.mono ?_
  rintro e w1 ⟨rfl, m, rfl⟩
  go_wp2_with fail
  refine (C2.out m).mono ?_
  rintro e w2 ⟨rfl, J2⟩
  have J2 := Lib.hid J2
  go_wp2
  go_ret
  exact ⟨rfl, J2.out⟩
set_option maxHeartbeats 2000000 in
set_option maxRecDepth 100000 in
theorem appendJ_in {L2 : List Pt} {b : Rc} {A : Option Addr} {cap : Nat} (h : Jn W w ad aj rm dn L many P R) (hm : 0 ≤ many ∧ many ≤ 1000) (hr : RdS w A cap b) (hfull : jFull many P R = false) (hf : Fits P R) (hi : Inv rm L) (hl : L.length ≤ 1000) (hb : GoodR b) (ha : opAppend rm dn L (jLast P) (encR b) = (0, L2)) :
    Calls Try.prog 7 #[.pointer (some ⟨aj, 0, none⟩), .slice A b.length cap] w fun e w' => e = .returned .nilIface ∧ Jn W w' ad aj rm dn L2 many P (R ++ [b]) := by
  obtain ⟨vp, vr, g⟩ := h.jrg
  have C1 := Lib.hid (enoughJ g hf hm)
  rw [hfull] at C1
  have hcv := rd_conv hr
  have b1 : ¬ (b.length : Int) < 1 := by have := hb.1; omega
  have b2 : ¬ 4096 < (b.length : Int) := by have := hb.2; omega
  have hP : P ≠ [] := fun e => by subst e; cases hfull
  have hlast := hf.last
  have D := Lib.hid (fun (wx : World) (hx : Below w.heap.size w wx) => lastJ (g.still hx) hP hf.pl)
  have HE := encR_length hb
  have HB := hb.2
  have CA := Lib.hid (fun (wx : World) (hx : Below w.heap.size w wx) (B : Option Addr) (cb : Nat) (hrx : RdS wx B cb (encR b)) => (h.still hx).append_ok ha hrx hi hl (by omega) (by omega))
  have BJ := Lib.hid (fun w => bytesJ w b hb.2)
  have HPR := Lib.hid (And.intro hf.pl hf.rl)
  have c0 := g.c0
  have lt := g.lt
  have G := Lib.hid (fun (wx : World) (hx : Below w.heap.size w wx) => (g.still hx).c0)
  clear h g hr hfull hf hi hl hb ha hm HE HB hP
  generalize jLast P = x at *
  generalize b.length = K at *
  go_enter Try.func7, Try.ntmps7
  go_wp2_with fail
  refine C1.out.mono ?_
  rintro e w1 ⟨rfl, m, rfl⟩
  clear C1
  go_wp2_with fail
  go_region_with (first
    | (go_at_call 19; refine (D.out _ (by first | exact below_drewN w _ | assumption)).mono ?_; rintro e w4 ⟨rfl, m4, rfl⟩)
    | (go_at_call 20; refine (BJ.out _).mono ?_; rintro e w3 ⟨A3, cap3, rfl, r3, b3⟩; have B3 : Below w.heap.size w w3 := (below_drewN w _).trans b3; have c3 := G.out w3 B3; have K0 := Lib.hid (CA.out w3 B3 _ _ r3); have K1 := Lib.hid (fun n : Nat => CA.out (w3.drewN n) (B3.trans ((below_drewN w3 n).mono B3.size)) _ _ (r3.drew n)); clear r3 b3)
    | (go_at_call 18; (first | with_reducible refine K0.out.mono ?_ | with_reducible refine (K1.out _).mono ?_); rintro e w5 ⟨rfl, J4⟩))
  all_goals
    clear D CA BJ K0 K1 G
    obtain ⟨o4, vp4, vr4, g4⟩ := J4
    have q3 := g4.c3
    obtain ⟨A6, cap6, rfl, _⟩ := os_shape g4.rk
    obtain ⟨A7, cap7, w7, r7, lt7, c07, f7, o8, g8⟩ := addR o4 g4 b HPR.out.2
    have R7 := Lib.hid r7
    have DONE : Hid (Jn W (w7.setCell ⟨aj, 3, none⟩ (.slice A7 (R.length + 1) cap7)) ad aj rm dn L2 many P (R ++ [b])) := Lib.hid ⟨o8, _, _, g8⟩
    have lt4 := g4.lt
    clear r7 o4 g4 o8 g8
    generalize R.length = RL at *
    go_wp2_with (first
      | (at_builtin; refine wpList_append_two rfl (.tmp 39) (.tmp 41) 45 45 rfl _ _ _ rfl rfl R7.out ?_)
      | fail)
    go_ret
    exact ⟨rfl, DONE.out⟩
end
end Go.Proofs.Ytgohgmihoggcpaa
