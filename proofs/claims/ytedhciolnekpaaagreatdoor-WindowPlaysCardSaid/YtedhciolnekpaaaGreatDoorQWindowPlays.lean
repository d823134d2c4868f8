/-
  Layer 20 (window), WindowPlays: what any values come to, added and closed in any order, as the document's table tells.
-/
import Derived.Test.YtedhciolnekpaaaGreatDoorQWindowPair
import Derived.Deep.RegionHeldLaw
import Derived.Deep.LoopGhost
import Derived.Deep.Cut
import Derived.Deep.CutRange
namespace Go.Proofs.YtedhciolnekpaaaGreatDoor
open Go.ChangeShapes Go.WideShapes Go.ChangeAt Go.RowKit Go.Deep
set_option linter.unusedVariables false

abbrev tabR (T : Tb) : Obj := .cells #[.int .i64 T.wd, .int .i64 T.wi, .int .i64 T.ro, .int .i64 T.sq, .slice none 0 0] 27 (0, 0)
theorem tabR_laid (w : World) (base : Nat) (T : Tb) : Tr base (w.alloc (tabR T)) w.heap.size T none 0 [] := ⟨heap_alloc_new w _, OwK.nil _ _ _ _⟩
theorem Bo.drew1 {W w : World} {N b base a bm : Nat} {tp tr : Tb} {pp pr : List PtW} (h : Bo W N b base w a bm tp tr pp pr) : Bo W N b base w.drew a bm tp tr pp pr := h.drewN 1
section
variable {w W : World} {A : Option Addr} {cap : Nat} {l : List DeedW}
set_option maxHeartbeats 2000000 in
set_option maxRecDepth 100000 in
theorem plays_bad (hL : Laid w) (T : Tb) (hn : ¬ GoodT T) (n : Nat) :
    Calls Tryz.prog 3 #[.int .i64 T.wd, .int .i64 T.wi, .int .i64 T.ro, .int .i64 T.sq, .slice A n cap] w (Holds w) := by
  have CU := Lib.hid (up_window w hL)
  have CN := Lib.hid (fun wx => newW_bad wx hn)
  have CG := Lib.hid (fun wx => ref_good_no (tabR_laid wx 0 T) hn)
  unfold Holds at CU
  unfold errW at CN
  have eqc := eql_codes
  clear hL hn
  obtain ⟨wd, wi, ro, sq⟩ := T
  dsimp only at *
  go_enter Tryz.func3, Tryz.ntmps3
  go_wp2_with fail
  refine CU.out.mono ?_
  rintro e w1 ⟨rfl, b1⟩
  have B1 := Lib.hid b1
  clear b1 CU
  go_wp2_with fail
  refine (CN.out _).mono ?_
  rintro e w2 ⟨rfl, rfl⟩
  go_wp2_with fail
  refine (CG.out _).mono ?_
  rintro e w2 ⟨rfl, rfl⟩
  go_wp2_with fail
  go_ret
  exact ⟨rfl, B1.out.trans (((Below.refl _ w1).alloc (Nat.le_refl _) _).mono B1.out.size)⟩
set_option maxHeartbeats 2000000 in
set_option maxRecDepth 100000 in
theorem plays_many (hL : Laid w) (h : RdDW W A l) (hb : Below W.heap.size W w) (hm : l.length ≤ maxLen) (T : Tb) (hg : GoodT T) (hf : fewW l = false) :
    Calls Tryz.prog 3 #[.int .i64 T.wd, .int .i64 T.wi, .int .i64 T.ro, .int .i64 T.sq, .slice A l.length cap] w (Holds w) := by
  have CU := Lib.hid (up_window w hL)
  have CN := Lib.hid (fun wx => newW_good wx hg (fun _ => 0))
  have CG := Lib.hid (fun wx (hx : Tr 0 wx w.heap.size T none 0 []) => ref_good_yes hx hg)
  have CG2 := Lib.hid (fun (wx wy : World) (hx : Below (wx.alloc (tabR T)).heap.size (wx.alloc (tabR T)) wy) => ref_good_yes ((tabR_laid wx 0 T).still hx) hg)
  have CF := Lib.hid (fun wx (hx : Below W.heap.size W wx) => fewW_walk wx W A cap l h hx hm)
  have HB := Lib.hid hb
  unfold Holds at CU
  rw [hf] at CF
  clear hL h hb hm hg hf CG
  obtain ⟨wd, wi, ro, sq⟩ := T
  dsimp only at *
  go_enter Tryz.func3, Tryz.ntmps3
  go_wp2_with fail
  refine CU.out.mono ?_
  rintro e w1 ⟨rfl, b1⟩
  have B1 := Lib.hid b1
  clear b1 CU
  go_wp2_with fail
  refine (CN.out _).mono ?_
  rintro e w2 ⟨a, bm, rfl, _, b2⟩
  have CG3 := Lib.hid (CG2.out w1 w2 b2)
  have B2 : Hid (Below w.heap.size w w2) := Lib.hid (B1.out.trans ((((Below.refl _ w1).alloc (Nat.le_refl _) _).trans (b2.mono (by simp))).mono B1.out.size))
  clear b2 CG2
  go_wp2_with fail
  refine CG3.out.mono ?_
  rintro e w3 ⟨rfl, rfl⟩
  have CF1 := Lib.hid (CF.out w2 (HB.out.trans (B2.out.mono HB.out.size)))
  clear CG3 CF
  go_wp2_with fail
  refine CF1.out.mono ?_
  rintro e w3 ⟨rfl, rfl⟩
  go_wp2_with fail
  go_ret
  exact ⟨rfl, B2.out⟩
set_option maxHeartbeats 8000000 in
set_option maxRecDepth 100000 in
theorem plays_in (hL : Laid w) (h : RdDW W A l) (hb : Below W.heap.size W w) (hm : l.length ≤ maxLen) (hfit : ∀ t ∈ l, FitW t) (T : Tb) (hg : GoodT T) (hf : fewW l = true) :
    Calls Tryz.prog 3 #[.int .i64 T.wd, .int .i64 T.wi, .int .i64 T.ro, .int .i64 T.sq, .slice A l.length cap] w (Holds w) := by
  have CU := Lib.hid (up_window w hL)
  have CN := Lib.hid (fun wx => newW_good wx hg (fun _ => 0))
  have CG2 := Lib.hid (fun (wx wy : World) (hx : Below (wx.alloc (tabR T)).heap.size (wx.alloc (tabR T)) wy) => ref_good_yes ((tabR_laid wx 0 T).still hx) hg)
  have CF := Lib.hid (fun wx (hx : Below W.heap.size W wx) => fewW_walk wx W A cap l h hx hm)
  have HB := Lib.hid hb
  have HLD := Lib.hid hL
  have HR := Lib.hid h
  have HG := Lib.hid hg
  have HFIT := Lib.hid hfit
  have H60 := Lib.hid (fewW_parts hf).1
  have HKS := Lib.hid (fewW_parts hf).2
  unfold Holds at CU
  rw [hf] at CF
  clear hL h hb hm hg hf hfit
  obtain ⟨wd, wi, ro, sq⟩ := T
  dsimp only at *
  go_enter Tryz.func3, Tryz.ntmps3
  go_wp2_with fail
  refine CU.out.mono ?_
  rintro e w1 ⟨rfl, b1⟩
  have B1 := Lib.hid b1
  clear b1 CU
  go_wp2_with fail
  refine (CN.out _).mono ?_
  rintro e w2 ⟨a, bm, rfl, hT, b2⟩
  have CG3 := Lib.hid (CG2.out w1 w2 b2)
  have B2 : Hid (Below w.heap.size w w2) := Lib.hid (B1.out.trans ((((Below.refl _ w1).alloc (Nat.le_refl _) _).trans (b2.mono (by simp))).mono B1.out.size))
  have R2 := (tabR_laid w1 0 ⟨wd, wi, ro, sq⟩).still b2
  have HBO : Hid (Bo w (w1.alloc (tabR ⟨wd, wi, ro, sq⟩)).heap.size w1.heap.size 0 w2 a bm ⟨wd, wi, ro, sq⟩ ⟨wd, wi, ro, sq⟩ [] []) := Lib.hid ⟨⟨_, hT⟩, ⟨_, _, R2⟩, B2.out, by have := B1.out.size; simp; omega, b2.size, B1.out.size, Nat.zero_le _⟩
  obtain ⟨N, hN⟩ : ∃ N, (w1.alloc (tabR ⟨wd, wi, ro, sq⟩)).heap.size = N := ⟨_, rfl⟩
  rw [hN] at HBO
  have HI0 : Hid (InvT ⟨wd, wi, ro, sq⟩ []) := Lib.hid ⟨LOk.nil _, ⟨by have := HG.out.i1; show (0 : Int) ≤ wi; simp only at this; omega, fun s => by have := HG.out.r1; show (0 : Int) ≤ ro; simp only at this; omega⟩, HG.out.u, by simp, HG.out.s1, by have := HG.out.s2; simp only at this ⊢; omega⟩
  have HQ : Hid (sq ≤ 1000000) := Lib.hid HG.out.s2
  clear b2 CG2 hT R2 CN hN
  go_wp2_with fail
  refine CG3.out.mono ?_
  rintro e w3 ⟨rfl, rfl⟩
  have CF1 := Lib.hid (CF.out w2 (HB.out.trans (B2.out.mono HB.out.size)))
  clear CG3 CF
  go_wp2_with fail
  refine CF1.out.mono ?_
  rintro e w3 ⟨rfl, rfl⟩
  clear CF1
  go_wp2_with fail
  go_loopg [16] (l.length) (fun g s16 wx => ∃ (i : Nat) (pl : List PtW) (q : Int), i + g = l.length ∧ s16 = .int .i64 i ∧ Hid (Bo w N w1.heap.size 0 wx a bm ⟨wd, wi, ro, q⟩ ⟨wd, wi, ro, q⟩ pl pl) ∧ Hid (InvT ⟨wd, wi, ro, q⟩ pl) ∧ Hid (pl.length ≤ i) ∧ Hid (q ≤ 1000000 + i))
  case atStart => exact ⟨0, [], sq, by omega, rfl, HBO, HI0, Lib.hid (Nat.le_refl _), Lib.hid (by have := HQ.out; omega)⟩
  case round =>
    clear HBO HI0 HQ
    obtain ⟨i, pl, q, hig, rfl, HS, HI, HP, HQ⟩ := hrel
    cases gk with
    | zero =>
      have x5 : ¬ i < l.length := by omega
      go_wp2_with fail
      go_ret
      exact ⟨rfl, HS.out.bel⟩
    | succ g =>
      have x5 : i < l.length := by omega
      have h60 := H60.out
      obtain ⟨d, hd⟩ : ∃ d, l[i]? = some d := ⟨_, List.getElem?_eq_getElem x5⟩
      have hdm := List.mem_of_getElem? hd
      obtain ⟨gb, o, hA, hc⟩ := HR.out.at hd
      obtain ⟨p0, p1, p2, p3, p4, p5⟩ := hc wr (HB.out.trans (HS.out.bel.mono HB.out.size))
      have hv : In64 d.val := (HFIT.out d hdm).val
      have hks := HKS.out d hdm
      have HIG := Lib.hid hig
      obtain ⟨x, hx⟩ : ∃ x, wr.heap.size = x := ⟨_, rfl⟩
      have HD : Hid (Bd w N w1.heap.size 0 x d (wr.alloc (.cells #[.bool d.b, .int .i64 d.mark, .string d.key, .int .i64 d.kind, .int .i64 d.val, .int .i64 d.time] 36)) a bm ⟨wd, wi, ro, q⟩ ⟨wd, wi, ro, q⟩ pl pl) := Lib.hid ⟨HS.out.still ((Below.refl _ wr).alloc (Nat.le_refl _) _), by rw [← hx]; exact heap_alloc_new wr _⟩
      have D0 := Lib.hid HD.out.drew
      have DP : Hid (∀ wx, Bd w N w1.heap.size 0 x d wx a bm ⟨wd, wi, ro, q⟩ ⟨wd, wi, ro, q⟩ pl pl → Calls Tryz.prog 9 #[.pointer (some ⟨a, 0, none⟩), .int .i64 d.mark] wx fun e w' => e = .returned (.int .i64 (dueW wd d.mark (startsW pl) : Nat)) ∧ Bd w N w1.heap.size 0 x d w' a bm ⟨wd, wi, ro, q⟩ ⟨wd, wi, ro, q⟩ pl pl) := Lib.hid (fun wx t => due_P t HI.out d.mark)
      have DR : Hid (∀ wx, Bd w N w1.heap.size 0 x d wx a bm ⟨wd, wi, ro, q⟩ ⟨wd, wi, ro, q⟩ pl pl → Calls Tryz.prog 10 #[.pointer (some ⟨w1.heap.size, 0, none⟩), .int .i64 d.mark] wx fun e w' => e = .returned (.int .i64 (dueW wd d.mark (startsW pl) : Nat)) ∧ Bd w N w1.heap.size 0 x d w' a bm ⟨wd, wi, ro, q⟩ ⟨wd, wi, ro, q⟩ pl pl) := Lib.hid (fun wx t => due_R t HI.out d.mark)
      subst hA
      have HV := Lib.hid hv
      have HK := Lib.hid hks
      have H6 := Lib.hid h60
      clear hd hdm hc hv hks h60 HS hig
      go_wp2_with fail
      trace_state
      go_region_held (fun w' => w'.cell? ⟨x, 0, none⟩ = some (.bool d.b) ∧ w'.cell? ⟨x, 1, none⟩ = some (.int .i64 d.mark) ∧ w'.cell? ⟨x, 2, none⟩ = some (.string d.key) ∧ w'.cell? ⟨x, 3, none⟩ = some (.int .i64 d.kind) ∧ w'.cell? ⟨x, 4, none⟩ = some (.int .i64 d.val) ∧ w'.cell? ⟨x, 5, none⟩ = some (.int .i64 d.time))
        (first | exact D0.out.cells | exact Bd.cells (by assumption))
        (first
          | (go_at_call 9; (with_reducible refine (DP.out _ D0.out).mono ?_); rintro e w3 ⟨rfl, t3⟩)
          | (go_at_call 10; (with_reducible refine (DR.out _ t3).mono ?_); rintro e w4 ⟨rfl, t4⟩))
      all_goals
        have D4 := Lib.hid t4
        clear t3 t4 D0 p0 p1 p2 p3 p4 p5 DP DR
        obtain ⟨q0, q1, q2, q3, q4, q5⟩ := D4.out.cells
        cases hdb : d.b with
        | false =>
          rw [hdb] at q0
          have AP : Hid (∀ wx, Bd w N w1.heap.size 0 x d wx a bm ⟨wd, wi, ro, q⟩ ⟨wd, wi, ro, q⟩ pl pl → Calls Tryz.prog 15 #[.pointer (some ⟨a, 0, none⟩), .int .i64 d.mark, .string d.key, .int .i64 d.kind, .int .i64 d.val, .int .i64 d.time] wx fun e w' => ∃ (c : Nat) (l' : List PtW), e = .returned (errC c) ∧ RelAdd ⟨wd, wi, ro, q⟩ pl (keyOk d.key) (d.key, d.kind) d.kind d.time d.val d.mark c l' ∧ Bd w N w1.heap.size 0 x d w' a bm ⟨wd, wi, ro, q⟩ ⟨wd, wi, ro, q⟩ l' pl) := Lib.hid (fun wx t => add_P t HI.out HLD.out HK.out HV.out)
          have AR : Hid (∀ wx pp, Bd w N w1.heap.size 0 x d wx a bm ⟨wd, wi, ro, q⟩ ⟨wd, wi, ro, q⟩ pp pl → Calls Tryz.prog 16 #[.pointer (some ⟨w1.heap.size, 0, none⟩), .int .i64 d.mark, .string d.key, .int .i64 d.kind, .int .i64 d.val, .int .i64 d.time] wx fun e w' => ∃ (c : Nat) (l' : List PtW), e = .returned (.int .i64 (c : Nat)) ∧ RelAdd ⟨wd, wi, ro, q⟩ pl (keyOk d.key) (d.key, d.kind) d.kind d.time d.val d.mark c l' ∧ Bd w N w1.heap.size 0 x d w' a bm ⟨wd, wi, ro, q⟩ ⟨wd, wi, ro, q⟩ pp l') := Lib.hid (fun wx pp t => add_R t HI.out HK.out)
          go_wp2_with fail
          have D5 := Lib.hid D4.out.drew
          go_region_held (fun w' => w'.cell? ⟨x, 0, none⟩ = some (.bool d.b) ∧ w'.cell? ⟨x, 1, none⟩ = some (.int .i64 d.mark) ∧ w'.cell? ⟨x, 2, none⟩ = some (.string d.key) ∧ w'.cell? ⟨x, 3, none⟩ = some (.int .i64 d.kind) ∧ w'.cell? ⟨x, 4, none⟩ = some (.int .i64 d.val) ∧ w'.cell? ⟨x, 5, none⟩ = some (.int .i64 d.time))
            (first | exact D5.out.cells | exact Bd.cells (by assumption))
            (first
              | (go_at_call 15; (with_reducible refine (AP.out _ D5.out).mono ?_); rintro e w5 ⟨c, l', rfl, hrel, t5⟩)
              | (go_at_call 14; (with_reducible refine (codeW_walk _ c hrel.le).mono ?_); rintro e w6 ⟨rfl, rfl⟩)
              | (go_at_call 16; (with_reducible refine (AR.out _ _ t5).mono ?_); rintro e w7 ⟨c', l'', rfl, hrel', t7⟩; obtain ⟨rfl, rfl⟩ := RelAdd.fn hrel hrel'))
          all_goals
            have HB7 := Lib.hid t7.bo
            have HI7 := Lib.hid (HI.out.add hrel HV.out (by have := HP.out; have := H6.out; omega))
            have HP7 : Hid (l'.length ≤ i + 1) := Lib.hid (by have := hrel.len; have := HP.out; omega)
            have HQ7 : Hid (q ≤ 1000000 + ((i + 1 : Nat) : Int)) := Lib.hid (by have := HQ.out; omega)
            clear t5 t7 hrel hrel' D5 D4 AP AR q0 q1 q2 q3 q4 q5
            go_wp2_with fail
            have OPN : Hid (∀ wx, Bo w N w1.heap.size 0 wx a bm ⟨wd, wi, ro, q⟩ ⟨wd, wi, ro, q⟩ l' l' → Calls Tryz.prog 17 #[.pointer (some ⟨a, 0, none⟩)] wx fun e w' => e = .returned (.int .i64 ((startsW l').length : Nat)) ∧ Bo w N w1.heap.size 0 w' a bm ⟨wd, wi, ro, q⟩ ⟨wd, wi, ro, q⟩ l' l') := Lib.hid (fun wx t => open_P t)
            have STR : Hid (∀ wx, Bo w N w1.heap.size 0 wx a bm ⟨wd, wi, ro, q⟩ ⟨wd, wi, ro, q⟩ l' l' → Calls Tryz.prog 18 #[.pointer (some ⟨w1.heap.size, 0, none⟩)] wx fun e w' => ∃ D dd, e = .returned (.slice D (startsW l').length dd) ∧ Bo w N w1.heap.size 0 w' a bm ⟨wd, wi, ro, q⟩ ⟨wd, wi, ro, q⟩ l' l') := Lib.hid (fun wx t => starts_R t HI7.out)
            have RWP : Hid (∀ wx, Bo w N w1.heap.size 0 wx a bm ⟨wd, wi, ro, q⟩ ⟨wd, wi, ro, q⟩ l' l' → Calls Tryz.prog 19 #[.pointer (some ⟨a, 0, none⟩)] wx fun e w' => e = .returned (.int .i64 (allW l' : Nat)) ∧ Bo w N w1.heap.size 0 w' a bm ⟨wd, wi, ro, q⟩ ⟨wd, wi, ro, q⟩ l' l') := Lib.hid (fun wx t => rows_P t HI7.out)
            have MNR : Hid (∀ wx, Bo w N w1.heap.size 0 wx a bm ⟨wd, wi, ro, q⟩ ⟨wd, wi, ro, q⟩ l' l' → Calls Tryz.prog 20 #[.pointer (some ⟨w1.heap.size, 0, none⟩)] wx fun e w' => e = .returned (.int .i64 (allW l' : Nat)) ∧ Bo w N w1.heap.size 0 w' a bm ⟨wd, wi, ro, q⟩ ⟨wd, wi, ro, q⟩ l' l') := Lib.hid (fun wx t => many_R t HI7.out)
            have SQP : Hid (∀ wx, Bo w N w1.heap.size 0 wx a bm ⟨wd, wi, ro, q⟩ ⟨wd, wi, ro, q⟩ l' l' → Calls Tryz.prog 21 #[.pointer (some ⟨a, 0, none⟩)] wx fun e w' => e = .returned (.int .i64 (q)) ∧ Bo w N w1.heap.size 0 w' a bm ⟨wd, wi, ro, q⟩ ⟨wd, wi, ro, q⟩ l' l') := Lib.hid (fun wx t => seq_P t)
            have D8 := Lib.hid (HB7.out.drew1)
            have e8 := HB7.out.cell3
            go_region_held (fun w' => w'.cell? ⟨w1.heap.size, 3, none⟩ = some (.int .i64 (q)))
              (first | exact D8.out.cell3 | exact Bo.cell3 (by assumption))
              (first
                | (go_at_call 17; (with_reducible refine (OPN.out _ D8.out).mono ?_); rintro e w8 ⟨rfl, t8⟩)
                | (go_at_call 18; (with_reducible refine (STR.out _ t8).mono ?_); rintro e w9 ⟨DD, dd9, rfl, t9⟩)
                | (go_at_call 19; (with_reducible refine (RWP.out _ t9).mono ?_); rintro e w10 ⟨rfl, t10⟩)
                | (go_at_call 20; (with_reducible refine (MNR.out _ t10).mono ?_); rintro e w11 ⟨rfl, t11⟩)
                | (go_at_call 21; (with_reducible refine (SQP.out _ t11).mono ?_); rintro e w12 ⟨rfl, t12⟩))
            all_goals
              have H12 := Lib.hid t12
              clear t8 t9 t10 t11 t12 D8 e8
              go_wp2_with fail
              go_roundg g
              case rel => exact ⟨i + 1, l', q, by have := HIG.out; omega, by (have := H6.out; have hw : wrap64 (((i : Nat) : Int) + 1) = ((i + 1 : Nat) : Int) := by (unfold wrap64; omega)); first | exact congrArg (Value.int .i64) hw | exact (congrArg (Value.int .i64) hw).symm | exact hw | exact hw.symm | (refine congrArg _ ?_; exact hw), H12, HI7, HP7, HQ7⟩
              case measure => omega
        | true =>
          rw [hdb] at q0
          have CP := Lib.hid (close_P D4.out HI.out d.mark)
          unfold ClP at CP
          clear q2 q3 q4 q5
          go_wp2_with fail
          refine CP.out.mono ?_
          rintro e w5 (⟨h0, rfl, t5⟩ | ⟨s, K, ys, D, dd, h0, hs, rfl, hy, hr, t5⟩)
          · have H0 := Lib.hid h0
            have b5 : Below w5.heap.size w5 (w5.alloc (.cells #[.int .i64 0, .int .i64 0, .slice none 0 0] 40)) := (Below.refl _ w5).alloc (Nat.le_refl _) _
            have T6 := Lib.hid (t5.still b5)
            have q1b := T6.out.cells.2.1
            have CR := Lib.hid (close_R T6.out HI.out d.mark)
            have hbw : w1.heap.size < w5.heap.size := by
              obtain ⟨A', c', h2⟩ := t5.bo.tr
              exact h2.lt
            have HBW := Lib.hid hbw
            unfold ClR at CR
            unfold btVal
            clear CP t5 b5 h0 q0 q1 D4 hbw
            go_wp2_with fail
            refine CR.out.mono ?_
            rintro e w6 ⟨hc, k6⟩
            rcases hc with ⟨_, rfl, t6⟩ | ⟨s, K, D, dd, h1, _⟩
            case inr => exact absurd H0.out h1
            have BB5 := BtB.new w5 0 0 none 0 0
            have BB6 : BtB w6 w5.heap.size 0 0 none 0 0 := ⟨by rw [k6.block _ BB5.lt (fun e => by have := HBW.out; omega)]; exact BB5.blk⟩
            have b6 : Below w6.heap.size w6 (w6.alloc (.cells #[.int .i64 0, .int .i64 0, .slice none 0 0] 40)) := (Below.refl _ w6).alloc (Nat.le_refl _) _
            have BB7 := BB6.belowZ b6
            have y0 := BB7.c0
            have y1 := BB7.c1
            have y2 := BB7.c2
            have T7 := Lib.hid (t6.still b6)
            have CS := Lib.hid (same ⟨0, 0, []⟩ none none 0 0 (w6.alloc (.cells #[.int .i64 0, .int .i64 0, .slice none 0 0] 40)) (RdR.nil _ _) (RdR.nil _ _) (by simp) (fun r hr => by simp at hr))
            unfold Holds btVal at CS
            simp only [List.length_nil] at CS
            unfold btVal
            clear CR t6 k6 BB5 BB6 b6 BB7
            go_wp2_with fail
            refine CS.out.mono ?_
            rintro e w7 ⟨rfl, b7⟩
            have HB7 := Lib.hid (T7.out.bo.still b7)
            have HI7 := HI
            have HP7 : Hid (pl.length ≤ i + 1) := Lib.hid (by have := HP.out; omega)
            have HQ7 : Hid (q ≤ 1000000 + ((i + 1 : Nat) : Int)) := Lib.hid (by have := HQ.out; omega)
            clear CS b7 y0 y1 y2 q1b T6 T7
            go_wp2_with fail
            have OPN : Hid (∀ wx, Bo w N w1.heap.size 0 wx a bm ⟨wd, wi, ro, q⟩ ⟨wd, wi, ro, q⟩ pl pl → Calls Tryz.prog 17 #[.pointer (some ⟨a, 0, none⟩)] wx fun e w' => e = .returned (.int .i64 ((startsW pl).length : Nat)) ∧ Bo w N w1.heap.size 0 w' a bm ⟨wd, wi, ro, q⟩ ⟨wd, wi, ro, q⟩ pl pl) := Lib.hid (fun wx t => open_P t)
            have STR : Hid (∀ wx, Bo w N w1.heap.size 0 wx a bm ⟨wd, wi, ro, q⟩ ⟨wd, wi, ro, q⟩ pl pl → Calls Tryz.prog 18 #[.pointer (some ⟨w1.heap.size, 0, none⟩)] wx fun e w' => ∃ D dd, e = .returned (.slice D (startsW pl).length dd) ∧ Bo w N w1.heap.size 0 w' a bm ⟨wd, wi, ro, q⟩ ⟨wd, wi, ro, q⟩ pl pl) := Lib.hid (fun wx t => starts_R t HI7.out)
            have RWP : Hid (∀ wx, Bo w N w1.heap.size 0 wx a bm ⟨wd, wi, ro, q⟩ ⟨wd, wi, ro, q⟩ pl pl → Calls Tryz.prog 19 #[.pointer (some ⟨a, 0, none⟩)] wx fun e w' => e = .returned (.int .i64 (allW pl : Nat)) ∧ Bo w N w1.heap.size 0 w' a bm ⟨wd, wi, ro, q⟩ ⟨wd, wi, ro, q⟩ pl pl) := Lib.hid (fun wx t => rows_P t HI7.out)
            have MNR : Hid (∀ wx, Bo w N w1.heap.size 0 wx a bm ⟨wd, wi, ro, q⟩ ⟨wd, wi, ro, q⟩ pl pl → Calls Tryz.prog 20 #[.pointer (some ⟨w1.heap.size, 0, none⟩)] wx fun e w' => e = .returned (.int .i64 (allW pl : Nat)) ∧ Bo w N w1.heap.size 0 w' a bm ⟨wd, wi, ro, q⟩ ⟨wd, wi, ro, q⟩ pl pl) := Lib.hid (fun wx t => many_R t HI7.out)
            have SQP : Hid (∀ wx, Bo w N w1.heap.size 0 wx a bm ⟨wd, wi, ro, q⟩ ⟨wd, wi, ro, q⟩ pl pl → Calls Tryz.prog 21 #[.pointer (some ⟨a, 0, none⟩)] wx fun e w' => e = .returned (.int .i64 (q)) ∧ Bo w N w1.heap.size 0 w' a bm ⟨wd, wi, ro, q⟩ ⟨wd, wi, ro, q⟩ pl pl) := Lib.hid (fun wx t => seq_P t)
            have D8 := Lib.hid (HB7.out.drew1)
            have e8 := HB7.out.cell3
            go_region_held (fun w' => w'.cell? ⟨w1.heap.size, 3, none⟩ = some (.int .i64 (q)))
              (first | exact D8.out.cell3 | exact Bo.cell3 (by assumption))
              (first
                | (go_at_call 17; (with_reducible refine (OPN.out _ D8.out).mono ?_); rintro e w8 ⟨rfl, t8⟩)
                | (go_at_call 18; (with_reducible refine (STR.out _ t8).mono ?_); rintro e w9 ⟨DD, dd9, rfl, t9⟩)
                | (go_at_call 19; (with_reducible refine (RWP.out _ t9).mono ?_); rintro e w10 ⟨rfl, t10⟩)
                | (go_at_call 20; (with_reducible refine (MNR.out _ t10).mono ?_); rintro e w11 ⟨rfl, t11⟩)
                | (go_at_call 21; (with_reducible refine (SQP.out _ t11).mono ?_); rintro e w12 ⟨rfl, t12⟩))
            all_goals
              have H12 := Lib.hid t12
              clear t8 t9 t10 t11 t12 D8 e8
              go_wp2_with fail
              go_roundg g
              case rel => exact ⟨i + 1, pl, q, by have := HIG.out; omega, by (have := H6.out; have hw : wrap64 (((i : Nat) : Int) + 1) = ((i + 1 : Nat) : Int) := by (unfold wrap64; omega)); first | exact congrArg (Value.int .i64) hw | exact (congrArg (Value.int .i64) hw).symm | exact hw | exact hw.symm | (refine congrArg _ ?_; exact hw), H12, HI7, HP7, HQ7⟩
              case measure => omega
          · have H0 := Lib.hid h0
            have HSS := Lib.hid hs
            have HY := Lib.hid hy
            have hbw4 : w1.heap.size < w4.heap.size := by
              obtain ⟨A', c', h2⟩ := D4.out.bo.tr
              exact h2.lt
            have hbw : w1.heap.size < w5.heap.size := by
              obtain ⟨A', c', h2⟩ := t5.bo.tr
              exact h2.lt
            have HBW4 := Lib.hid hbw4
            have HBW := Lib.hid hbw
            have t5 : Bd w N w1.heap.size 0 x d w5 a bm ⟨wd, wi, ro, q + 1⟩ ⟨wd, wi, ro, q⟩ (leftW s pl) pl := t5
            obtain ⟨m, hm⟩ : ∃ m, (rowsW s pl).length = m := ⟨_, rfl⟩
            have HM := Lib.hid hm
            have b5 : Below w5.heap.size w5 (w5.alloc (.cells #[.int .i64 q, .int .i64 s, .slice D m dd] 40)) := (Below.refl _ w5).alloc (Nat.le_refl _) _
            have T6 := Lib.hid (t5.still b5)
            have HR6 := Lib.hid (hr.below b5)
            have q1b := T6.out.cells.2.1
            have CR := Lib.hid (close_R T6.out HI.out d.mark)
            unfold ClR at CR
            rw [hm]
            unfold btVal
            clear CP t5 b5 h0 hs hy hr hbw4 hbw q0 q1 D4 hm
            go_wp2_with fail
            refine CR.out.mono ?_
            rintro e w6 ⟨hc, k6⟩
            rcases hc with ⟨h1, _⟩ | ⟨s', K', D', dd', _, hs', rfl, hr', t6⟩
            case inl => exact absurd h1 H0.out
            have hss := HSS.out
            rw [hss] at hs'
            obtain ⟨hs1, hs2⟩ := List.cons.inj hs'
            subst hs1 hs2
            have t6 : Bd w N w1.heap.size 0 x d w6 a bm ⟨wd, wi, ro, q + 1⟩ ⟨wd, wi, ro, q + 1⟩ (leftW s pl) (leftW s pl) := t6
            have BB5 := BtB.new w5 q s D m dd
            have BB6 : BtB w6 w5.heap.size q s D m dd := ⟨by rw [k6.block _ BB5.lt (fun e => by have := HBW.out; omega)]; exact BB5.blk⟩
            have HR7 : Hid (RdW w6 w4.heap.size D ys) := Lib.hid (HR6.out.keeps k6 (fun z e => .inl (by subst e; exact HBW4.out)) (fun z e c f => by
              obtain ⟨A', c', h2⟩ := T6.out.bo.tr
              exact (tr_off h2 z e).2.2 c f))
            have b6 : Below w6.heap.size w6 (w6.alloc (.cells #[.int .i64 q, .int .i64 s, .slice D' m dd'] 40)) := (Below.refl _ w6).alloc (Nat.le_refl _) _
            have BB7 := BB6.belowZ b6
            have y0 := BB7.c0
            have y1 := BB7.c1
            have y2 := BB7.c2
            have T7 := Lib.hid (t6.still b6)
            have hrr : RdR (w6.alloc (.cells #[.int .i64 q, .int .i64 s, .slice D' m dd'] 40)) D (rowsW s pl) := by
              have := (HR7.out.below b6).rdr
              rw [HY.out] at this
              exact this
            have hin : s ∈ startsW pl := by rw [hss]; simp
            have CS := Lib.hid (same ⟨q, s, rowsW s pl⟩ D D' dd dd' (w6.alloc (.cells #[.int .i64 q, .int .i64 s, .slice D' m dd'] 40)) hrr (hr'.below b6 (Nat.le_refl _)) (by have := rows_le s pl; have := HI.out.len; show (rowsW s pl).length ≤ 1000; omega) (fun r hr => by have := (HI.out.lok.rows s r hr).1.ok.len; omega))
            unfold Holds btVal at CS
            simp only at CS
            rw [HM.out] at CS ⊢
            unfold btVal
            have HLT : Hid ((leftW s pl).length ≤ i + 1) := Lib.hid (by have := left_le s pl; have := HP.out; omega)
            have HI7 : Hid (InvT ⟨wd, wi, ro, q + 1⟩ (leftW s pl)) := Lib.hid (HI.out.close hss (by have := HQ.out; have := H6.out; have := HIG.out; show q + 1 ≤ 2000000; omega))
            clear CR t6 k6 BB5 BB6 b6 BB7 hrr hr' hs' hss hin
            go_wp2_with fail
            refine CS.out.mono ?_
            rintro e w7 ⟨rfl, b7⟩
            have HB7 := Lib.hid (T7.out.bo.still b7)
            have HP7 := HLT
            have HQ7 : Hid (q + 1 ≤ 1000000 + ((i + 1 : Nat) : Int)) := Lib.hid (by have := HQ.out; omega)
            clear CS b7 y0 y1 y2 q1b T6 T7
            go_wp2_with fail
            have OPN : Hid (∀ wx, Bo w N w1.heap.size 0 wx a bm ⟨wd, wi, ro, q + 1⟩ ⟨wd, wi, ro, q + 1⟩ (leftW s pl) (leftW s pl) → Calls Tryz.prog 17 #[.pointer (some ⟨a, 0, none⟩)] wx fun e w' => e = .returned (.int .i64 ((startsW (leftW s pl)).length : Nat)) ∧ Bo w N w1.heap.size 0 w' a bm ⟨wd, wi, ro, q + 1⟩ ⟨wd, wi, ro, q + 1⟩ (leftW s pl) (leftW s pl)) := Lib.hid (fun wx t => open_P t)
            have STR : Hid (∀ wx, Bo w N w1.heap.size 0 wx a bm ⟨wd, wi, ro, q + 1⟩ ⟨wd, wi, ro, q + 1⟩ (leftW s pl) (leftW s pl) → Calls Tryz.prog 18 #[.pointer (some ⟨w1.heap.size, 0, none⟩)] wx fun e w' => ∃ D dd, e = .returned (.slice D (startsW (leftW s pl)).length dd) ∧ Bo w N w1.heap.size 0 w' a bm ⟨wd, wi, ro, q + 1⟩ ⟨wd, wi, ro, q + 1⟩ (leftW s pl) (leftW s pl)) := Lib.hid (fun wx t => starts_R t HI7.out)
            have RWP : Hid (∀ wx, Bo w N w1.heap.size 0 wx a bm ⟨wd, wi, ro, q + 1⟩ ⟨wd, wi, ro, q + 1⟩ (leftW s pl) (leftW s pl) → Calls Tryz.prog 19 #[.pointer (some ⟨a, 0, none⟩)] wx fun e w' => e = .returned (.int .i64 (allW (leftW s pl) : Nat)) ∧ Bo w N w1.heap.size 0 w' a bm ⟨wd, wi, ro, q + 1⟩ ⟨wd, wi, ro, q + 1⟩ (leftW s pl) (leftW s pl)) := Lib.hid (fun wx t => rows_P t HI7.out)
            have MNR : Hid (∀ wx, Bo w N w1.heap.size 0 wx a bm ⟨wd, wi, ro, q + 1⟩ ⟨wd, wi, ro, q + 1⟩ (leftW s pl) (leftW s pl) → Calls Tryz.prog 20 #[.pointer (some ⟨w1.heap.size, 0, none⟩)] wx fun e w' => e = .returned (.int .i64 (allW (leftW s pl) : Nat)) ∧ Bo w N w1.heap.size 0 w' a bm ⟨wd, wi, ro, q + 1⟩ ⟨wd, wi, ro, q + 1⟩ (leftW s pl) (leftW s pl)) := Lib.hid (fun wx t => many_R t HI7.out)
            have SQP : Hid (∀ wx, Bo w N w1.heap.size 0 wx a bm ⟨wd, wi, ro, q + 1⟩ ⟨wd, wi, ro, q + 1⟩ (leftW s pl) (leftW s pl) → Calls Tryz.prog 21 #[.pointer (some ⟨a, 0, none⟩)] wx fun e w' => e = .returned (.int .i64 (q + 1)) ∧ Bo w N w1.heap.size 0 w' a bm ⟨wd, wi, ro, q + 1⟩ ⟨wd, wi, ro, q + 1⟩ (leftW s pl) (leftW s pl)) := Lib.hid (fun wx t => seq_P t)
            have D8 := Lib.hid (HB7.out.drew1)
            have e8 := HB7.out.cell3
            go_region_held (fun w' => w'.cell? ⟨w1.heap.size, 3, none⟩ = some (.int .i64 (q + 1)))
              (first | exact D8.out.cell3 | exact Bo.cell3 (by assumption))
              (first
                | (go_at_call 17; (with_reducible refine (OPN.out _ D8.out).mono ?_); rintro e w8 ⟨rfl, t8⟩)
                | (go_at_call 18; (with_reducible refine (STR.out _ t8).mono ?_); rintro e w9 ⟨DD, dd9, rfl, t9⟩)
                | (go_at_call 19; (with_reducible refine (RWP.out _ t9).mono ?_); rintro e w10 ⟨rfl, t10⟩)
                | (go_at_call 20; (with_reducible refine (MNR.out _ t10).mono ?_); rintro e w11 ⟨rfl, t11⟩)
                | (go_at_call 21; (with_reducible refine (SQP.out _ t11).mono ?_); rintro e w12 ⟨rfl, t12⟩))
            all_goals
              have H12 := Lib.hid t12
              clear t8 t9 t10 t11 t12 D8 e8
              go_wp2_with fail
              go_roundg g
              case rel => exact ⟨i + 1, (leftW s pl), q + 1, by have := HIG.out; omega, by (have := H6.out; have hw : wrap64 (((i : Nat) : Int) + 1) = ((i + 1 : Nat) : Int) := by (unfold wrap64; omega)); first | exact congrArg (Value.int .i64) hw | exact (congrArg (Value.int .i64) hw).symm | exact hw | exact hw.symm | (refine congrArg _ ?_; exact hw), H12, HI7, HP7, HQ7⟩
              case measure => omega
/-- The statement's body, for all that may be handed in. -/
theorem plays_any (hL : Laid w) (h : RdDW W A l) (hb : Below W.heap.size W w) (hm : l.length ≤ maxLen) (hfit : ∀ t ∈ l, FitW t) (T : Tb) :
    Calls Tryz.prog 3 #[.int .i64 T.wd, .int .i64 T.wi, .int .i64 T.ro, .int .i64 T.sq, .slice A l.length cap] w (Holds w) := by
  by_cases hg : GoodT T
  · cases hf : fewW l with
    | false => exact plays_many hL h hb hm T hg hf
    | true => exact plays_in hL h hb hm hfit T hg hf
  · exact plays_bad hL T hg l.length
end
end Go.Proofs.YtedhciolnekpaaaGreatDoor
