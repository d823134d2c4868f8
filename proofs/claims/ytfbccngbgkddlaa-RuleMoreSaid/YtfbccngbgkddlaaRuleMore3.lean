/-
  Layer 14 (rule): the law RuleMore, walked.
-/
import Derived.Test.YtfbccngbgkddlaaRuleMore2
import Derived.Deep.Cut
import Derived.Deep.CutRange
import Derived.Deep.DeepCutAuto
import Derived.BigQuiet
namespace Go.Proofs.Ytfbccngbgkddlaa
open Go.ChangeShapes Go.WideShapes Go.ChangeAt Go.RowKit Go.Deep
set_option linter.unusedVariables false

set_option maxRecDepth 100000 in
set_option maxHeartbeats 2000000 in
theorem more_good (A : Option Addr) (cap : Nat) (l : List Ru) (c : Int) (p : ByteArray) (z : Int) (key : ByteArray) (W : World) (hr : RdRu W A l) (hn : A = none → cap = 0) (hf : FitRu l) (hc : InZ c) (hz : InZ z)
    (hfw : fewU l = true) (hps : p.size ≤ 300) (hks : key.size ≤ 3000) (h1 : mayR l c = true) (h2 : mayR (l ++ [(p, z)]) c = true) :
    Calls Try.prog 3 #[.slice A l.length cap, .int .i64 c, .agg #[.string p, .int .i64 z], .string key] W (Holds W) := by
  obtain ⟨hl40, hlp⟩ := fewU_parts hfw
  have HLP := Lib.hid hlp
  have M0 := Lib.hid (Ms.start (W := W) (p := p) (z := z))
  have CU := Lib.hid (up_rule (W.alloc (.cells #[.string p, .int .i64 z] 24)))
  have CF := Lib.hid (fun wx (b : Below W.heap.size W wx) => few_walk A cap l wx (hr.below b) (by omega) hf)
  have CL := Lib.hid (fun wx (b : Below W.heap.size W wx) => class_walk A cap l c key wx (hr.below b) (by omega) hf hc)
  have CL2 := Lib.hid (fun wx (A2 : Option Addr) (c2 : Nat) (h2 : RdRu wx A2 (l ++ [(p, z)])) => class_walk A2 c2 (l ++ [(p, z)]) c key wx h2 (by simp; omega) (fit_more hf (by omega) hz) hc)
  have HSR := Lib.hid (src_of hr hn)
  have HR := Lib.hid hr
  have y1 : ¬ (300 : Int) < p.size := by omega
  have y2 : ¬ (3000 : Int) < key.size := by omega
  obtain ⟨a0, a1⟩ := class_in key h1
  obtain ⟨_, b1⟩ := class_in key h2
  obtain ⟨cc0, cc1, _, _⟩ := may_class h1
  have HE := Lib.hid (fun h => class_more (l := l) (p := p) (z := z) (c := c) (key := key) h)
  have g1 : clsV l c key = .tuple #[.int .i64 (classOf l c key), .nilIface] := by unfold clsV; rw [h1]; rfl
  have g2 : clsV (l ++ [(p, z)]) c key = .tuple #[.int .i64 (classOf (l ++ [(p, z)]) c key), .nilIface] := by unfold clsV; rw [h2]; rfl
  rw [g1] at CL
  rw [g2] at CL2
  obtain ⟨N, hN⟩ : ∃ N, l.length = N := ⟨_, rfl⟩
  have HN := Lib.hid hN
  have hl2 : (l ++ [(p, z)]).length = N + 1 := by simp [hN]
  rw [hl2] at CL2
  rw [hfw] at CF
  rw [hN] at CF CL hl40 ⊢
  clear hr hf hfw hn hN hl2 hc hz h1 h2 g1 g2 hlp
  generalize classOf l c key = a at CL HE a0 a1
  generalize classOf (l ++ [(p, z)]) c key = b at CL2 HE b1
  go_enter Try.func3, Try.ntmps3
  go_wp2_with fail
  refine CU.out.mono ?_
  rintro e w1 ⟨rfl, b1⟩
  have M1 := Lib.hid (M0.out.still b1)
  have C1 := Lib.hid (CF.out _ M1.out.bel)
  have C2 := Lib.hid (CL.out _ M1.out.bel)
  have c0 := M1.out.c0
  clear b1 CU CF M0 CL
  go_wp2_with fail
  refine C1.out.mono ?_
  rintro e w1' ⟨rfl, rfl⟩
  go_wp2_with fail
  refine C2.out.mono ?_
  rintro e w2 ⟨rfl, b2⟩
  have M2 := Lib.hid (M1.out.still b2)
  clear b2 C1 C2 M1 c0 y1 y2
  go_upto_region 6 with fail
  go_cut [13, 14] from 44 to 55 (fun v13 v14 wx => v13 = .int .i64 b ∧ v14 = .nilIface ∧ Hid (Ms W p z wx))
  case first =>
    clear HE a0 a1 b1 cc0 cc1 HR HLP
    have MD := Lib.hid (M2.out.still (below_drewR w2))
    obtain ⟨A1, c1, u1, A2, c2, u2, GA⟩ := gruA (HSR.out.still MD.out.bel) HN.out (by omega) (p, z)
    obtain ⟨A3, c3, u3, A4, c4, u4, GB⟩ := gruB (HSR.out.still MD.out.bel) HN.out (by omega) (p, z)
    obtain ⟨A5, c5, u5, A6, c6, u6, GD⟩ := gruC (HSR.out.still MD.out.bel) HN.out (by omega) (p, z)
    unfold oneR noR at GA GB GD
    have GA : GrU w2.drew u1 u2 (w2.alloc (.cells #[] 24)).drew (u1.alloc (.cells #[.string p, .int .i64 z] 24)) A A1 A2 cap c1 c2 w2.heap.size u1.heap.size N l (p, z) := GA
    have GB : GrU w2.drew u3 u4 ((w2.alloc (.cells #[] 24)).alloc (.cells #[.string p, .int .i64 z] 24)).drew u3 A A3 A4 cap c3 c4 w2.heap.size (w2.heap.size + 1) N l (p, z) := GB
    have GD : GrU w2.drew u5 u6 ((w2.alloc (.cells #[.string p, .int .i64 z] 24)).alloc (.cells #[] 24)).drew u5 A A5 A6 cap c5 c6 (w2.heap.size + 1) w2.heap.size N l (p, z) := GD
    have E1 := Lib.hid (MD.out.still GA.b2)
    have C3A := Lib.hid ((CL2.out u2 A2 c2 GA.rd).mono (fun e w' h => (⟨h.1, E1.out.still h.2⟩ : _ ∧ Ms W p z w')))
    have E2 := Lib.hid (MD.out.still GB.b2)
    have C3B := Lib.hid ((CL2.out u4 A4 c4 GB.rd).mono (fun e w' h => (⟨h.1, E2.out.still h.2⟩ : _ ∧ Ms W p z w')))
    have E3 := Lib.hid (MD.out.still GD.b2)
    have C3D := Lib.hid ((CL2.out u6 A6 c6 GD.rd).mono (fun e w' h => (⟨h.1, E3.out.still h.2⟩ : _ ∧ Ms W p z w')))
    have QX : ∀ wx, Below w2.drew.heap.size w2.drew wx → wx.cell? ⟨W.heap.size, 0, none⟩ = some (.string p) ∧ wx.cell? ⟨W.heap.size, 1, none⟩ = some (.int .i64 z) := fun wx b => ⟨(MD.out.still b).c0, (MD.out.still b).c1⟩
    have SQ0 := Lib.hid (QX _ (Below.refl _ _))
    have NO := fun (wx : World) (b : Below w2.drew.heap.size w2.drew wx) (ob : Obj) => QX (wx.alloc ob) (bel_allocR b b.size ob)
    have N2 := fun (ob ob' : Obj) => QX ((w2.drew.alloc ob).alloc ob') (bel_allocR (bel_allocR (Below.refl _ _) (Nat.le_refl _) ob) (by rw [size_newR]; omega) ob')
    have SA1 : Hid ((w2.alloc (.cells #[] 24)).drew.cell? ⟨W.heap.size, 0, none⟩ = some (.string p) ∧ (w2.alloc (.cells #[] 24)).drew.cell? ⟨W.heap.size, 1, none⟩ = some (.int .i64 z)) := Lib.hid (NO w2.drew (Below.refl _ _) _)
    have SA2 : Hid ((w2.alloc (.cells #[.string p, .int .i64 z] 24)).drew.cell? ⟨W.heap.size, 0, none⟩ = some (.string p) ∧ (w2.alloc (.cells #[.string p, .int .i64 z] 24)).drew.cell? ⟨W.heap.size, 1, none⟩ = some (.int .i64 z)) := Lib.hid (NO w2.drew (Below.refl _ _) _)
    have SA3 : Hid (((w2.alloc (.cells #[] 24)).alloc (.cells #[.string p, .int .i64 z] 24)).drew.cell? ⟨W.heap.size, 0, none⟩ = some (.string p) ∧ ((w2.alloc (.cells #[] 24)).alloc (.cells #[.string p, .int .i64 z] 24)).drew.cell? ⟨W.heap.size, 1, none⟩ = some (.int .i64 z)) := Lib.hid (N2 _ _)
    have SA4 : Hid (((w2.alloc (.cells #[.string p, .int .i64 z] 24)).alloc (.cells #[] 24)).drew.cell? ⟨W.heap.size, 0, none⟩ = some (.string p) ∧ ((w2.alloc (.cells #[.string p, .int .i64 z] 24)).alloc (.cells #[] 24)).drew.cell? ⟨W.heap.size, 1, none⟩ = some (.int .i64 z)) := Lib.hid (N2 _ _)
    have SA5 : Hid ((u1.alloc (.cells #[.string p, .int .i64 z] 24)).cell? ⟨W.heap.size, 0, none⟩ = some (.string p) ∧ (u1.alloc (.cells #[.string p, .int .i64 z] 24)).cell? ⟨W.heap.size, 1, none⟩ = some (.int .i64 z)) := Lib.hid (NO u1 GA.b1 _)
    have SQ1 := Lib.hid (QX _ GA.b1)
    have SQ2 := Lib.hid (QX _ GA.b2)
    have SQ3 := Lib.hid (QX _ GB.b1)
    have SQ4 := Lib.hid (QX _ GB.b2)
    have SQ5 := Lib.hid (QX _ GD.b1)
    have SQ6 := Lib.hid (QX _ GD.b2)
    have ra1 := Lib.hid GA.r1
    have ra2 := Lib.hid GA.r2
    have rb1 := Lib.hid GB.r1
    have rb2 := Lib.hid GB.r2
    have rd1 := Lib.hid GD.r1
    have rd2 := Lib.hid GD.r2
    clear GA GB GD QX NO N2 CL2 HSR
    go_wp2_with fail
    go_region_held_law (fun w' => w'.cell? ⟨W.heap.size, 0, none⟩ = some (.string p) ∧ w'.cell? ⟨W.heap.size, 1, none⟩ = some (.int .i64 z))
      (first | with_reducible exact SQ0.out | with_reducible exact SQ1.out | with_reducible exact SQ2.out | with_reducible exact SQ3.out | with_reducible exact SQ4.out | with_reducible exact SQ5.out | with_reducible exact SQ6.out | with_reducible exact SA1.out | with_reducible exact SA2.out | with_reducible exact SA3.out | with_reducible exact SA4.out | with_reducible exact SA5.out | exact ⟨M3.c0, M3.c1⟩ | fail) (first
      | ((with_reducible refine step_append_ru ra1.out (s := .tmp 45) (x := .tmp 46) ?h1 ?h2 ?h3 ?h4 ?h5 ?_); (case h1 => rfl); (case h2 => rfl); (case h3 => rfl); (case h4 => rfl); (case h5 => rfl))
      | ((with_reducible refine step_append_ru rb1.out (s := .tmp 45) (x := .tmp 46) ?h1 ?h2 ?h3 ?h4 ?h5 ?_); (case h1 => rfl); (case h2 => rfl); (case h3 => rfl); (case h4 => rfl); (case h5 => rfl))
      | ((with_reducible refine step_append_ru rd1.out (s := .tmp 45) (x := .tmp 46) ?h1 ?h2 ?h3 ?h4 ?h5 ?_); (case h1 => rfl); (case h2 => rfl); (case h3 => rfl); (case h4 => rfl); (case h5 => rfl))
      | ((with_reducible refine step_append_ru ra2.out (s := .tmp 47) (x := .tmp 49) ?h1 ?h2 ?h3 ?h4 ?h5 ?_); (case h1 => rfl); (case h2 => rfl); (case h3 => rfl); (case h4 => rfl); (case h5 => rfl))
      | ((with_reducible refine step_append_ru rb2.out (s := .tmp 47) (x := .tmp 49) ?h1 ?h2 ?h3 ?h4 ?h5 ?_); (case h1 => rfl); (case h2 => rfl); (case h3 => rfl); (case h4 => rfl); (case h5 => rfl))
      | ((with_reducible refine step_append_ru rd2.out (s := .tmp 47) (x := .tmp 49) ?h1 ?h2 ?h3 ?h4 ?h5 ?_); (case h1 => rfl); (case h2 => rfl); (case h3 => rfl); (case h4 => rfl); (case h5 => rfl))
      | ((go_at_call 6; first | with_reducible refine C3A.out.mono ?_ | with_reducible refine C3B.out.mono ?_ | with_reducible refine C3D.out.mono ?_); rintro e w3 ⟨rfl, M3⟩)
      | fail)
    all_goals
      go_wp2_with fail
      go_meet
      case rel => exact ⟨rfl, rfl, Lib.hid M3⟩
  case rest =>
    obtain ⟨rfl, rfl, M3⟩ := hcut
    clear CL2 HSR M2
    go_wp2_with fail
    go_loopg [15, 16, 17] N (fun g s15 s16 s17 wx => ∃ i : Nat, i + g = N ∧ s15 = .bool (metB p l i) ∧ s16 = .int .i64 (i : Nat) ∧ Hid (Ms W p z wx))
    case atStart => exact ⟨0, by omega, rfl, rfl, M3⟩
    case round =>
      clear M3
      obtain ⟨i, hi, rfl, rfl, HG⟩ := hrel
      have c0 := HG.out.c0
      cases gk with
      | zero =>
        obtain rfl : i = N := by omega
        have hm := met_all (p := p) (l := l)
        rw [HN.out] at hm
        have HM := Lib.hid hm
        clear hm
        by_cases hpk : p.size ≤ key.size
        · have y1 : (p.size : Int) ≤ key.size := by omega
          have sl := str_to key p.size hpk
          have HB := Lib.hid (begB_long hpk)
          cases hmb : metB p l i with
          | true =>
            have e := HE.out (.inl (by rw [← HM.out, hmb]))
            subst e
            clear hmb
            go_wp2_with fail
            go_quiet (fail)
            go_wp2_with fail
            go_ret
            exact ⟨by first | rfl | simp, HG.out.bel.trans ((below_drewNR _ _).mono HG.out.bel.size)⟩
          | false =>
            clear hmb
            cases hgb : begB key p with
            | true =>
              have hx : ((key.extract 0 p.size).toList == p.toList) = true := HB.out.symm.trans hgb
              clear hgb
              go_wp2_with fail
              go_quiet (fail)
              go_wp2_with fail
              go_ret
              exact ⟨by first | rfl | simp, HG.out.bel.trans ((below_drewNR _ _).mono HG.out.bel.size)⟩
            | false =>
              have e := HE.out (.inr hgb)
              subst e
              have hx : ((key.extract 0 p.size).toList == p.toList) = false := HB.out.symm.trans hgb
              clear hgb
              go_wp2_with fail
              go_quiet (fail)
              go_wp2_with fail
              go_ret
              exact ⟨by first | rfl | simp, HG.out.bel.trans ((below_drewNR _ _).mono HG.out.bel.size)⟩
        · have y1 : ¬ (p.size : Int) ≤ key.size := by omega
          have e := HE.out (.inr (begB_short (by omega)))
          subst e
          generalize metB p l i = mb
          cases mb
          all_goals
            go_wp2_with fail
            go_ret
            exact ⟨by first | rfl | simp, HG.out.bel⟩
      | succ g =>
        have x1 : (i : Int) < N := by omega
        obtain ⟨⟨q, y⟩, hqy⟩ : ∃ q, l[i]? = some q := ⟨l[i]'(by rw [HN.out]; omega), List.getElem?_eq_getElem _⟩
        obtain ⟨bb, o, rfl, hat⟩ := HR.out.at hqy
        obtain ⟨p0, p1⟩ := hat wr HG.out.bel
        have hq := HLP.out q y (List.mem_of_getElem? hqy)
        have HMN := Lib.hid (met_next (p := p) hqy)
        clear hat hqy p1
        by_cases hqp : q.size ≤ p.size
        · have y1 : (q.size : Int) ≤ p.size := by omega
          have sl := str_to p q.size hqp
          have HB := Lib.hid (begB_long hqp)
          cases hmb : metB p l i with
          | true =>
            rw [hmb, Bool.true_or] at HMN
            clear hmb
            go_wp2_with fail
            go_quiet (fail)
            go_wp2_with fail
            go_roundg g
            case rel => exact ⟨i + 1, by omega, by rw [HMN.out], by go_num, Lib.hid (HG.out.still (below_drewNR _ _))⟩
            case measure => omega
          | false =>
            rw [hmb, Bool.false_or, HB.out] at HMN
            clear hmb
            go_wp2_with fail
            go_quiet (fail)
            go_wp2_with fail
            go_roundg g
            case rel => exact ⟨i + 1, by omega, by rw [HMN.out], by go_num, Lib.hid (HG.out.still (below_drewNR _ _))⟩
            case measure => omega
        · have y1 : ¬ (q.size : Int) ≤ p.size := by omega
          rw [begB_short (by omega), Bool.or_false] at HMN
          go_wp2_with fail
          go_roundg g
          case rel => exact ⟨i + 1, by omega, by rw [HMN.out], by go_num, HG⟩
          case measure => omega
theorem more_walk (A : Option Addr) (cap : Nat) (l : List Ru) (c : Int) (p : ByteArray) (z : Int) (key : ByteArray) (W : World) (hr : RdRu W A l) (hn : A = none → cap = 0) (hl : l.length ≤ 9223372036854775807) (hf : FitRu l) (hc : InZ c) (hz : InZ z)
    (hps : p.size ≤ 9223372036854775807) (hks : key.size ≤ 9223372036854775807) :
    Calls Try.prog 3 #[.slice A l.length cap, .int .i64 c, .agg #[.string p, .int .i64 z], .string key] W (Holds W) := by
  cases hfw : fewU l with
  | false => exact more_head A cap l c p z key W hr hl hf hc hz hps hks (.inl hfw)
  | true =>
    by_cases h3 : 300 < p.size
    · exact more_head A cap l c p z key W hr hl hf hc hz hps hks (.inr (.inl h3))
    by_cases h30 : 3000 < key.size
    · exact more_head A cap l c p z key W hr hl hf hc hz hps hks (.inr (.inr h30))
    cases h1 : mayR l c with
    | false => exact more_bad A cap l c p z key W hr hn hf hc hz hfw (by omega) (by omega) (.inl h1)
    | true =>
      cases h2 : mayR (l ++ [(p, z)]) c with
      | false => exact more_bad A cap l c p z key W hr hn hf hc hz hfw (by omega) (by omega) (.inr h2)
      | true => exact more_good A cap l c p z key W hr hn hf hc hz hfw (by omega) (by omega) h1 h2
end Go.Proofs.Ytfbccngbgkddlaa
