/-
  The law BatchBack (layer 7), walked: what was put is got as it was; what is got is put as those bytes.
-/
import Derived.Test.YtahmcelkfbigkaaDoorBatchHead
namespace Go.Proofs.YtahmcelkfbigkaaDoor
open Go.ChangeShapes Go.WideShapes Go.ChangeAt Go.RowKit
set_option linter.unusedVariables false

set_option maxHeartbeats 4000000 in
set_option maxRecDepth 100000 in
theorem batchBack_walk (b : Bt) (A : Option Addr) (c : Nat) (X : Option Addr) (cap : Nat) (l : List UInt8) (W : World) (hL : Laid W) (hr : RdR W A b.rows) (hz : WideR b.rows) (hf : ∀ r ∈ b.rows, FitR r)
    (hx : RdS W X cap l) (hlx : l.length ≤ 9223372036854775807) :
    Calls Tryd.prog 5 #[btVal b.seq b.start A b.rows.length c, .slice X l.length cap] W (Holds W) := by
  have HL := Lib.hid hL
  have HR := Lib.hid hr
  have HZ0 := Lib.hid hz
  have HF := Lib.hid hf
  have HX := Lib.hid hx
  have B0 := Lib.hid (below_new W (.cells #[.int .i64 b.seq, .int .i64 b.start, .slice A b.rows.length c] 24))
  have T0 := Lib.hid (BtB.new W b.seq b.start A b.rows.length c)
  have CU := Lib.hid (up_batch (W.alloc (.cells #[.int .i64 b.seq, .int .i64 b.start, .slice A b.rows.length c] 24)) (hL.alloc _))
  clear hL hr hz hf hx
  unfold btVal
  go_enter Tryd.func5, Tryd.ntmps5
  go_wp2_with fail
  refine CU.out.mono ?_
  rintro e w1 ⟨rfl, b1⟩
  have B1 := Lib.hid (B0.out.trans (b1.mono (by simp)))
  have T1 := T0.out.below b1 (Nat.le_refl _)
  have HT1 := Lib.hid T1
  have t0 := T1.c0
  have t1 := T1.c1
  have t2 := T1.c2
  have CF := batchFew b A c w1 (HR.out.below B1.out (Nat.le_refl _)) HZ0.out
  unfold btVal at CF
  clear b1 CU T1 T0 B0
  cases hfew : fewB b with
  | false =>
    rw [hfew] at CF
    have CF := Lib.hid CF
    clear hfew
    go_wp2_with fail
    refine CF.out.mono ?_
    rintro e w2 ⟨rfl, b2⟩
    have B2 := Lib.hid (B1.out.trans (b2.mono B1.out.size))
    clear b2 CF t0 t1 t2
    go_wp2_with fail
    go_ret
    exact ⟨rfl, B2.out⟩
  | true =>
    obtain ⟨fl, fr⟩ := few_parts hfew
    have HZ1 := Lib.hid (few_sized hfew)
    have HFR := Lib.hid fr
    rw [hfew] at CF
    have CF := Lib.hid CF
    clear hfew fr
    go_wp2_with fail
    refine CF.out.mono ?_
    rintro e w2 ⟨rfl, b2⟩
    have B2 := Lib.hid (B1.out.trans (b2.mono B1.out.size))
    have T2 := HT1.out.below b2 (Nat.le_refl _)
    have HT2 := Lib.hid T2
    clear b2 CF t0 t1 t2
    have t0 := T2.c0
    have t1 := T2.c1
    have t2 := T2.c2
    clear T2
    by_cases hlen : l.length ≤ 20000
    case neg =>
      have x1 : decide ((20000 : Int) < (l.length : Int)) = true := decide_eq_true (by omega)
      go_wp2_with fail
      go_ret
      exact ⟨rfl, B2.out⟩
    have x1 : decide ((20000 : Int) < (l.length : Int)) = false := decide_eq_false (by omega)
    cases hmay : mayOk b with
    | false =>
      have CP := batchPutBad b A c w2 (HL.out.below B2.out) (HR.out.below B2.out (Nat.le_refl _)) HZ1.out hmay
      unfold btVal at CP
      have CP := Lib.hid CP
      clear hmay
      go_wp2_with fail
      refine CP.out.mono ?_
      rintro e w3 ⟨rfl, b3⟩
      have BK := Lib.hid (B2.out.trans (b3.mono B2.out.size))
      clear b3 CP t0 t1 t2
      have CX := batchGet X cap l w3 (HL.out.below BK.out) (HX.out.below BK.out (Nat.le_refl _)) (by omega)
      have CX := Lib.hid CX
      go_wp2_with fail
      cases hg : getF l with
      | none =>
        have CX := CX.out
        rw [hg] at CX
        have CX := Lib.hid CX
        clear hg
        refine CX.out.mono ?_
        rintro e w9 ⟨rfl, b9⟩
        have B9 := Lib.hid (BK.out.trans (b9.mono BK.out.size))
        unfold btVal
        clear b9 CX
        go_wp2_with fail
        go_ret
        exact ⟨rfl, B9.out.alloc B9.out.size _⟩
      | some z =>
        have CX := CX.out
        rw [hg] at CX
        have CX := Lib.hid CX
        obtain ⟨zm, zp, zf, _, _, zb⟩ := getF_some hg
        have zs := (batch_sized l).1
        rw [zb] at zs
        have HZ := Lib.hid (And.intro zm (And.intro zp (And.intro zf zs)))
        clear hg zm zp zf zb zs
        refine CX.out.mono ?_
        rintro e w9 ⟨Bz, cz, rfl, rz, b9⟩
        have B9 := Lib.hid ((BK.out.trans (b9.mono BK.out.size)).alloc (Nat.le_trans BK.out.size b9.size) (.cells #[.int .i64 z.seq, .int .i64 z.start, .slice Bz z.rows.length cz] 24))
        have RZ := Lib.hid (rz.alloc (.cells #[.int .i64 z.seq, .int .i64 z.start, .slice Bz z.rows.length cz] 24))
        have TZ := Lib.hid (BtB.new w9 z.seq z.start Bz z.rows.length cz)
        have CP := batchPut z Bz cz _ (HL.out.below B9.out) RZ.out HZ.out.2.2.2 HZ.out.2.2.1 HZ.out.1
        rw [HZ.out.2.1] at CP
        unfold btVal at CP ⊢
        have CP := Lib.hid CP
        clear b9 rz CX
        go_wp2_with fail
        refine CP.out.mono ?_
        rintro e w10 ⟨q, rfl, oq, b10⟩
        obtain ⟨Aq, cq, rfl, rq⟩ := oq.rd
        have B10 := Lib.hid (B9.out.trans (b10.mono B9.out.size))
        have RQ := Lib.hid rq
        have T10 := TZ.out.below b10 (Nat.le_refl _)
        have t0 := T10.c0
        have t1 := T10.c1
        have t2 := T10.c2
        have CM := batchMay z Bz cz w10 (HL.out.below B10.out) (RZ.out.below b10 (Nat.le_refl _)) HZ.out.2.2.2
        rw [HZ.out.1] at CM
        unfold btVal at CM
        have CM := Lib.hid CM
        clear b10 oq rq CP T10
        go_wp2_with fail
        refine CM.out.mono ?_
        rintro e w11 ⟨rfl, b11⟩
        have B11 := Lib.hid (B10.out.trans (b11.mono B10.out.size))
        have hq := rd_conv (RQ.out.below b11 (Nat.le_refl _))
        have hx := rd_conv (HX.out.below B11.out (Nat.le_refl _))
        clear b11 CM t0 t1 t2
        go_wp2_with fail
        go_ret
        exact ⟨rfl, B11.out⟩
    | true =>
      have CP := batchPut b A c w2 (HL.out.below B2.out) (HR.out.below B2.out (Nat.le_refl _)) HZ1.out HF.out hmay
      have hpl := putL_len (mayOk_in HF.out hmay)
      have hgp := getF_put HF.out hmay
      generalize putL b = PL at CP hpl hgp
      have HGP := Lib.hid hgp
      unfold btVal at CP
      have CP := Lib.hid CP
      clear hmay hgp
      go_wp2_with fail
      refine CP.out.mono ?_
      rintro e w3 ⟨p, rfl, op, b3⟩
      obtain ⟨Ap, cp, rfl, rp⟩ := op.rd
      have B3 := Lib.hid (B2.out.trans (b3.mono B2.out.size))
      have T3 := Lib.hid (HT2.out.below b3 (Nat.le_refl _))
      have CG := batchGet Ap cp PL w3 (HL.out.below B3.out) rp (by omega)
      rw [HGP.out] at CG
      have CG := Lib.hid CG
      clear b3 op rp CP t0 t1 t2
      go_wp2_with fail
      refine CG.out.mono ?_
      rintro e w4 ⟨By, cy, rfl, ry, b4⟩
      have B4 := Lib.hid ((B3.out.trans (b4.mono B3.out.size)).alloc (Nat.le_trans B3.out.size b4.size) (.cells #[.int .i64 b.seq, .int .i64 b.start, .slice By b.rows.length cy] 24))
      have RY := Lib.hid (ry.alloc (.cells #[.int .i64 b.seq, .int .i64 b.start, .slice By b.rows.length cy] 24))
      have T4 := ((T3.out.below b4 (Nat.le_refl _)).alloc (.cells #[.int .i64 b.seq, .int .i64 b.start, .slice By b.rows.length cy] 24))
      have T4' := (T3.out.below b4 (Nat.le_refl _))
      have t0 := T4.c0
      have t1 := T4.c1
      have t2 := T4.c2
      have u0 := T4'.c0
      have u1 := T4'.c1
      have u2 := T4'.c2
      have ltw := T4'.lt
      have CS := same b By A cy c _ RY.out (HR.out.below B4.out (Nat.le_refl _)) (by omega) (fun r hr => by have := (HFR.out r hr).2; omega)
      unfold btVal at CS ⊢
      have CS := Lib.hid CS
      clear b4 ry CG T4 T4'
      go_wp2_with fail
      refine CS.out.mono ?_
      rintro e w5 ⟨rfl, b5⟩
      have BK := Lib.hid (B4.out.trans (b5.mono B4.out.size))
      clear b5 CS t0 t1 t2 u0 u1 u2 ltw
      have CX := batchGet X cap l w5 (HL.out.below BK.out) (HX.out.below BK.out (Nat.le_refl _)) (by omega)
      have CX := Lib.hid CX
      go_wp2_with fail
      cases hg : getF l with
      | none =>
        have CX := CX.out
        rw [hg] at CX
        have CX := Lib.hid CX
        clear hg
        refine CX.out.mono ?_
        rintro e w9 ⟨rfl, b9⟩
        have B9 := Lib.hid (BK.out.trans (b9.mono BK.out.size))
        unfold btVal
        clear b9 CX
        go_wp2_with fail
        go_ret
        exact ⟨rfl, B9.out.alloc B9.out.size _⟩
      | some z =>
        have CX := CX.out
        rw [hg] at CX
        have CX := Lib.hid CX
        obtain ⟨zm, zp, zf, _, _, zb⟩ := getF_some hg
        have zs := (batch_sized l).1
        rw [zb] at zs
        have HZ := Lib.hid (And.intro zm (And.intro zp (And.intro zf zs)))
        clear hg zm zp zf zb zs
        refine CX.out.mono ?_
        rintro e w9 ⟨Bz, cz, rfl, rz, b9⟩
        have B9 := Lib.hid ((BK.out.trans (b9.mono BK.out.size)).alloc (Nat.le_trans BK.out.size b9.size) (.cells #[.int .i64 z.seq, .int .i64 z.start, .slice Bz z.rows.length cz] 24))
        have RZ := Lib.hid (rz.alloc (.cells #[.int .i64 z.seq, .int .i64 z.start, .slice Bz z.rows.length cz] 24))
        have TZ := Lib.hid (BtB.new w9 z.seq z.start Bz z.rows.length cz)
        have CP := batchPut z Bz cz _ (HL.out.below B9.out) RZ.out HZ.out.2.2.2 HZ.out.2.2.1 HZ.out.1
        rw [HZ.out.2.1] at CP
        unfold btVal at CP ⊢
        have CP := Lib.hid CP
        clear b9 rz CX
        go_wp2_with fail
        refine CP.out.mono ?_
        rintro e w10 ⟨q, rfl, oq, b10⟩
        obtain ⟨Aq, cq, rfl, rq⟩ := oq.rd
        have B10 := Lib.hid (B9.out.trans (b10.mono B9.out.size))
        have RQ := Lib.hid rq
        have T10 := TZ.out.below b10 (Nat.le_refl _)
        have t0 := T10.c0
        have t1 := T10.c1
        have t2 := T10.c2
        have CM := batchMay z Bz cz w10 (HL.out.below B10.out) (RZ.out.below b10 (Nat.le_refl _)) HZ.out.2.2.2
        rw [HZ.out.1] at CM
        unfold btVal at CM
        have CM := Lib.hid CM
        clear b10 oq rq CP T10
        go_wp2_with fail
        refine CM.out.mono ?_
        rintro e w11 ⟨rfl, b11⟩
        have B11 := Lib.hid (B10.out.trans (b11.mono B10.out.size))
        have hq := rd_conv (RQ.out.below b11 (Nat.le_refl _))
        have hx := rd_conv (HX.out.below B11.out (Nat.le_refl _))
        clear b11 CM t0 t1 t2
        go_wp2_with fail
        go_ret
        exact ⟨rfl, B11.out⟩
end Go.Proofs.YtahmcelkfbigkaaDoor
