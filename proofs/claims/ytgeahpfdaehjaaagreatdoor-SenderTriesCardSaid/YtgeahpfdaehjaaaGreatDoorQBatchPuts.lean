/-
  Layer 7 (batch): the document's own Put (P7.1): a batch's bytes. The law BatchPuts (layer 7), walked: whether any batch may be, and its bytes.
-/
import Derived.Test.YtgeahpfdaehjaaaGreatDoorQBatchPut
import Derived.Test.YtgeahpfdaehjaaaGreatDoorQWireRefPut
import Derived.Deep.RegionHeld3
import Derived.Test.YtgeahpfdaehjaaaGreatDoorQBatchHead
import Derived.Test.YtgeahpfdaehjaaaGreatDoorQBatchRefMay
import Derived.Deep.RegionHeld
namespace Go.Proofs.YtgeahpfdaehjaaaGreatDoor
open Go.ChangeShapes Go.WideShapes Go.ChangeAt Go.RowKit
set_option linter.unusedVariables false

theorem RowB.gr {w w' : World} {B0 g : Nat} {r : Rw} {B : Option Addr} {c : Nat} (h : RowB w g r B c) (k : Gr B0 w w') : RowB w' g r B c :=
  ⟨k.block h.blk (fun c fz e => by injection e with _ e2 _; exact absurd e2 (by decide))⟩
theorem Pb.app {w wr w1 : World} {b : Bt} {A : Option Addr} {c : Nat} {L l1 : List UInt8} {v v1 : Value} (h : Pb w b A c L v wr) (o1 : OB w1 wr.heap.size v1 l1) (b1 : Below wr.heap.size wr w1) (hl : L.length + l1.length ≤ 1000000) :
    ∃ A1 c1 v2 w2, v1 = .slice A1 l1.length c1 ∧ (Builtin.append_ #[64, 64] 64 #[v, .slice A1 l1.length c1]).run Tryz.prog w1 = .ok v2 w2 ∧ Pb w b A c (L ++ l1) v2 w2 ∧ Gr (w.heap.size + 1) w1 w2 := by
  obtain ⟨A1, c1, rfl, rd1⟩ := o1.rd
  obtain ⟨v2, w2, r2, o2, g2⟩ := ob_row (h.own.below b1) rd1 hl (Nat.le_trans h.size b1.size)
  exact ⟨A1, c1, v2, w2, rfl, r2, h.on o2 ((b1.mono h.size).trans g2.below), g2⟩
theorem keep2 {w1 w2 : World} {g : Nat} {u v : Value} (h : w1.cell? ⟨g, 0, none⟩ = some u ∧ w1.cell? ⟨g, 1, none⟩ = some v) (hb : Below w1.heap.size w1 w2) : w2.cell? ⟨g, 0, none⟩ = some u ∧ w2.cell? ⟨g, 1, none⟩ = some v := ⟨cell_below h.1 hb, cell_below h.2 hb⟩
/-- Where the writing of a row stands, in its own block. -/
structure Rp (w : World) (b : Bt) (A : Option Addr) (c : Nat) (r : Rw) (B : Option Addr) (c' G : Nat) (L : List UInt8) (v : Value) (wr : World) : Prop where
  pb : Pb w b A c L v wr
  row : RowB wr G r B c'
section
variable {w wr w1 : World} {b : Bt} {A : Option Addr} {c : Nat} {r : Rw} {B : Option Addr} {c' G : Nat} {L l1 : List UInt8} {v v1 : Value}
theorem Rp.app (h : Rp w b A c r B c' G L v wr) (o1 : OB w1 wr.heap.size v1 l1) (b1 : Below wr.heap.size wr w1) (hl : L.length + l1.length ≤ 1000000) :
    ∃ A1 c1 v2 w2, v1 = .slice A1 l1.length c1 ∧ (Builtin.append_ #[64, 64] 64 #[v, .slice A1 l1.length c1]).run Tryz.prog w1 = .ok v2 w2 ∧ Rp w b A c r B c' G (L ++ l1) v2 w2 := by
  obtain ⟨A1, c1, v2, w2, e, r2, p2, g2⟩ := h.pb.app o1 b1 hl
  exact ⟨A1, c1, v2, w2, e, r2, p2, (h.row.below b1 (Nat.le_refl _)).gr g2⟩
theorem Rp.byte (h : Rp w b A c r B c' G L v wr) (x : UInt8) (n : Int) (hc : ((x.toNat : Nat) : Int) = n) (hl : L.length ≤ 900000) :
    ∃ v2 w2, (Builtin.append_ #[64, 64] 64 #[v, .slice (some ⟨wr.heap.size, 0, none⟩) 1 1]).run Tryz.prog (wr.alloc (.cells #[.int .u8 n] 5)) = .ok v2 w2 ∧ Rp w b A c r B c' G (L ++ [x]) v2 w2 := by
  subst hc
  obtain ⟨v2, w2, r2, o2, g2⟩ := ob_lit h.pb.own [x] (by simp; omega) h.pb.size
  exact ⟨v2, w2, r2, h.pb.on o2 g2.below, h.row.gr g2⟩
end
theorem step_append_at2 {P : Program} {ops : Array Oper} {o : Oper} {a : Act} {w w' : World} {K : Act → World → Prop} {Q : Exit → Act → World → Prop} {E : Prop}
    (hg : o.guard = none) (s x : Operand) (t : TypeId) (hop : o.op = Op.call { callee := Callee.builtin Builtin.append, args := #[s, x], argTypes := #[t, t] })
    (vs vx v' : Value) (hs : a.eval s = vs) (hx : a.eval x = vx) (hrun : (Builtin.append_ #[t, t] o.type #[vs, vx]).run P w = .ok v' w') (hK : K (a.put o.dst v') w') :
    if Region.wanted o (yielded ops a.tmps) = true then Oper.wp P o a w K Q else E := by
  have hw : Region.wanted o (yielded ops a.tmps) = true := by simp [Region.wanted, hg]
  rw [if_pos hw]
  unfold Oper.wp
  simp [execOp, hop, resolve, invoke, builtin, hs, hx, hrun, Result.andThen]
  exact hK
set_option maxHeartbeats 4000000 in
set_option maxRecDepth 100000 in
theorem refPut (b : Bt) (A : Option Addr) (c : Nat) (w : World) (hr : RdR w A b.rows) (hf : ∀ r ∈ b.rows, FitR r) (hm : mayOk b = true) :
    Calls Tryz.prog 30 #[btVal b.seq b.start A b.rows.length c] w (Bytes w.heap.size (putL b) w) := by
  have hI := mayOk_in hf hm
  obtain ⟨s, hs⟩ : ∃ s : Nat, b.seq = (s : Int) := ⟨b.seq.toNat, by have := hI.seq0; omega⟩
  obtain ⟨t, ht⟩ : ∃ t : Nat, b.start = (t : Int) := ⟨b.start.toNat, by have := hI.start0; omega⟩
  have hall := putL_len hI
  have hpl : putL b = enc s ++ enc t ++ enc b.rows.length ++ rowsL b.rows := by unfold putL putHead; rw [hs, ht, Int.toNat_natCast, Int.toNat_natCast]
  have hs1 : s ≤ 2147483647 := by have := hI.seq1; omega
  have ht1 : t ≤ 1099511627776 := by have := hI.start1; omega
  have hn := hI.len
  have T0' := BtB.new w b.seq b.start A b.rows.length c
  have b0 := Lib.hid ((Below.refl w.heap.size w).alloc (Nat.le_refl _) (.cells #[.int .i64 b.seq, .int .i64 b.start, .slice A b.rows.length c] 60))
  have HI := Lib.hid hI
  have HR := Lib.hid hr
  generalize putL b = LL at hall hpl ⊢
  have HP := Lib.hid hpl
  have z1 := enc_length s (by omega)
  have z2 := enc_length t (by omega)
  have z3 := enc_length b.rows.length (by omega)
  unfold btVal
  rw [hs, ht] at T0' b0 ⊢
  have HST := Lib.hid (And.intro hs ht)
  have T0 := Lib.hid T0'
  have C1 := Lib.hid (fun w' (h : w.heap.size + 1 ≤ w'.heap.size) => refNumber s w' (w.heap.size + 1) (by omega) h)
  have C2 := Lib.hid (fun w' => refNumber t w' w'.heap.size (by omega) (Nat.le_refl _))
  have ws : IntKind.u64.wrap (s : Int) = (s : Int) := by rw [IntKind.wrap_u64]; omega
  have wt : IntKind.u64.wrap (t : Int) = (t : Int) := by rw [IntKind.wrap_u64]; omega
  clear hr hf hm hI hpl hs ht T0'
  go_enter Tryz.func30, Tryz.ntmps30
  go_wp2
  have hszW : w.heap.size + 1 ≤ (w.alloc (.cells #[.int .i64 (s : Nat), .int .i64 (t : Nat), .slice A b.rows.length c] 60)).heap.size := by simp
  generalize w.alloc (.cells #[.int .i64 (s : Nat), .int .i64 (t : Nat), .slice A b.rows.length c] 60) = W at T0 b0 hszW ⊢
  have hszD : w.heap.size + 1 ≤ W.drew.heap.size := hszW
  have TD := T0.out.below (below_drew1 W) (Nat.le_refl _)
  have t0 := T0.out.c0
  have t1 := T0.out.c1
  go_region_held3 (fun w' => w'.cell? ⟨w.heap.size, 0, none⟩ = some (.int .i64 (s : Nat)) ∧ w'.cell? ⟨w.heap.size, 1, none⟩ = some (.int .i64 (t : Nat)))
    (first | exact keep2 ⟨t0, t1⟩ (below_drew1 _) | exact ⟨t9.c0, t9.c1⟩ | exact ⟨t8.c0, t8.c1⟩ | exact ⟨t7.c0, t7.c1⟩ | fail)
    (first
      | ((go_at_call 60; with_reducible refine (C1.out W.drew hszD).mono ?_); rintro e w7 ⟨v7, rfl, o7, b7⟩; have t7 := TD.keep b7 (Nat.lt_succ_self _))
      | ((go_at_call 60; with_reducible refine (C2.out w7).mono ?_); rintro e w8 ⟨v8, rfl, o8, b8⟩; have t8 := t7.below b8 (Nat.le_refl _))
      | (obtain ⟨A8, c8, rfl, rd8⟩ := o8.rd; obtain ⟨v9, w9, r9, o9, g9⟩ := ob_row (o7.below b8) rd8 (by omega) (Nat.le_trans (Nat.le_trans hszD b7.size) b8.size); have t9 := t8.keep g9.below (Nat.lt_succ_self _); refine step_append_at2 rfl (.tmp 10) (.tmp 14) 64 rfl _ _ _ rfl rfl r9 ?_)
      | fail)
  have H9 : Pb w b A c (enc s ++ enc t) v9 w9 := ⟨o9, by rw [HST.out.1, HST.out.2]; exact t9, b0.out.trans (((below_drew1 W).mono (Nat.le_trans (Nat.le_succ _) hszW)).trans ((b7.mono (Nat.le_succ _)).trans ((b8.mono (Nat.le_trans (Nat.le_trans (Nat.le_succ _) hszD) b7.size)).trans (g9.below.mono (Nat.le_succ _)))))⟩
  generalize hl3 : enc s ++ enc t = L3 at H9
  have y3 : L3.length ≤ 20 := by rw [← hl3, List.length_append]; omega
  have HL3 := Lib.hid hl3
  have HH3 := Lib.hid H9
  have q2 := H9.bt.c2
  have C4 := Lib.hid (refNumber b.rows.length w9 w9.heap.size (by omega) (Nat.le_refl _))
  clear H9 hl3 o9 g9 t9 r9 rd8 o8 b8 t8 o7 b7 t7 TD t0 t1 T0 b0 hszW hszD C1 C2
  go_wp2_with fail
  refine C4.out.mono ?_
  rintro e w4 ⟨v4, rfl, o4, b4⟩
  obtain ⟨A5, c5, v5, w5, rfl, r5, p5, g5⟩ := HH3.out.app o4 b4 (by omega)
  generalize hl4 : L3 ++ enc b.rows.length = L4 at p5
  have R5 := Lib.hid r5
  have HH4 := Lib.hid p5
  have HA : Hid (LL = L4 ++ rowsL b.rows) := Lib.hid (by rw [HP.out, HL3.out, hl4])
  have q2' := p5.bt.c2
  clear o4 b4 r5 p5 g5 hl4 HH3 q2 HL3 HP z1 z2 z3 y3 C4
  go_wp2_with (first | (at_builtin; refine wpList_append_two rfl (.tmp 16) (.tmp 21) 64 64 rfl _ _ _ rfl rfl R5.out ?_) | fail)
  go_loopg [3, 4] (b.rows.length) (fun g s3 s4 wx => ∃ (i : Nat) (acc : List UInt8), i + g = b.rows.length ∧ s4 = .int .i64 i ∧ Hid (Pb w b A c acc s3 wx ∧ LL = acc ++ rowsL (b.rows.drop i)))
  case atStart => exact ⟨0, L4, by omega, rfl, Lib.hid ⟨HH4.out, HA.out⟩⟩
  case round =>
    clear HH4 HA q2' R5
    obtain ⟨i, acc, hig, rfl, HG⟩ := hrel
    have q2 := HG.out.1.bt.c2
    cases gk with
    | zero =>
      have e1 : decide ((i : Int) < (b.rows.length : Int)) = false := decide_eq_false (by omega)
      have e2 : decide (i < b.rows.length) = false := decide_eq_false (by omega)
      have HE : Hid (LL = acc) := Lib.hid (by rw [HG.out.2, List.drop_eq_nil_of_le (by omega)]; simp [rowsL])
      go_wp2_with fail
      go_ret
      exact ⟨_, rfl, by rw [HE.out]; exact ownsB_mono HG.out.1.own (Nat.le_succ _), HG.out.1.below⟩
    | succ g =>
      have hlt : i < b.rows.length := by omega
      have hltz : (i : Int) < (b.rows.length : Int) := by omega
      obtain ⟨r, hri⟩ : ∃ r, b.rows[i]? = some r := ⟨_, List.getElem?_eq_getElem hlt⟩
      obtain ⟨bb, o, B, c', rfl, ha0⟩ := HR.out.at hri
      have HB0 := Lib.hid ha0.bk
      have ha := ha0.below HG.out.1.below (Nat.le_refl _)
      have hin := HI.out.rows r (List.mem_of_getElem? hri)
      have HF := Lib.hid hin.fit
      obtain ⟨k, hk⟩ : ∃ k : Nat, r.kind = (k : Int) := ⟨r.kind.toNat, by have := hin.kind0; omega⟩
      have p0 := ha.p0
      have p1 := ha.p1
      have p2 := ha.p2
      have p3 := ha.p3
      have p4 := ha.p4
      have p5 := ha.p5
      have p6 := ha.p6
      have p7 := ha.p7
      have hk3 : k ≤ 3 := by have := hin.kind1; omega
      have hks := hin.key
      have hbs := hin.len
      have s1 := encT_len r.key (by omega)
      have s2 := enc_length k (by omega)
      have s3 := enc_length r.many hin.fit.many
      have s4 := enc_length _ (fold_lt hin.fit.sum0 hin.fit.sum1)
      have s5 := enc_length _ (fold_lt hin.fit.least0 hin.fit.least1)
      have s6 := enc_length _ (fold_lt hin.fit.most0 hin.fit.most1)
      have s8 := enc_length r.bks.length (by omega)
      have HX : Hid (LL = (acc ++ (encT r.key ++ enc k ++ enc r.many ++ enc (foldN r.sum) ++ enc (foldN r.least) ++ enc (foldN r.most) ++ enc (overN r.over) ++ enc r.bks.length) ++ bksL r.bks) ++ rowsL (b.rows.drop (i + 1))) := Lib.hid (by
        obtain ⟨h1, h2⟩ := List.getElem?_eq_some_iff.1 hri
        rw [HG.out.2, List.drop_eq_getElem_cons h1, h2]
        simp [rowsL, rowL, rowHead, hk])
      have hac : acc.length ≤ 230000 := by have := congrArg List.length HG.out.2; rw [List.length_append] at this; omega
      have P0 : Rp w b _ c r B c' wr.heap.size acc _ (wr.alloc (rowObj r B c')) := ⟨HG.out.1.on (HG.out.1.own.alloc _) ((Below.refl (w.heap.size + 1) wr).alloc HG.out.1.size _), RowB.new wr r B c'⟩
      have CT := refText r.key (wr.alloc (rowObj r B c')) _ (Nat.le_refl _) (by omega)
      unfold rowObj at P0 CT
      have HH0 := Lib.hid P0
      have CT := Lib.hid CT
      have r0 := P0.row.c0
      have HKK := Lib.hid hk
      clear P0 ha0 ha hin hri hk HG
      go_wp2_with fail
      generalize wr.heap.size = G at HH0 r0 ⊢
      refine CT.out.mono ?_
      rintro e u1 ⟨q1, rfl, oq, bq⟩
      obtain ⟨A1, c1, v1, w1, rfl, rr1, pp1⟩ := HH0.out.app oq bq (by omega)
      generalize hl1 : acc ++ encT r.key = L1 at pp1
      have z1 : L1.length ≤ 230312 := by rw [← hl1, List.length_append]; omega
      have R1 := Lib.hid rr1
      have HL1 := Lib.hid hl1
      have HH1 := Lib.hid pp1
      have r1 := pp1.row.c1
      rw [HKK.out] at r1
      have CN1 := Lib.hid (refNumber k w1 w1.heap.size (by omega) (Nat.le_refl _))
      clear oq bq rr1 pp1 hl1 HH0 CT r0
      go_wp2_with (first | (at_builtin; refine wpList_append_two rfl (.tmp 35) (.tmp 38) 64 64 rfl _ _ _ rfl rfl R1.out ?_) | fail)
      refine CN1.out.mono ?_
      rintro e u2 ⟨q2, rfl, oq, bq⟩
      obtain ⟨A2, c2, v2, w2, rfl, rr2, pp2⟩ := HH1.out.app oq bq (by omega)
      generalize hl2 : L1 ++ enc k = L2 at pp2
      have z2 : L2.length ≤ 230324 := by rw [← hl2, List.length_append]; omega
      have R2 := Lib.hid rr2
      have HL2 := Lib.hid hl2
      have HH2 := Lib.hid pp2
      have r2 := pp2.row.c2
      have CN2 := Lib.hid (refNumber r.many w2 w2.heap.size (HF.out.many) (Nat.le_refl _))
      clear oq bq rr2 pp2 hl2 HH1 CN1 r1 R1
      go_wp2_with (first | (at_builtin; refine wpList_append_two rfl (.tmp 40) (.tmp 44) 64 64 rfl _ _ _ rfl rfl R2.out ?_) | fail)
      refine CN2.out.mono ?_
      rintro e u3 ⟨q3, rfl, oq, bq⟩
      obtain ⟨A3, c3, v3, w3, rfl, rr3, pp3⟩ := HH2.out.app oq bq (by omega)
      generalize hl3 : L2 ++ enc r.many = L3 at pp3
      have z3 : L3.length ≤ 230336 := by rw [← hl3, List.length_append]; omega
      have R3 := Lib.hid rr3
      have HL3 := Lib.hid hl3
      have HH3 := Lib.hid pp3
      have r3 := pp3.row.c3
      have CN3 := Lib.hid (refWhole r.sum w3 w3.heap.size (Nat.le_refl _) HF.out.sum0 HF.out.sum1)
      clear oq bq rr3 pp3 hl3 HH2 CN2 r2 R2
      go_wp2_with (first | (at_builtin; refine wpList_append_two rfl (.tmp 46) (.tmp 49) 64 64 rfl _ _ _ rfl rfl R3.out ?_) | fail)
      refine CN3.out.mono ?_
      rintro e u4 ⟨q4, rfl, oq, bq⟩
      obtain ⟨A4, c4, v4, w4, rfl, rr4, pp4⟩ := HH3.out.app oq bq (by omega)
      generalize hl4 : L3 ++ enc (foldN r.sum) = L4 at pp4
      have z4 : L4.length ≤ 230348 := by rw [← hl4, List.length_append]; omega
      have R4 := Lib.hid rr4
      have HL4 := Lib.hid hl4
      have HH4 := Lib.hid pp4
      have r4 := pp4.row.c4
      have CN4 := Lib.hid (refWhole r.least w4 w4.heap.size (Nat.le_refl _) HF.out.least0 HF.out.least1)
      clear oq bq rr4 pp4 hl4 HH3 CN3 r3 R3
      go_wp2_with (first | (at_builtin; refine wpList_append_two rfl (.tmp 51) (.tmp 54) 64 64 rfl _ _ _ rfl rfl R4.out ?_) | fail)
      refine CN4.out.mono ?_
      rintro e u5 ⟨q5, rfl, oq, bq⟩
      obtain ⟨A5, c5, v5, w5, rfl, rr5, pp5⟩ := HH4.out.app oq bq (by omega)
      generalize hl5 : L4 ++ enc (foldN r.least) = L5 at pp5
      have z5 : L5.length ≤ 230360 := by rw [← hl5, List.length_append]; omega
      have R5 := Lib.hid rr5
      have HL5 := Lib.hid hl5
      have HH5 := Lib.hid pp5
      have r5 := pp5.row.c5
      have CN5 := Lib.hid (refWhole r.most w5 w5.heap.size (Nat.le_refl _) HF.out.most0 HF.out.most1)
      clear oq bq rr5 pp5 hl5 HH4 CN4 r4 R4
      go_wp2_with (first | (at_builtin; refine wpList_append_two rfl (.tmp 56) (.tmp 59) 64 64 rfl _ _ _ rfl rfl R5.out ?_) | fail)
      refine CN5.out.mono ?_
      rintro e u6 ⟨q6, rfl, oq, bq⟩
      obtain ⟨A6, c6, v6, w6, rfl, rr6, pp6⟩ := HH5.out.app oq bq (by omega)
      generalize hl6 : L5 ++ enc (foldN r.most) = L6 at pp6
      have z6 : L6.length ≤ 230372 := by rw [← hl6, List.length_append]; omega
      have R6 := Lib.hid rr6
      have HL6 := Lib.hid hl6
      have HH6 := Lib.hid pp6
      have r6 := pp6.row.c6
      have hov : (r.over = true ∧ enc (overN r.over) = [1]) ∨ (r.over = false ∧ enc (overN r.over) = [0]) := by
        cases r.over with
        | true => exact .inl ⟨rfl, enc_small (by decide)⟩
        | false => exact .inr ⟨rfl, enc_small (by decide)⟩
      clear oq bq rr6 pp6 hl6 HH5 CN5 r5 R5
      rcases hov with ⟨ho, he⟩ | ⟨ho, he⟩
      · rw [ho] at r6
        obtain ⟨v7, w7, rr7, pp7⟩ := HH6.out.byte 1 1 rfl (by omega)
        rw [← he] at pp7
        generalize hl7 : L6 ++ enc (overN r.over) = L7 at pp7
        have z7 : L7.length ≤ 230384 := by rw [← hl7, List.length_append, he]; simp only [List.length_cons, List.length_nil]; omega
        have R7 := Lib.hid rr7
        have HL7 := Lib.hid hl7
        have HH7 := Lib.hid pp7
        have r7 := pp7.row.c7
        have CN7 := Lib.hid (refNumber r.bks.length w7 w7.heap.size (by omega) (Nat.le_refl _))
        clear rr7 pp7 hl7 HH6 ho he
        go_wp2_with (first | (at_builtin; refine wpList_append_two rfl (.tmp 61) (.tmp 64) 64 64 rfl _ _ _ rfl rfl R6.out ?_) | (at_builtin; refine wpList_append_two rfl (.tmp 68) (.tmp 69) 64 64 rfl _ _ _ rfl rfl R7.out ?_) | fail)
        refine CN7.out.mono ?_
        rintro e u8 ⟨q8, rfl, oq, bq⟩
        obtain ⟨A8, c8, v8, w8, rfl, rr8, pp8⟩ := HH7.out.app oq bq (by omega)
        generalize hl8 : L7 ++ enc r.bks.length = L8 at pp8
        have R8 := Lib.hid rr8
        have HH8 := Lib.hid pp8
        have r8 := pp8.row.c7
        have HA : Hid (LL = (L8 ++ bksL r.bks) ++ rowsL (b.rows.drop (i + 1))) := Lib.hid (by
          rw [HX.out, ← hl8, ← HL7.out, ← HL6.out, ← HL5.out, ← HL4.out, ← HL3.out, ← HL2.out, ← HL1.out]
          simp only [List.append_assoc])
        clear oq bq rr8 pp8 hl8 HH7 CN7 r7 R7 R6 r6 HL1 HL2 HL3 HL4 HL5 HL6 HL7 HX z1 z2 z3 z4 z5 z6 z7 s1 s2 s3 s4 s5 s6 s8 hac
        go_wp2_with (first | (at_builtin; refine wpList_append_two rfl (.tmp 74) (.tmp 79) 64 64 rfl _ _ _ rfl rfl R8.out ?_) | fail)
        go_loopg [3, 6] (r.bks.length) (fun g3 s3 s6 wx => ∃ (j : Nat) (acc2 : List UInt8), j + g3 = r.bks.length ∧ s6 = .int .i64 j ∧ Hid (Rp w b (some ⟨bb, o, none⟩) c r B c' G acc2 s3 wx ∧ LL = (acc2 ++ bksL (r.bks.drop j)) ++ rowsL (b.rows.drop (i + 1))))
        case atStart => exact ⟨0, L8, by omega, rfl, Lib.hid ⟨HH8.out, HA.out⟩⟩
        case round =>
          clear HH8 HA r8 R8
          obtain ⟨j, acc2, hjg, rfl, HJ⟩ := hrel
          have r8 := HJ.out.1.row.c7
          cases gk with
          | zero =>
            have e1 : decide ((j : Int) < (r.bks.length : Int)) = false := decide_eq_false (by omega)
            have e2 : decide (j < r.bks.length) = false := decide_eq_false (by omega)
            have HE : Hid (LL = acc2 ++ rowsL (b.rows.drop (i + 1))) := Lib.hid (by rw [HJ.out.2, show r.bks.drop j = [] from List.drop_eq_nil_of_le (by omega)]; simp [bksL])
            go_wp2_with fail
            go_roundg g
            case rel => exact ⟨i + 1, acc2, by omega, by go_num, Lib.hid ⟨HJ.out.1.pb, HE.out⟩⟩
            case measure => omega
          | succ g4 =>
            have hltj : j < r.bks.length := by omega
            have hltk : (j : Int) < (r.bks.length : Int) := by omega
            have hN := HB0.out.below HJ.out.1.pb.below (Nat.le_refl _)
            obtain ⟨ad, rfl⟩ := hN.some_of (by omega)
            obtain ⟨n, hni⟩ : ∃ n, r.bks[j]? = some n := ⟨_, List.getElem?_eq_getElem hltj⟩
            have hc := hN.rd ad rfl j n hni
            have hnlt := HF.out.bks n (List.mem_of_getElem? hni)
            have HX2 : Hid (LL = ((acc2 ++ enc n) ++ bksL (r.bks.drop (j + 1))) ++ rowsL (b.rows.drop (i + 1))) := Lib.hid (by
              obtain ⟨h1, h2⟩ := List.getElem?_eq_some_iff.1 hni
              rw [HJ.out.2, List.drop_eq_getElem_cons (l := r.bks) h1, h2]
              simp [bksL])
            have hac2 : acc2.length ≤ 230000 := by have := congrArg List.length HJ.out.2; rw [List.length_append, List.length_append] at this; omega
            have hen := enc_length n hnlt
            have CN9 := Lib.hid (refNumber n wr wr.heap.size hnlt (Nat.le_refl _))
            clear hN hni hnlt
            go_wp2_with fail
            refine CN9.out.mono ?_
            rintro e u9 ⟨q9, rfl, oq, bq⟩
            obtain ⟨A9, c9, v9, w9, rfl, rr9, pp9⟩ := HJ.out.1.app oq bq (by omega)
            have R9 := Lib.hid rr9
            have HH9 := Lib.hid pp9
            clear oq bq rr9 pp9 CN9
            go_wp2_with (first | (at_builtin; refine wpList_append_two rfl (.tmp 88) (.tmp 94) 64 64 rfl _ _ _ rfl rfl R9.out ?_) | fail)
            go_roundg g4
            case rel => exact ⟨j + 1, acc2 ++ enc n, by omega, by go_num, Lib.hid ⟨HH9.out, HX2.out⟩⟩
            case measure => omega
      · rw [ho] at r6
        obtain ⟨v7, w7, rr7, pp7⟩ := HH6.out.byte 0 0 rfl (by omega)
        rw [← he] at pp7
        generalize hl7 : L6 ++ enc (overN r.over) = L7 at pp7
        have z7 : L7.length ≤ 230384 := by rw [← hl7, List.length_append, he]; simp only [List.length_cons, List.length_nil]; omega
        have R7 := Lib.hid rr7
        have HL7 := Lib.hid hl7
        have HH7 := Lib.hid pp7
        have r7 := pp7.row.c7
        have CN7 := Lib.hid (refNumber r.bks.length w7 w7.heap.size (by omega) (Nat.le_refl _))
        clear rr7 pp7 hl7 HH6 ho he
        go_wp2_with (first | (at_builtin; refine wpList_append_two rfl (.tmp 61) (.tmp 64) 64 64 rfl _ _ _ rfl rfl R6.out ?_) | (at_builtin; refine wpList_append_two rfl (.tmp 71) (.tmp 72) 64 64 rfl _ _ _ rfl rfl R7.out ?_) | fail)
        refine CN7.out.mono ?_
        rintro e u8 ⟨q8, rfl, oq, bq⟩
        obtain ⟨A8, c8, v8, w8, rfl, rr8, pp8⟩ := HH7.out.app oq bq (by omega)
        generalize hl8 : L7 ++ enc r.bks.length = L8 at pp8
        have R8 := Lib.hid rr8
        have HH8 := Lib.hid pp8
        have r8 := pp8.row.c7
        have HA : Hid (LL = (L8 ++ bksL r.bks) ++ rowsL (b.rows.drop (i + 1))) := Lib.hid (by
          rw [HX.out, ← hl8, ← HL7.out, ← HL6.out, ← HL5.out, ← HL4.out, ← HL3.out, ← HL2.out, ← HL1.out]
          simp only [List.append_assoc])
        clear oq bq rr8 pp8 hl8 HH7 CN7 r7 R7 R6 r6 HL1 HL2 HL3 HL4 HL5 HL6 HL7 HX z1 z2 z3 z4 z5 z6 z7 s1 s2 s3 s4 s5 s6 s8 hac
        go_wp2_with (first | (at_builtin; refine wpList_append_two rfl (.tmp 74) (.tmp 79) 64 64 rfl _ _ _ rfl rfl R8.out ?_) | fail)
        go_loopg [3, 6] (r.bks.length) (fun g3 s3 s6 wx => ∃ (j : Nat) (acc2 : List UInt8), j + g3 = r.bks.length ∧ s6 = .int .i64 j ∧ Hid (Rp w b (some ⟨bb, o, none⟩) c r B c' G acc2 s3 wx ∧ LL = (acc2 ++ bksL (r.bks.drop j)) ++ rowsL (b.rows.drop (i + 1))))
        case atStart => exact ⟨0, L8, by omega, rfl, Lib.hid ⟨HH8.out, HA.out⟩⟩
        case round =>
          clear HH8 HA r8 R8
          obtain ⟨j, acc2, hjg, rfl, HJ⟩ := hrel
          have r8 := HJ.out.1.row.c7
          cases gk with
          | zero =>
            have e1 : decide ((j : Int) < (r.bks.length : Int)) = false := decide_eq_false (by omega)
            have e2 : decide (j < r.bks.length) = false := decide_eq_false (by omega)
            have HE : Hid (LL = acc2 ++ rowsL (b.rows.drop (i + 1))) := Lib.hid (by rw [HJ.out.2, show r.bks.drop j = [] from List.drop_eq_nil_of_le (by omega)]; simp [bksL])
            go_wp2_with fail
            go_roundg g
            case rel => exact ⟨i + 1, acc2, by omega, by go_num, Lib.hid ⟨HJ.out.1.pb, HE.out⟩⟩
            case measure => omega
          | succ g4 =>
            have hltj : j < r.bks.length := by omega
            have hltk : (j : Int) < (r.bks.length : Int) := by omega
            have hN := HB0.out.below HJ.out.1.pb.below (Nat.le_refl _)
            obtain ⟨ad, rfl⟩ := hN.some_of (by omega)
            obtain ⟨n, hni⟩ : ∃ n, r.bks[j]? = some n := ⟨_, List.getElem?_eq_getElem hltj⟩
            have hc := hN.rd ad rfl j n hni
            have hnlt := HF.out.bks n (List.mem_of_getElem? hni)
            have HX2 : Hid (LL = ((acc2 ++ enc n) ++ bksL (r.bks.drop (j + 1))) ++ rowsL (b.rows.drop (i + 1))) := Lib.hid (by
              obtain ⟨h1, h2⟩ := List.getElem?_eq_some_iff.1 hni
              rw [HJ.out.2, List.drop_eq_getElem_cons (l := r.bks) h1, h2]
              simp [bksL])
            have hac2 : acc2.length ≤ 230000 := by have := congrArg List.length HJ.out.2; rw [List.length_append, List.length_append] at this; omega
            have hen := enc_length n hnlt
            have CN9 := Lib.hid (refNumber n wr wr.heap.size hnlt (Nat.le_refl _))
            clear hN hni hnlt
            go_wp2_with fail
            refine CN9.out.mono ?_
            rintro e u9 ⟨q9, rfl, oq, bq⟩
            obtain ⟨A9, c9, v9, w9, rfl, rr9, pp9⟩ := HJ.out.1.app oq bq (by omega)
            have R9 := Lib.hid rr9
            have HH9 := Lib.hid pp9
            clear oq bq rr9 pp9 CN9
            go_wp2_with (first | (at_builtin; refine wpList_append_two rfl (.tmp 88) (.tmp 94) 64 64 rfl _ _ _ rfl rfl R9.out ?_) | fail)
            go_roundg g4
            case rel => exact ⟨j + 1, acc2 ++ enc n, by omega, by go_num, Lib.hid ⟨HH9.out, HX2.out⟩⟩
            case measure => omega
end Go.Proofs.YtgeahpfdaehjaaaGreatDoor
namespace Go.Proofs.YtgeahpfdaehjaaaGreatDoor
open Go.ChangeShapes Go.WideShapes Go.ChangeAt Go.RowKit
set_option linter.unusedVariables false

/-- What the last test reads: the batch's block, and the bytes that were put. -/
structure Six (W : World) (b : Bt) (A : Option Addr) (c : Nat) (Ap : Option Addr) (cp : Nat) (l : List UInt8) (w : World) : Prop where
  below : Below W.heap.size W w
  bt : BtB w W.heap.size b.seq b.start A b.rows.length c
  rd : RdS w Ap cp l
section
variable {W w w' : World} {b : Bt} {A Ap : Option Addr} {c cp : Nat} {l : List UInt8} {t : ByteArray}
theorem Six.on (h : Six W b A c Ap cp l w) (hb : Below w.heap.size w w') : Six W b A c Ap cp l w' := ⟨h.below.trans (hb.mono h.below.size), h.bt.below hb (Nat.le_refl _), h.rd.below hb (Nat.le_refl _)⟩
theorem Six.says (h : Six W b A c Ap cp l w) (e : (⟨l.toArray⟩ : ByteArray) = t) :
    w.cell? ⟨W.heap.size, 0, none⟩ = some (.int .i64 b.seq) ∧ w.cell? ⟨W.heap.size, 1, none⟩ = some (.int .i64 b.start) ∧ w.cell? ⟨W.heap.size, 2, none⟩ = some (.slice A b.rows.length c) ∧
    (convert 64 9 (.slice Ap l.length cp)).run Tryz.prog w = .ok (.string t) w ∧ Hid (Six W b A c Ap cp l w) := by
  subst e
  exact ⟨h.bt.c0, h.bt.c1, h.bt.c2, rd_conv h.rd, Lib.hid h⟩
end
end Go.Proofs.YtgeahpfdaehjaaaGreatDoor
