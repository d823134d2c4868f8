/-
  Layer 18 (tally): the document's own Come.
-/
import Derived.Test.YtedhciolnekpaaaGreatDoorGrpL
import Derived.Deep.Cut
import Derived.Deep.CutRange
namespace Go.Proofs.YtedhciolnekpaaaGreatDoor
open Go.ChangeShapes Go.WideShapes Go.ChangeAt Go.RowKit
set_option linter.unusedVariables false

theorem RowB.low {w w' : World} {g N : Nat} {r : Rw} {B : Option Addr} {c : Nat} (h : RowB w g r B c) (hb : Below N w w') (hg : g < N) : RowB w' g r B c := ⟨by rw [hb.block _ hg]; exact h.blk⟩
/-- Numbers that lie elsewhere are appended to none. -/
theorem append_nats {w : World} {N : Nat} {B : Option Addr} {c : Nat} {l : List Nat} (h : RdN w B c l) (hN : N ≤ w.heap.size) (hl : l.length ≤ 1000) :
    ∃ B' c' w', (Builtin.append_ #[53, 53] 53 #[.slice none 0 0, .slice B l.length c]).run Tryz.prog w = .ok (.slice B' l.length c') w' ∧ OwnN w' N B' c' l ∧ Below w.heap.size w w' := by
  obtain ⟨i, hi, hz0, hz1, hz2⟩ := info_parts infoN
  have h0 : w.ownsRow N 51 1 (.slice none 0 0) 0 [] := World.ownsRow_nil w N _ 1
  cases B with
  | none =>
    obtain rfl := h.nn rfl
    have e0 : l = [] := List.length_eq_zero_iff.1 (by have := h.le; omega)
    subst e0
    exact ⟨none, 0, w, run_append_owned_none (P := Tryz.prog) (w := w) N 53 53 51 i 1 Tryz.underlying53 hi _ _ _ h0, h0, Below.refl _ _⟩
  | some ad =>
    obtain ⟨v', w', hrun, hown, hgr, _⟩ := run_append_own (P := Tryz.prog) w N 53 53 51 i (.int .u64 0) 1 8 Tryz.underlying53 hi hz0 hz1 hz2 rfl (by omega) _ _ _ h0 ad l.length c (natCells l) (by simp [natCells])
      (fun j u hu => by
        unfold natCells at hu
        rw [List.getElem?_map] at hu
        cases hj : l[j]? with
        | none => rw [hj] at hu; cases hu
        | some x => rw [hj] at hu; cases hu; exact h.rd ad rfl j x hj)
      (fun u hu => by unfold natCells at hu; obtain ⟨x, _, rfl⟩ := List.mem_map.1 hu; rfl) (by unfold maxLen; omega) (by omega) hN
    rw [Nat.zero_add, List.nil_append] at hown
    have hb : Below w.heap.size w w' := below_of_grown hgr
    rcases hown.2 with ⟨e, e0⟩ | ⟨g, cap, cur, rfl, r⟩
    · subst e
      have e1 : l = [] := List.length_eq_zero_iff.1 e0
      subst e1
      exact ⟨none, 0, w', hrun, hown, hb⟩
    · exact ⟨_, _, w', hrun, hown, hb⟩

/-- A row that a value comes to, or begins, its buckets left alone. -/
def midR (r : Rw) (v : Int) : Rw := if 0 < r.many then headR r v else ⟨r.key, r.kind, 1, v, v, v, false, r.bks⟩
theorem midR_kind (r : Rw) (v : Int) : (midR r v).kind = r.kind := by unfold midR; split <;> rfl
theorem midR_bks (r : Rw) (v : Int) : (midR r v).bks = r.bks := by unfold midR; split <;> rfl
theorem midR_ok {r : Rw} {v : Int} (h : OkR r) (hv : In64 v) : OkR (midR r v) := by
  unfold midR
  split
  · exact h.head hv
  · exact ⟨(by decide : (1 : Nat) ≤ 18446744073709551615), hv, hv, hv, h.bks, h.len⟩
set_option maxRecDepth 100000 in
set_option maxHeartbeats 4000000 in
theorem ref_come (w : World) (r : Rw) (B : Option Addr) (c : Nat) (hb : RdN w B c r.bks) (ok : OkR r) {v : Int} (hv : In64 v) :
    Calls Tryz.prog 38 #[rowVal r B c, .int .i64 v] w (Tells18 w (fillR (midR r v) v)) := by
  have CO := Lib.hid (fun w => refCount r.many 1 w (by omega) (by have := ok.many; omega) (by decide) (by decide))
  have CA := Lib.hid (fun w => refAdd r.sum v w ok.sum.1 ok.sum.2 hv.1 hv.2)
  unfold Adds at CA
  unfold Cnts at CO
  have e1 : cntS r.many 1 = (upN r.many : Nat) := by
    have := ok.many
    unfold cntS upN
    split <;> split <;> omega
  rw [e1] at CO
  clear e1
  have MO := Lib.hid (midR_ok ok hv)
  have MK := Lib.hid (midR_kind r v)
  have MB := Lib.hid (midR_bks r v)
  have HB := Lib.hid hb
  have HO := Lib.hid ok
  have HV := Lib.hid hv
  have CU := Lib.hid (fun w => ref_bucket w hv)
  obtain ⟨m, hm⟩ : ∃ m, midR r v = m := ⟨_, rfl⟩
  rw [hm] at MO MK MB ⊢
  have HM : Hid (midR r v = m) := Lib.hid hm
  clear hm hb ok hv
  unfold rowVal
  go_enter Tryz.func38, Tryz.ntmps38
  go_upto_if 19 with fail
  go_cut [] from 17 to 65 (fun wx => Hid (wx = ((w.alloc (rowObj r B c)).alloc (rowObj zeroR none 0)).alloc (.cells #[.string m.key, .int .i64 m.kind, .int .u64 (m.many : Nat), .int .i64 m.sum, .int .i64 m.least, .int .i64 m.most, .bool m.over, .slice none 0 0] 55)))
  case first =>
    clear MO MK MB HB HO HV CU
    obtain ⟨key, kind, many, sum, least, most, over, bks⟩ := r
    have HE := HM.out
    unfold midR headR at HE
    clear HM
    dsimp only at *
    generalize upN many = q at *
    generalize addS sum v = s at *
    generalize addO sum v = o at *
    by_cases hm : 0 < many
    · have x0 : (0 : Int) < many := by omega
      rw [if_pos hm] at HE
      by_cases hk : kind = 2 <;> by_cases h1 : v < least <;> by_cases h2 : most < v
      all_goals
        simp only [hk, h1, h2, if_true, if_false] at HE
        have HE2 := Lib.hid HE
        clear HE
        first
        | (have hkb : (kind != 2) = false := by simp [hk]
           have HK := Lib.hid hk
           clear hk
           go_wp2_with (go_at_call 49; (with_reducible refine (CO.out _).mono ?_); rintro e w2 ⟨rfl, rfl⟩)
           go_meet
           refine Lib.hid ?_
           have hk := HK.out
           subst hk
           rw [← HE2.out]
           rfl)
        | (have hkb : (kind != 2) = true := by simp [hk]
           clear hk
           cases over
           all_goals
             go_wp2_with (first
               | (go_at_call 49; (with_reducible refine (CO.out _).mono ?_); rintro e w2 ⟨rfl, rfl⟩)
               | (go_at_call 50; (with_reducible refine (CA.out _).mono ?_); rintro e w2 ⟨rfl, rfl⟩))
             go_meet
             refine Lib.hid ?_
             rw [← HE2.out]
             rfl)
    · obtain rfl : many = 0 := by omega
      rw [if_neg hm] at HE
      have HE2 := Lib.hid HE
      clear HE
      go_wp2_with fail
      go_meet
      refine Lib.hid ?_
      rw [← HE2.out]
      rfl
  case rest =>
    have e := hcut.out
    have bx : RowB wc w.heap.size r B c := by rw [e]; exact ((RowB.new w r B c).alloc _).alloc _
    have zx : RowB wc (w.heap.size + 1) zeroR none 0 := by
      rw [e]
      have := (RowB.new (w.alloc (rowObj r B c)) zeroR none 0).alloc (.cells #[.string m.key, .int .i64 m.kind, .int .u64 (m.many : Nat), .int .i64 m.sum, .int .i64 m.least, .int .i64 m.most, .bool m.over, .slice none 0 0] 55)
      rw [World.size_alloc] at this
      exact this
    have hx : Hr (w.heap.size + 1 + 1) wc (w.heap.size + 1 + 1) { m with bks := [] } none 0 := by
      rw [e]
      have := Hr.new (N := w.heap.size + 1 + 1) (w := (w.alloc (rowObj r B c)).alloc (rowObj zeroR none 0)) (r := { m with bks := [] }) (B := none) (c := 0) (OwnN.nil _ _) (by simp)
      rw [World.size_alloc, World.size_alloc] at this
      exact this
    have sz : wc.heap.size = w.heap.size + 1 + 1 + 1 := by rw [e]; simp
    have bw : Below w.heap.size w wc := by
      rw [e]
      exact ((blw_new w _).alloc (by simp) _).alloc (by simp; omega) _
    clear e hcut HM CO CA
    obtain ⟨B4, c4, w4, hrun, own4, b4⟩ := append_nats (N := w.heap.size + 1 + 1) (HB.out.below bw (Nat.le_refl _)) (by omega) (by have := HO.out.len; omega)
    have HRUN := Lib.hid hrun
    have a1 := bx.c1
    have a7 := bx.c7
    have o7 : wc.cell? ⟨w.heap.size + 1 + 1, 7, none⟩ = some (.slice none 0 0) := hx.row.c7
    have h4 := hx.below b4
    have o8 : w4.cell? ⟨w.heap.size + 1 + 1, 7, none⟩ = some (.slice none 0 0) := h4.row.c7
    have f7 := h4.row.f 7
    have a4 : w4.cell? ⟨w.heap.size, 1, none⟩ = some (.int .i64 r.kind) := (bx.below b4 (Nat.le_refl _)).c1
    have h5 : Hr (w.heap.size + 1 + 1) (w4.setCell ⟨w.heap.size + 1 + 1, 7, none⟩ (.slice B4 r.bks.length c4)) (w.heap.size + 1 + 1) m B4 c4 := by
      have := h4.turn (l := r.bks) (grown_refl w4 _) own4
      rw [← MB.out] at this ⊢
      exact this
    have b5 : Below (w.heap.size + 1 + 1) wc (w4.setCell ⟨w.heap.size + 1 + 1, 7, none⟩ (.slice B4 r.bks.length c4)) := bset (b4.mono (by omega)) (Nat.le_refl _)
    have H5 := Lib.hid h5
    have B5 := Lib.hid b5
    have BW := Lib.hid bw
    have BX := Lib.hid bx
    have ZX := Lib.hid zx
    have SZ := Lib.hid sz
    have g0 := h4.row.c0
    have g1 := h4.row.c1
    have g2 := h4.row.c2
    have g3 := h4.row.c3
    have g4 := h4.row.c4
    have g5 := h4.row.c5
    have g6 := h4.row.c6
    have z4 := zx.below b4 (Nat.le_refl _)
    dsimp only at g0 g1 g2 g3 g4 g5 g6
    have BW5 : Hid (Below w.heap.size w (w4.setCell ⟨w.heap.size + 1 + 1, 7, none⟩ (.slice B4 r.bks.length c4))) := Lib.hid (bw.trans (b5.mono (by omega)))
    have Z5 : Hid (RowB (w4.setCell ⟨w.heap.size + 1 + 1, 7, none⟩ (.slice B4 r.bks.length c4)) (w.heap.size + 1) zeroR none 0) := Lib.hid (zx.low b5 (by omega))
    clear hrun own4 b4 h4 hx bx zx bw sz h5 b5
    by_cases hk : r.kind = 3
    case neg =>
      have hkb : (r.kind != 3) = true := by simp [hk]
      have EF : Hid (fillR m v = { m with bks := r.bks }) := Lib.hid (by rw [← MB.out]; unfold fillR; rw [if_neg (by rw [MK.out]; exact hk)])
      have O5 := Lib.hid (show OwnN (w4.setCell ⟨w.heap.size + 1 + 1, 7, none⟩ (.slice B4 r.bks.length c4)) (w.heap.size + 1 + 1) B4 c4 r.bks by rw [← MB.out]; have := H5.out.own; rwa [MB.out] at this ⊢)
      have d0 := z4.c0
      have d1 := z4.c1
      have d2 := z4.c2
      have d3 := z4.c3
      have d4 := z4.c4
      have d5 := z4.c5
      have d6 := z4.c6
      have d7 := z4.c7
      have f0 := z4.f
      clear z4 hk CU
      go_wp2_with (at_builtin; refine wpList_append_two rfl (.tmp 67) (.tmp 69) 53 53 rfl _ _ _ rfl rfl HRUN.out ?_)
      change bodyPost _ _ _ _ _ (putRow (w4.setCell ⟨w.heap.size + 1 + 1, 7, none⟩ (.slice B4 r.bks.length c4)) (w.heap.size + 1) { m with bks := r.bks } B4 c4)
      have Q := putRow_row Z5.out { m with bks := r.bks } B4 c4
      have O3 := Lib.hid (owns_mono (own_put (k := w.heap.size + 1) O5.out (Nat.lt_succ_self _) { m with bks := r.bks } B4 c4) (Nat.le_trans (Nat.le_succ _) (Nat.le_succ _)))
      have B3 := Lib.hid (putRow_below (k := w.heap.size + 1) BW5.out (Nat.le_succ _) { m with bks := r.bks } B4 c4)
      generalize putRow (w4.setCell ⟨w.heap.size + 1 + 1, 7, none⟩ (.slice B4 r.bks.length c4)) (w.heap.size + 1) { m with bks := r.bks } B4 c4 = w9 at *
      clear d0 d1 d2 d3 d4 d5 d6 d7 f0 g0 g1 g2 g3 g4 g5 g6 a1 a7 o7 o8 f7 a4
      have q0 := Q.c0
      have q1 := Q.c1
      have q2 := Q.c2
      have q3 := Q.c3
      have q4 := Q.c4
      have q5 := Q.c5
      have q6 := Q.c6
      have q7 := Q.c7
      (try simp only [Exit.inBlock, Exit.then])
      refine bodyPost_ret (by simp [results, Tryz.results38, go_sem, q0, q1, q2, q3, q4, q5, q6, q7]; try rfl) rfl ?_
      unfold Tells18
      rw [EF.out]
      exact ⟨B4, c4, rfl, O3.out, B3.out⟩
    have hkb : (r.kind != 3) = false := by simp [hk]
    have K63 := bkt_le HV.out.2
    have HE : Hid (∀ l : List Nat, l = padN r.bks (bkt v + 1) → { m with bks := l.set (bkt v) (upN (l.getD (bkt v) 0)) } = fillR m v) := Lib.hid (fun l hl => by
      subst hl
      unfold fillR incN
      rw [if_pos (by rw [MK.out]; exact hk), MB.out])
    have BD : Hid (∀ x ∈ padN r.bks (bkt v + 1), x ≤ 18446744073709551615) := Lib.hid (by have := padN_bd (n := bkt v + 1) MO.out.bks; rw [MB.out] at this; exact this)
    have LB : Hid (r.bks.length ≤ 100) := Lib.hid (by have := MO.out.len; rw [MB.out] at this; exact this)
    have H5' : Hid (Hr (w.heap.size + 1 + 1) (w4.setCell ⟨w.heap.size + 1 + 1, 7, none⟩ (.slice B4 r.bks.length c4)) (w.heap.size + 1 + 1) { m with bks := r.bks } B4 c4) := Lib.hid (by rw [← MB.out]; have := H5.out; rw [← MB.out] at this; exact this)
    have SZ5 : Hid ((w.heap.size + 1 + 1) ≤ (w4.setCell ⟨w.heap.size + 1 + 1, 7, none⟩ (.slice B4 r.bks.length c4)).heap.size) := Lib.hid (Nat.le_trans (by have := SZ.out; omega) B5.out.size)
    clear g0 g1 g2 g3 g4 g5 g6 z4 hk H5 BX ZX
    generalize bkt v = K at *
    go_wp2_with (first
      | (at_builtin; refine wpList_append_two rfl (.tmp 67) (.tmp 69) 53 53 rfl _ _ _ rfl rfl HRUN.out ?_)
      | (go_at_call 51; (with_reducible refine (CU.out _).mono ?_); rintro e w2 ⟨rfl, rfl⟩))
    generalize (w4.setCell ⟨w.heap.size + 1 + 1, 7, none⟩ (.slice B4 r.bks.length c4)) = w5 at *
    clear a1 a7 o7 o8 f7 a4 HRUN
    go_loopg [] (K + 1 - r.bks.length) (fun gk wx => ∃ (l : List Nat) (B : Option Addr) (c : Nat), l.length + gk = max r.bks.length (K + 1) ∧ Hid (r.bks.length ≤ l.length ∧ l = padN r.bks l.length) ∧ Hid (Hr (w.heap.size + 1 + 1) wx (w.heap.size + 1 + 1) { m with bks := l } B c) ∧ Hid (Below (w.heap.size + 1 + 1) w5 wx))
    case atStart => exact ⟨r.bks, B4, c4, by omega, Lib.hid ⟨Nat.le_refl _, (padN_more (Nat.le_refl _)).symm⟩, H5', Lib.hid (Below.refl _ _)⟩
    case round =>
      obtain ⟨l, B1, c1', hl, HL, H1, BL⟩ := hrel
      have l0 := HL.out.1
      have c7 := H1.out.row.c7
      have f7 := H1.out.row.f 7
      dsimp only at c7
      cases gk with
      | zero =>
        have LP : l = padN r.bks (K + 1) := by
          have e := HL.out.2
          rcases Nat.lt_or_ge r.bks.length (K + 1) with hh | hh
          · rw [show l.length = K + 1 by omega] at e; exact e
          · rw [show l.length = r.bks.length by omega, padN_more (Nat.le_refl _)] at e
            rw [padN_more hh]; exact e
        have x1 : ¬ l.length ≤ K := by omega
        have x2 : K < l.length := by omega
        obtain ⟨b, rfl, b1, b2⟩ := H1.out.form (by dsimp only; omega)
        obtain ⟨x, hx⟩ : ∃ x, l[K]? = some x := ⟨_, List.getElem?_eq_getElem x2⟩
        have cx := H1.out.rd.rd _ rfl K x hx
        rw [Addr.add_lit, Nat.zero_add] at cx
        have xb : x ≤ 18446744073709551615 := BD.out x (by rw [← LP]; exact List.mem_of_getElem? hx)
        have CO := Lib.hid (fun w => refCount x 1 w (by omega) (by omega) (by decide) (by decide))
        unfold Cnts at CO
        have e1 : cntS x 1 = (upN x : Nat) := by
          unfold cntS upN
          split <;> split <;> omega
        rw [e1] at CO
        clear e1
        have fx : wr.frozen? ⟨b, K, none⟩ = false := World.ownsRow.frozenAt H1.out.own K
        have EF : Hid (fillR m v = { m with bks := l.set K (upN x) }) := Lib.hid (by
          have e1 := HE.out l LP
          rw [List.getD_eq_getElem?_getD, hx] at e1
          rw [← e1]
          rfl)
        have HC : Hid (Hr (w.heap.size + 1 + 1) ((wr.setCell ⟨b, K, none⟩ (.int .u64 (upN x : Nat))).drew) (w.heap.size + 1 + 1) { m with bks := l.set K (upN x) } (some ⟨b, 0, none⟩) c1') := Lib.hid ((H1.out.count K (upN x)).drew 1)
        have BC : Hid (Below w.heap.size w ((wr.setCell ⟨b, K, none⟩ (.int .u64 (upN x : Nat))).drew)) := Lib.hid (BW5.out.trans ((bset (BL.out) b1).drew.mono (by omega)))
        have ZC : Hid (RowB ((wr.setCell ⟨b, K, none⟩ (.int .u64 (upN x : Nat))).drew) (w.heap.size + 1) zeroR none 0) := Lib.hid (Z5.out.low (bset (BL.out) b1).drew (Nat.lt_succ_self _))
        generalize upN x = q at *
        clear LP hl HL hx l0 xb BD LB HE CU
        go_wp2_with fail
        go_upto_region 21 with fail
        go_cut [] from 88 to 100 (fun wx => wx = (wr.setCell ⟨b, K, none⟩ (.int .u64 (q : Nat))).drew)
        case first =>
          go_region_law (go_simp; go_at_call 49; (with_reducible refine (CO.out _).mono ?_); rintro e w4 ⟨rfl, rfl⟩; try dsimp only)
          all_goals
            go_wp2_with fail
            go_meet
            rfl
        case rest =>
          rw [← hcut] at HC BC ZC
          obtain ⟨R, hR⟩ : ∃ R, ({ m with bks := l.set K q } : Rw) = R := ⟨_, rfl⟩
          rw [hR] at HC EF
          clear hR
          clear hcut cx fx c7 f7 H1 BL CO
          have c0 := HC.out.row.c0
          have c1 := HC.out.row.c1
          have c2 := HC.out.row.c2
          have c3 := HC.out.row.c3
          have c4 := HC.out.row.c4
          have c5 := HC.out.row.c5
          have c6 := HC.out.row.c6
          have c7 := HC.out.row.c7
          have d0 := ZC.out.c0
          have d1 := ZC.out.c1
          have d2 := ZC.out.c2
          have d3 := ZC.out.c3
          have d4 := ZC.out.c4
          have d5 := ZC.out.c5
          have d6 := ZC.out.c6
          have d7 := ZC.out.c7
          have f0 := ZC.out.f
          go_wp2_with fail
          change bodyPost _ _ _ _ _ (putRow wc (w.heap.size + 1) R (some ⟨b, 0, none⟩) c1')
          have Q := putRow_row ZC.out R (some ⟨b, 0, none⟩) c1'
          have O3 := Lib.hid (owns_mono (own_put (k := w.heap.size + 1) HC.out.own (Nat.lt_succ_self _) R (some ⟨b, 0, none⟩) c1') (Nat.le_trans (Nat.le_succ _) (Nat.le_succ _)))
          have B3 := Lib.hid (putRow_below (k := w.heap.size + 1) BC.out (Nat.le_succ _) R (some ⟨b, 0, none⟩) c1')
          generalize putRow wc (w.heap.size + 1) R (some ⟨b, 0, none⟩) c1' = w9 at *
          clear c0 c1 c2 c3 c4 c5 c6 c7 d0 d1 d2 d3 d4 d5 d6 d7 f0
          have q0 := Q.c0
          have q1 := Q.c1
          have q2 := Q.c2
          have q3 := Q.c3
          have q4 := Q.c4
          have q5 := Q.c5
          have q6 := Q.c6
          have q7 := Q.c7
          (try simp only [Exit.inBlock, Exit.then])
          refine bodyPost_ret (by simp [results, Tryz.results38, go_sem, q0, q1, q2, q3, q4, q5, q6, q7]; try rfl) rfl ?_
          unfold Tells18
          rw [EF.out]
          exact ⟨(some ⟨b, 0, none⟩), c1', rfl, O3.out, B3.out⟩
      | succ gk =>
        have x1 : l.length ≤ K := by omega
        have lk : l.length ≤ 1000 := by omega
        obtain ⟨B2, c2, w2, hrun, hown, hgr⟩ := append_nat 0 H1.out.own (Nat.le_trans SZ5.out BL.out.size) lk
        have bn : Below wr.heap.size wr (wr.alloc (.cells #[.int .u64 ((0 : Nat) : Int)] 51)) := blw_new wr _
        have H2 := H1.out.below bn
        have HT : Hid (Hr (w.heap.size + 1 + 1) (w2.setCell ⟨w.heap.size + 1 + 1, 7, none⟩ (.slice B2 (l.length + 1) c2)) (w.heap.size + 1 + 1) { m with bks := l ++ [0] } B2 c2) := Lib.hid (by
          have := H2.turn hgr hown
          rw [List.length_append, List.length_singleton] at this
          exact this)
        have d7 : w2.cell? ⟨w.heap.size + 1 + 1, 7, none⟩ = some (.slice B1 l.length c1') := (H2.row.grown hgr H2.off).c7
        have e7 : w2.frozen? ⟨w.heap.size + 1 + 1, 7, none⟩ = false := (H2.row.grown hgr H2.off).f 7
        have BT : Hid (Below (w.heap.size + 1 + 1) w5 (w2.setCell ⟨w.heap.size + 1 + 1, 7, none⟩ (.slice B2 (l.length + 1) c2))) := Lib.hid
          (((BL.out.alloc (Nat.le_trans SZ5.out BL.out.size) _).grown hgr (Nat.le_trans (Nat.le_trans SZ5.out BL.out.size) bn.size) (fun k e => (World.ownsRow.lt H1.out.own k e).1)).setCell (p := ⟨w.heap.size + 1 + 1, 7, none⟩) H1.out.base _)
        have PL : Hid (r.bks.length ≤ (l ++ [0]).length ∧ l ++ [0] = padN r.bks (l ++ [0]).length) := Lib.hid ⟨by rw [List.length_append]; omega, by
          rw [List.length_append, List.length_singleton, ← padN_next l0 (Nat.lt_succ_self _), ← HL.out.2]⟩
        have HLl := Lib.hid hl
        have HRUN : Hid ((Builtin.append_ #[53, 53] 53 #[.slice B1 l.length c1', .slice (some ⟨wr.heap.size, 0, none⟩) 1 1]).run Tryz.prog (wr.alloc (.cells #[.int .u64 0] 51)) = .ok (.slice B2 (l.length + 1) c2) w2) := Lib.hid hrun
        have q7 : (wr.alloc (.cells #[.int .u64 0] 51)).cell? ⟨w.heap.size + 1 + 1, 7, none⟩ = some (.slice B1 l.length c1') := H2.row.c7
        clear hl HL l0 lk hown hgr bn H2 BD LB HE CU H1 hrun
        go_wp2_with (at_builtin; refine wpList_append_two rfl (.tmp 84) (.tmp 85) 53 53 rfl _ _ _ rfl rfl HRUN.out ?_)
        go_roundg gk
        case rel => exact ⟨l ++ [0], B2, c2, by have := HLl.out; rw [List.length_append, List.length_singleton]; omega, PL, HT, BT⟩
        case measure => omega
end Go.Proofs.YtedhciolnekpaaaGreatDoor
