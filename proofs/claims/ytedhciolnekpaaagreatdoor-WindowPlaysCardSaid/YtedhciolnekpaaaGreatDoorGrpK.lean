/-
  Layer 18 (tally): a value's bucket, the program's and the document's; one more of a count.
  Layer 18 (tally): a value is put in its bucket (fill), and comes to a row behind a pointer (come).
-/
import Derived.Test.YtedhciolnekpaaaGreatDoorShelf
import Derived.Test.YtedhciolnekpaaaGreatDoorGrpA
import Derived.Deep.LoopGhost
import Derived.BigQuiet
import Derived.Deep.RegionLaw
namespace Go.Proofs.YtedhciolnekpaaaGreatDoor
open Go.ChangeShapes Go.WideShapes Go.ChangeAt Go.RowKit
set_option linter.unusedVariables false

theorem bucket_walk (w : World) {v : Int} (hv : In64 v) :
    Calls Tryz.prog 57 #[.int .i64 v] w fun e w' => e = .returned (.int .i64 (bkt v : Nat)) ∧ w = w' := by
  obtain ⟨h0, h1⟩ := hv
  obtain ⟨m, hm⟩ : ∃ m, max v 0 = m := ⟨_, rfl⟩
  have CB : Hid (∀ w, Calls Tryz.prog 72 #[.int .u64 m] w fun e w' => e = .returned (.int .i64 (bkt v : Nat)) ∧ w' = w) := Lib.hid (fun w => by
    have := Tryz.bits_Len64 m w (by omega) (by omega)
    rw [show m.toNat = v.toNat by omega] at this
    exact this)
  have z1 : IntKind.u64.wrap m = m := by rw [IntKind.wrap_u64]; omega
  generalize bkt v = K at *
  go_enter Tryz.func57, Tryz.ntmps57
  go_wp2_with fail
  refine (CB.out _).mono ?_
  rintro e w2 ⟨rfl, rfl⟩
  go_wp2_with fail
  go_ret
  exact ⟨rfl, rfl⟩
theorem one_walk (w : World) {n : Nat} (h : n ≤ 18446744073709551615) :
    Calls Tryz.prog 55 #[.int .u64 (n : Nat)] w fun e w' => e = .returned (.int .u64 (upN n : Nat)) ∧ w = w' := by
  have CC := Lib.hid (fun w => satCount n 1 w (by omega) (by omega) (by decide) (by decide))
  unfold Cnts at CC
  have e1 : cntS n 1 = (upN n : Nat) := by
    unfold cntS upN
    split <;> split <;> omega
  rw [e1] at CC
  generalize upN n = q at *
  generalize cntO n 1 = o at *
  clear e1 h
  go_enter Tryz.func55, Tryz.ntmps55
  go_wp2_with fail
  refine (CC.out _).mono ?_
  rintro e w2 ⟨rfl, rfl⟩
  go_wp2_with fail
  go_ret
  exact ⟨rfl, rfl⟩
theorem ref_bucket (w : World) {v : Int} (hv : In64 v) :
    Calls Tryz.prog 51 #[.int .i64 v] w fun e w' => e = .returned (.int .i64 (bkt v : Nat)) ∧ w = w' := by
  have B0 := Lib.hid (bkt_le hv.2)
  have h0 := hv.1
  have h1 := hv.2
  clear hv
  go_enter Tryz.func51, Tryz.ntmps51
  go_wp2_with fail
  go_loopg [0, 3] (bkt v) (fun gk s0 s3 wx => ∃ (i : Nat) (x : Int), i + gk = bkt v ∧ s0 = .int .i64 x ∧ s3 = .int .i64 (i : Nat) ∧ w = wx ∧ Hid (bkt x = gk ∧ In64 x))
  case atStart => exact ⟨0, v, by omega, rfl, rfl, rfl, Lib.hid ⟨rfl, h0, h1⟩⟩
  case round =>
    obtain ⟨i, x, hi, rfl, rfl, rfl, HX⟩ := hrel
    clear h0 h1
    obtain ⟨hb, x0, x1⟩ := HX.out
    clear HX
    by_cases hp : 0 < x
    · have hh := bkt_half hp x1
      cases gk with
      | zero => omega
      | succ gk =>
        have HB : Hid (bkt (x / 2) = gk ∧ In64 (x / 2)) := Lib.hid ⟨by omega, by unfold In64; omega⟩
        have i1 : i ≤ 62 := by have := B0.out; omega
        have HI := Lib.hid hi
        obtain ⟨y, hy⟩ : ∃ y, x / 2 = y := ⟨_, rfl⟩
        rw [hy] at HB
        have z1 : x.tdiv 2 = y := by rw [← hy]; exact Int.tdiv_eq_ediv_of_nonneg (by omega)
        have z2 : IntKind.i64.wrap y = y := by rw [IntKind.wrap_i64]; omega
        clear hb hh hi hy
        go_wp2_with fail
        go_roundg gk
        case rel => exact ⟨i + 1, y, by have := HI.out; omega, by go_num, by go_num, rfl, HB⟩
        case measure => omega
    · have hz : bkt x = 0 := bkt_neg (by omega)
      have e0 : bkt v = i := by omega
      clear hb hz hi B0
      go_wp2_with fail
      go_ret
      exact ⟨rfl, rfl⟩
end Go.Proofs.YtedhciolnekpaaaGreatDoor
namespace Go.Proofs.YtedhciolnekpaaaGreatDoor
open Go.ChangeShapes Go.WideShapes Go.ChangeAt Go.RowKit
set_option linter.unusedVariables false

section
variable {N : Nat} {w w' : World} {g : Nat} {r : Rw} {B : Option Addr} {c : Nat}
set_option maxRecDepth 100000 in
set_option maxHeartbeats 1000000 in
theorem fill_walk (h : Hr N w g r B c) (ok : OkR r) (hN : N ≤ w.heap.size) {v : Int} (hv : In64 v) :
    Calls Tryz.prog 42 #[.pointer (some ⟨g, 0, none⟩), .int .i64 v] w fun e w' => e = .returned (.tuple #[]) ∧ Mh N w g (fillR r v) w' := by
  by_cases hk : r.kind = 3
  case neg =>
    have M0 : Hid (Mh N w g (fillR r v) w) := Lib.hid (by
      rw [show fillR r v = r by unfold fillR; rw [if_neg hk]]
      exact ⟨B, c, h, Below.refl _ _⟩)
    have c1 := h.row.c1
    have x1 : ¬ r.kind = 3 := hk
    clear h ok hN hv hk
    generalize r.kind = kd at *
    go_enter Tryz.func42, Tryz.ntmps42
    go_wp2_with fail
    refine bodyPost_ret (results_none rfl _ _ _) rfl ?_
    exact ⟨rfl, M0.out⟩
  have CB := Lib.hid (fun w => bucket_walk w hv)
  have K63 := bkt_le hv.2
  have HE : Hid (∀ l : List Nat, l = padN r.bks (bkt v + 1) → { r with bks := l.set (bkt v) (upN (l.getD (bkt v) 0)) } = fillR r v) := Lib.hid (fun l hl => by
    subst hl
    unfold fillR incN
    rw [if_pos hk])
  have BD := Lib.hid (padN_bd (n := bkt v + 1) ok.bks)
  have LB := Lib.hid ok.len
  generalize bkt v = K at *
  have c1 := h.row.c1
  rw [hk] at c1
  have H0 := Lib.hid h
  have HN := Lib.hid hN
  have K3 := Lib.hid hk
  clear h ok hN hv hk
  go_enter Tryz.func42, Tryz.ntmps42
  go_wp2_with fail
  refine (CB.out _).mono ?_
  rintro e w2 ⟨rfl, rfl⟩
  go_wp2_with fail
  clear c1
  go_loopg [] (K + 1 - r.bks.length) (fun gk wx => ∃ (l : List Nat) (B : Option Addr) (c : Nat), l.length + gk = max r.bks.length (K + 1) ∧ Hid (r.bks.length ≤ l.length ∧ l = padN r.bks l.length) ∧ Hid (Hr N wx g { r with bks := l } B c) ∧ Hid (Below N w wx))
  case atStart => exact ⟨r.bks, B, c, by omega, Lib.hid ⟨Nat.le_refl _, (padN_more (Nat.le_refl _)).symm⟩, Lib.hid H0.out, Lib.hid (Below.refl _ _)⟩
  case round =>
    obtain ⟨l, B1, c1, hl, HL, H1, BL⟩ := hrel
    have l0 := HL.out.1
    have c7 := H1.out.row.c7
    have f7 := H1.out.row.f 7
    dsimp only at c7
    cases gk with
    | zero =>
      have LP : l = padN r.bks (K + 1) := by
        have e := HL.out.2
        rcases Nat.lt_or_ge r.bks.length (K + 1) with hh | hh
        · rw [show l.length = K + 1 by omega] at e; exact e
        · rw [show l.length = r.bks.length by omega, padN_more (Nat.le_refl _)] at e
          rw [padN_more hh]; exact e
      have x1 : ¬ l.length ≤ K := by omega
      have x2 : K < l.length := by omega
      obtain ⟨b, rfl, b1, b2⟩ := H1.out.form (by dsimp only; omega)
      obtain ⟨x, hx⟩ : ∃ x, l[K]? = some x := ⟨_, List.getElem?_eq_getElem x2⟩
      have cx := H1.out.rd.rd _ rfl K x hx
      rw [Addr.add_lit, Nat.zero_add] at cx
      have xb : x ≤ 18446744073709551615 := BD.out x (by rw [← LP]; exact List.mem_of_getElem? hx)
      have CO := Lib.hid (fun w => one_walk w xb)
      have fx : wr.frozen? ⟨b, K, none⟩ = false := World.ownsRow.frozenAt H1.out.own K
      have M1 : Hid (∀ n, Mh N w g (fillR r v) ((wr.drewN n).setCell ⟨b, K, none⟩ (.int .u64 (upN x : Nat)))) := Lib.hid (fun n => by
        have e1 := HE.out l LP
        rw [List.getD_eq_getElem?_getD, hx] at e1
        rw [← e1]
        exact ⟨_, _, (H1.out.drew n).count K (upN x), (BL.out.trans ((blw_drew wr n).mono (Nat.le_trans HN.out BL.out.size))).setCell (p := ⟨b, K, none⟩) b1 _⟩)
      generalize upN x = q at *
      clear LP hl HL hx l0 xb BD LB HE CB
      go_wp2_with fail
      go_region_law (go_simp; go_at_call 55; (with_reducible refine (CO.out _).mono ?_); rintro e w4 ⟨rfl, rfl⟩; try dsimp only)
      all_goals
        go_wp2_with fail
        go_end0
        exact ⟨rfl, M1.out _⟩
    | succ gk =>
      have x1 : l.length ≤ K := by omega
      have lk : l.length ≤ 1000 := by omega
      obtain ⟨B2, c2, w2, hrun, hown, hgr⟩ := append_nat 0 H1.out.own (Nat.le_trans HN.out BL.out.size) lk
      have bn : Below wr.heap.size wr (wr.alloc (.cells #[.int .u64 ((0 : Nat) : Int)] 51)) := blw_new wr _
      have H2 := H1.out.below bn
      have HT : Hid (Hr N (w2.setCell ⟨g, 7, none⟩ (.slice B2 (l.length + 1) c2)) g { r with bks := l ++ [0] } B2 c2) := Lib.hid (by
        have := H2.turn hgr hown
        rw [List.length_append, List.length_singleton] at this
        exact this)
      have d7 : w2.cell? ⟨g, 7, none⟩ = some (.slice B1 l.length c1) := (H2.row.grown hgr H2.off).c7
      have e7 : w2.frozen? ⟨g, 7, none⟩ = false := (H2.row.grown hgr H2.off).f 7
      have BT : Hid (Below N w (w2.setCell ⟨g, 7, none⟩ (.slice B2 (l.length + 1) c2))) := Lib.hid
        (((BL.out.alloc (Nat.le_trans HN.out BL.out.size) _).grown hgr (Nat.le_trans (Nat.le_trans HN.out BL.out.size) bn.size) (fun k e => (World.ownsRow.lt H1.out.own k e).1)).setCell (p := ⟨g, 7, none⟩) H1.out.base _)
      have PL : Hid (r.bks.length ≤ (l ++ [0]).length ∧ l ++ [0] = padN r.bks (l ++ [0]).length) := Lib.hid ⟨by rw [List.length_append]; omega, by
        rw [List.length_append, List.length_singleton, ← padN_next l0 (Nat.lt_succ_self _), ← HL.out.2]⟩
      have HLl := Lib.hid hl
      have HRUN : Hid ((Builtin.append_ #[53, 53] 53 #[.slice B1 l.length c1, .slice (some ⟨wr.heap.size, 0, none⟩) 1 1]).run Tryz.prog (wr.alloc (.cells #[.int .u64 0] 51)) = .ok (.slice B2 (l.length + 1) c2) w2) := Lib.hid hrun
      have q7 : (wr.alloc (.cells #[.int .u64 0] 51)).cell? ⟨g, 7, none⟩ = some (.slice B1 l.length c1) := H2.row.c7
      clear hl HL l0 lk hown hgr bn H2 BD LB HE CB H1 hrun
      go_wp2_with (at_builtin; refine wpList_append_two rfl (.tmp 23) (.tmp 24) 53 53 rfl _ _ _ rfl rfl HRUN.out ?_)
      go_roundg gk
      case rel => exact ⟨l ++ [0], B2, c2, by have := HLl.out; rw [List.length_append, List.length_singleton]; omega, PL, HT, BT⟩
      case measure => omega
set_option maxRecDepth 100000 in
set_option maxHeartbeats 4000000 in
theorem come_walk (h : Hr N w g r B c) (ok : OkR r) (hN : N ≤ w.heap.size) {v : Int} (hv : In64 v) :
    Calls Tryz.prog 41 #[.pointer (some ⟨g, 0, none⟩), .int .i64 v] w fun e w' => e = .returned (.tuple #[]) ∧ Mh N w g (comeR r v) w' := by
  have CO := Lib.hid (fun w => one_walk w ok.many)
  have CA := Lib.hid (fun w => satAdd r.sum v w ok.sum.1 ok.sum.2 hv.1 hv.2)
  unfold Adds at CA
  have OH := Lib.hid (ok.head hv)
  have c1 := h.row.c1
  have c2 := h.row.c2
  have c3 := h.row.c3
  have c4 := h.row.c4
  have c5 := h.row.c5
  have c6 := h.row.c6
  have f2 := h.row.f 2
  have f3 := h.row.f 3
  have f4 := h.row.f 4
  have f5 := h.row.f 5
  have f6 := h.row.f 6
  have H0 := Lib.hid h
  have HN := Lib.hid hN
  have HV := Lib.hid hv
  have CF : Hid (∀ w1 (r1 : Rw) B c, r1 = headR r v → Hr N w1 g r1 B c → Below N w w1 → Calls Tryz.prog 42 #[.pointer (some ⟨g, 0, none⟩), .int .i64 v] w1 fun e w' => e = .returned (.tuple #[]) ∧ Mh N w g (comeR r v) w') := Lib.hid (fun w1 r1 B c e1 h1 b1 => by
    subst e1
    refine (fill_walk h1 OH.out (Nat.le_trans hN b1.size) hv).mono ?_
    rintro e w' ⟨rfl, B2, c2, h2, b2⟩
    exact ⟨rfl, B2, c2, h2, b1.trans b2⟩)
  obtain ⟨key, kind, many, sum, least, most, over, bks⟩ := r
  unfold headR at CF
  dsimp only at *
  generalize upN many = q at *
  generalize addS sum v = s at *
  generalize addO sum v = o at *
  clear h ok hN hv OH
  obtain ⟨mn, hmn⟩ : ∃ mn, (if v < least then v else least) = mn := ⟨_, rfl⟩
  have z1 : min least v = mn := by rw [← hmn]; split <;> omega
  obtain ⟨mx, hmx⟩ : ∃ mx, (if most < v then v else most) = mx := ⟨_, rfl⟩
  have z2 : max most v = mx := by rw [← hmx]; split <;> omega
  rw [hmn, hmx] at CF
  clear hmn hmx
  by_cases hk : kind = 2
  · skip
    have CF2 : Hid (Calls Tryz.prog 42 #[.pointer (some ⟨g, 0, none⟩), .int .i64 v] ((((w.setCell ⟨g, 2, none⟩ (.int .u64 (q : Nat))).setCell ⟨g, 3, none⟩ (.int .i64 v)).setCell ⟨g, 4, none⟩ (.int .i64 mn)).setCell ⟨g, 5, none⟩ (.int .i64 mx)).drew fun e w' => e = .returned (.tuple #[]) ∧ Mh N w g (comeR ⟨key, kind, many, sum, least, most, over, bks⟩ v) w') :=
      Lib.hid (CF.out _ _ B c (by rw [if_pos hk, if_pos hk]) (((((H0.out.set2 q).set3 v).set4 mn).set5 mx).drew 1) (by have b := H0.out.base; exact (((((Below.refl N w).setCell (p := ⟨g, 2, none⟩) b (.int .u64 (q : Nat))).setCell (p := ⟨g, 3, none⟩) b (.int .i64 v)).setCell (p := ⟨g, 4, none⟩) b (.int .i64 mn)).setCell (p := ⟨g, 5, none⟩) b (.int .i64 mx)).drew))
    subst hk
    clear CF CA
    go_enter Tryz.func41, Tryz.ntmps41
    go_wp2_with fail
    refine (CO.out _).mono ?_
    rintro e w2 ⟨rfl, rfl⟩
    go_wp2_with fail
    go_region_law (fail)
    all_goals
      go_wp2_with fail
      refine CF2.out.mono ?_
      rintro e w2 ⟨rfl, M⟩
      have M := Lib.hid M
      go_wp2_with fail
      go_end0
      exact ⟨rfl, M.out⟩
  · have x1 : ¬ kind = 2 := hk
    have CF2 : Hid (Calls Tryz.prog 42 #[.pointer (some ⟨g, 0, none⟩), .int .i64 v] (((((w.setCell ⟨g, 2, none⟩ (.int .u64 (q : Nat))).setCell ⟨g, 3, none⟩ (.int .i64 s)).setCell ⟨g, 6, none⟩ (.bool (over || o))).setCell ⟨g, 4, none⟩ (.int .i64 mn)).setCell ⟨g, 5, none⟩ (.int .i64 mx)).drew fun e w' => e = .returned (.tuple #[]) ∧ Mh N w g (comeR ⟨key, kind, many, sum, least, most, over, bks⟩ v) w') :=
      Lib.hid (CF.out _ _ B c (by rw [if_neg hk, if_neg hk]) ((((((H0.out.set2 q).set3 s).set6 (over || o)).set4 mn).set5 mx).drew 1) (by have b := H0.out.base; exact ((((((Below.refl N w).setCell (p := ⟨g, 2, none⟩) b (.int .u64 (q : Nat))).setCell (p := ⟨g, 3, none⟩) b (.int .i64 s)).setCell (p := ⟨g, 6, none⟩) b (.bool (over || o))).setCell (p := ⟨g, 4, none⟩) b (.int .i64 mn)).setCell (p := ⟨g, 5, none⟩) b (.int .i64 mx)).drew))
    clear CF
    cases over
    all_goals
      go_enter Tryz.func41, Tryz.ntmps41
      go_wp2_with fail
      refine (CO.out _).mono ?_
      rintro e w2 ⟨rfl, rfl⟩
      go_wp2_with fail
      refine (CA.out _).mono ?_
      rintro e w2 ⟨rfl, rfl⟩
      go_wp2_with fail
      go_region_law (fail)
      all_goals
        go_wp2_with fail
        refine CF2.out.mono ?_
        rintro e w2 ⟨rfl, M⟩
        have M := Lib.hid M
        go_wp2_with fail
        go_end0
        exact ⟨rfl, M.out⟩
end
end Go.Proofs.YtedhciolnekpaaaGreatDoor
