/-
  Layer 20 (window), WindowWhole: each value that was added comes to just one row of one batch, once all are closed.
-/
import Derived.Test.YtedhciolnekpaaaGreatDoorQWindowGlue
import Derived.Test.YtedhciolnekpaaaGreatDoorQWindowUp
import Derived.Test.YtedhciolnekpaaaGreatDoorGrpI
namespace Go.Proofs.YtedhciolnekpaaaGreatDoor
open Go.ChangeShapes Go.WideShapes Go.ChangeAt Go.RowKit Go.Deep
set_option linter.unusedVariables false

theorem add_one {N : Nat} {w w' : World} {a bm : Nat} {t : Tb} {l : List PtW} {ok : Bool} {n : Nm} {kd time val mark : Int} {e : Ending} (h : AddP N w a bm t l ok n kd time val mark e w') :
    ∃ (v : Value) (l' : List PtW) (blk : Int → Nat), e = .returned v ∧ Tq N w' a bm t l' blk ∧ Kq N w w' ∧ (((∃ c : Nat, v = .iface 33 (.int .i64 (c : Nat))) ∧ l' = l) ∨ (v = .nilIface ∧ l' = l ++ [⟨startOf t.wd time, n, val⟩] ∧ AskT ok kd time ∧ ¬ fullW t n (startOf t.wd time) l)) := by
  rcases add_split h with ⟨c, h1, blk, h2, h3⟩ | ⟨h0, hf, h1, blk, h2, h3⟩
  · exact ⟨_, l, blk, h1, h2, h3, .inl ⟨⟨c, rfl⟩, rfl⟩⟩
  · exact ⟨_, _, blk, h1, h2, h3, .inr ⟨rfl, rfl, h0, hf⟩⟩
/-- Behind a value's adding. -/
structure Ad (N : Nat) (w0 : World) (a bm : Nat) (t : Tb) (l : List PtW) (ok : Bool) (n : Nm) (kd time val : Int) (v : Value) (pl : List PtW) (blk : Int → Nat) (w' : World) : Prop where
  tq : Tq N w' a bm t pl blk
  kq : Kq N (w0.drewN 1) w'
  or' : ((∃ c : Nat, v = .iface 33 (.int .i64 (c : Nat))) ∧ pl = l) ∨ (v = .nilIface ∧ pl = l ++ [⟨startOf t.wd time, n, val⟩] ∧ AskT ok kd time ∧ ¬ fullW t n (startOf t.wd time) l)
section
variable {w W : World} {A : Option Addr} {cap : Nat} {l : List DeedW}
set_option maxHeartbeats 2000000 in
set_option maxRecDepth 100000 in
/-- No such table, or too many deeds. -/
theorem whole_out (hL : Laid w) (h : RdDW W A l) (hb : Below W.heap.size W w) (hm : l.length ≤ maxLen) (width : Int) (hn : ¬ GoodT ⟨width, 100, 200, 0⟩ ∨ (GoodT ⟨width, 100, 200, 0⟩ ∧ fewW l = false)) :
    Calls Tryz.prog 4 #[.int .i64 width, .slice A l.length cap] w (Holds w) := by
  have CU := Lib.hid (up_window w hL)
  have CF := Lib.hid (fun wx (hx : Below W.heap.size W wx) => fewW_walk wx W A cap l h hx hm)
  have HB := Lib.hid hb
  unfold Holds at CU
  rcases hn with hn | ⟨hg, hf⟩
  · have CN := Lib.hid (fun wx => newW_bad wx hn)
    unfold errW at CN
    simp only at CN
    clear hL h hb hm hn
    go_enter Tryz.func4, Tryz.ntmps4
    go_wp2_with fail
    refine CU.out.mono ?_
    rintro e w1 ⟨rfl, b1⟩
    have B1 := Lib.hid b1
    have CF1 := Lib.hid (CF.out w1 (HB.out.trans (b1.mono HB.out.size)))
    clear b1 CU CF
    go_wp2_with fail
    refine CF1.out.mono ?_
    rintro e w2 ⟨rfl, rfl⟩
    go_wp2_with fail
    refine (CN.out _).mono ?_
    rintro e w2 ⟨rfl, rfl⟩
    go_wp2_with fail
    go_ret
    exact ⟨rfl, B1.out⟩
  · have CN := Lib.hid (fun wx => newW_good wx hg (fun _ => 0))
    simp only at CN
    rw [hf] at CF
    clear hL h hb hm hg hf
    go_enter Tryz.func4, Tryz.ntmps4
    go_wp2_with fail
    refine CU.out.mono ?_
    rintro e w1 ⟨rfl, b1⟩
    have B1 := Lib.hid b1
    have CF1 := Lib.hid (CF.out w1 (HB.out.trans (b1.mono HB.out.size)))
    clear b1 CU CF
    go_wp2_with fail
    refine CF1.out.mono ?_
    rintro e w2 ⟨rfl, rfl⟩
    go_wp2_with fail
    refine (CN.out _).mono ?_
    rintro e w2 ⟨a, bm, rfl, _, b2⟩
    have B2 := Lib.hid b2
    clear b2
    go_wp2_with fail
    go_ret
    exact ⟨rfl, B1.out.trans (B2.out.mono B1.out.size)⟩
set_option maxHeartbeats 4000000 in
set_option maxRecDepth 100000 in
theorem whole_in (hL : Laid w) (h : RdDW W A l) (hb : Below W.heap.size W w) (hm : l.length ≤ maxLen) (hfit : ∀ t ∈ l, FitW t) (width : Int) (hg : GoodT ⟨width, 100, 200, 0⟩) (hf : fewW l = true) :
    Calls Tryz.prog 4 #[.int .i64 width, .slice A l.length cap] w (Holds w) := by
  have CU := Lib.hid (up_window w hL)
  have CF := Lib.hid (fun wx (hx : Below W.heap.size W wx) => fewW_walk wx W A cap l h hx hm)
  have HB := Lib.hid hb
  have HLD := Lib.hid hL
  have HR := Lib.hid h
  have HG := Lib.hid hg
  have HFIT := Lib.hid hfit
  have h60 := (fewW_parts hf).1
  have H60 := Lib.hid h60
  have HKS := Lib.hid (fewW_parts hf).2
  unfold Holds at CU
  have CN := Lib.hid (fun wx => newW_good wx hg (fun _ => 0))
  simp only at CN
  rw [hf] at CF
  have hw1 := hg.w1
  simp only at hw1
  have hw0 : ¬ width = 0 := by omega
  clear hL h hb hm hg hf hfit h60
  go_enter Tryz.func4, Tryz.ntmps4
  go_wp2_with fail
  refine CU.out.mono ?_
  rintro e w1 ⟨rfl, b1⟩
  have B1 := Lib.hid b1
  have CF1 := Lib.hid (CF.out w1 (HB.out.trans (b1.mono HB.out.size)))
  clear b1 CU CF
  go_wp2_with fail
  refine CF1.out.mono ?_
  rintro e w2 ⟨rfl, rfl⟩
  go_wp2_with fail
  refine (CN.out _).mono ?_
  rintro e w2 ⟨a, bm, rfl, hT, b2⟩
  have BW := Lib.hid (B1.out.trans (b2.mono B1.out.size))
  have HN : Hid (w.heap.size ≤ w1.heap.size) := Lib.hid B1.out.size
  have HN2 : Hid (w1.heap.size ≤ w2.heap.size) := Lib.hid b2.size
  obtain ⟨N, hN⟩ : ∃ N, w1.heap.size = N := ⟨_, rfl⟩
  rw [hN] at hT HN HN2
  have HT := Lib.hid hT
  clear b2 hT CN CF1 hN
  go_wp2_with fail
  go_loopg [9, 10] (l.length) (fun g s9 s10 wx => ∃ (i : Nat) (pl : List PtW) (blk : Int → Nat), i + g = l.length ∧ s9 = .int .u64 (pl.length : Nat) ∧ s10 = .int .i64 i ∧ Hid (Tq N wx a bm ⟨width, 100, 200, 0⟩ pl blk) ∧ Hid (LOk width pl) ∧ Hid (CapW ⟨width, 100, 200, 0⟩ pl) ∧ Hid (pl.length ≤ i) ∧ Hid (Below w.heap.size w wx) ∧ Hid (N ≤ wx.heap.size))
  case atStart => exact ⟨0, [], _, by omega, rfl, rfl, HT, Lib.hid (LOk.nil _), Lib.hid ⟨by show (0 : Int) ≤ 100; omega, fun s => by show (0 : Int) ≤ 200; omega⟩, Lib.hid (Nat.le_refl _), BW, HN2⟩
  case round =>
    obtain ⟨i, pl, blk, hig, rfl, rfl, HT1, HL1, HC1, HP1, HW1, HN1⟩ := hrel
    cases gk with
    | succ g =>
      have x5 : i < l.length := by omega
      have hl6 := H60.out
      have hpi := HP1.out
      obtain ⟨d, hd⟩ : ∃ d, l[i]? = some d := ⟨_, List.getElem?_eq_getElem x5⟩
      have hdm := List.mem_of_getElem? hd
      obtain ⟨gb, o, hA, hc⟩ := HR.out.at hd
      have bWr : Below W.heap.size W wr := HB.out.trans (HW1.out.mono HB.out.size)
      obtain ⟨_, _, p2, p3, p4, p5⟩ := hc wr bWr
      have hv : In64 d.val := (HFIT.out d hdm).val
      have hks := HKS.out d hdm
      have CA := Lib.hid (add_walk20 (mark := 0) (kd := d.kind) (time := d.time) (HT1.out.drewN 1) (HLD.out.below (HW1.out.trans ((below_drewN wr 1).mono HW1.out.size))) (key := d.key) (by omega) HG.out.u HC1.out hv (by omega) HL1.out.pt)
      subst hA
      have HV := Lib.hid hv
      clear hd hdm hc bWr hv hks
      go_wp2_with fail
      go_cut [11] from 49 to 70 (fun v11 wx => ∃ (pl3 : List PtW) (blk3 : Int → Nat), Hid (Ad N wr a bm ⟨width, 100, 200, 0⟩ pl (keyOk d.key) (d.key, d.kind) d.kind d.time d.val v11 pl3 blk3 wx))
      case first =>
        go_region_law (first
          | (go_simp; go_at_call 15; refine CA.out.mono ?_; rintro e w3 ha; obtain ⟨v, pl3, blk3, rfl, T3, k3, hv3⟩ := add_one ha; have HAD : Hid (Ad N wr a bm ⟨width, 100, 200, 0⟩ pl (keyOk d.key) (d.key, d.kind) d.kind d.time d.val v pl3 blk3 w3) := Lib.hid ⟨T3, k3, hv3⟩; clear ha T3 k3 hv3)
          | fail)
        all_goals go_wp2_with fail
        all_goals
          go_meet
          exact ⟨pl3, blk3, HAD⟩
      case' rest => skip
      obtain ⟨pl3, blk3, HAD⟩ := hcut
      have HT3 := Lib.hid HAD.out.tq
      have HK3 := Lib.hid HAD.out.kq
      have HV3 := Lib.hid HAD.out.or'
      clear HAD CA
      have HB3 : Hid (Below w.heap.size w wc) := Lib.hid (HW1.out.trans ((((below_drewN wr 1).mono HN1.out).trans (HK3.out.blw (by show N ≤ (wr.drewN 1).heap.size; exact HN1.out))).mono HN.out))
      have HN3 : Hid (N ≤ wc.heap.size) := Lib.hid (by have := HN1.out; have := HK3.out.size; have e : (wr.drewN 1).heap.size = wr.heap.size := rfl; omega)
      rcases HV3.out with ⟨⟨c, rfl⟩, rfl⟩ | ⟨rfl, rfl, ask, nf⟩
      · clear HV3
        go_wp2_with fail
        go_roundg g
        case rel => exact ⟨i + 1, pl3, blk3, by omega, rfl, by go_num, HT3, HL1, HC1, Lib.hid (by have := HP1.out; omega), HB3, HN3⟩
        case measure => omega
      · have HL3 := Lib.hid (HL1.out.add hw1 ask HV.out)
        have HC3 := Lib.hid (HC1.out.next (v := d.val) nf)
        have hlen : (pl ++ [(⟨startOf width d.time, (d.key, d.kind), d.val⟩ : PtW)]).length = pl.length + 1 := by rw [List.length_append]; rfl
        have HLN := Lib.hid hlen
        have z3 : IntKind.u64.wrap ((pl.length : Int) + 1) = ((pl.length + 1 : Nat) : Int) := by rw [IntKind.wrap_u64]; omega
        clear HV3 ask nf hlen
        go_wp2_with fail
        go_roundg g
        case rel => exact ⟨i + 1, _, blk3, by omega, by rw [HLN.out]; first | rfl | go_num, by go_num, HT3, HL3, HC3, Lib.hid (by rw [HLN.out]; have := HP1.out; omega), HB3, HN3⟩
        case measure => omega
    | zero =>
      have x5 : ¬ i < l.length := by omega
      have H6 : Hid (pl.length ≤ 60) := Lib.hid (by have := HP1.out; have := H60.out; omega)
      clear HP1 HC1
      go_wp2_with fail
      have HT1' : Hid (Tq N wr a bm ⟨width, 100, 200, ((0 : Nat) : Int)⟩ pl blk) := Lib.hid HT1.out
      go_loopg [12, 13] (pl.length + 1) (fun g s12 s13 wx => ∃ (n many : Nat) (ql : List PtW) (blk : Int → Nat), ql.length + 1 = g ∧ s12 = .int .u64 (many : Nat) ∧ s13 = .int .i64 n ∧ Hid (Tq N wx a bm ⟨width, 100, 200, (n : Int)⟩ ql blk) ∧ Hid (LOk width ql) ∧ Hid (many + ql.length = pl.length) ∧ Hid (n + ql.length ≤ pl.length) ∧ Hid (Below w.heap.size w wx) ∧ Hid (N ≤ wx.heap.size))
      case atStart => exact ⟨0, 0, pl, blk, rfl, rfl, rfl, HT1', HL1, Lib.hid (by omega), Lib.hid (by omega), HW1, HN1⟩
      case round =>
        obtain ⟨n, many, ql, blk2, hql, rfl, rfl, HT2, HL2, HM2, HQ2, HW2, HN2⟩ := hrel
        have h6 := H6.out
        have hm2 := HM2.out
        have hq2 := HQ2.out
        have n101 : (n : Int) < 101 := by omega
        have CC := Lib.hid (close_walk20 (mark := 4611686018427387904) HT2.out (by omega) HL2.out.bd HG.out.w1 HG.out.w2 (by show (0 : Int) ≤ n; omega) (by show (n : Int) ≤ 2147483647; omega))
        clear h6 hm2 hq2
        go_wp2_with fail
        refine CC.out.mono ?_
        rintro e w3 hc
        rcases hc with ⟨hno, rfl, b3⟩ | ⟨s, K, ys, D, d, blk3, hs, hdue, rfl, hy, hrd, hT3, hk3⟩
        · have hq0 : startsW ql = [] := by
            cases e : startsW ql with
            | nil => rfl
            | cons s K =>
              have := (HL2.out.bd s (by rw [e]; simp)).2
              have := HG.out.w2
              exact absurd (by show s + width ≤ 4611686018427387904; simp only at *; omega) (hno s K e)
          have hq1 := starts_nil hq0
          subst hq1
          have hmm : many = pl.length := by have := HM2.out; simpa using this
          subst hmm
          have T3 := HT2.out.below b3
          have HB3 : Hid (Below w.heap.size w w3) := Lib.hid (HW2.out.trans (b3.mono HW2.out.size))
          have CO := Lib.hid (fun wx (hx : Below w3.heap.size w3 wx) => open_walk20 (T3.below hx))
          have CR := Lib.hid (fun wx (hx : Below w3.heap.size w3 wx) => rows_walk20 (T3.below hx) (by simp))
          rw [hq0] at CO
          rw [show allW [] = 0 from rfl] at CR
          unfold btVal
          clear hno b3 hq0 T3 CC
          go_wp2_with fail
          have ba : Below w3.heap.size w3 (w3.alloc (.cells #[.int .i64 0, .int .i64 0, .slice none 0 0] 40)) := (Below.refl _ w3).alloc (Nat.le_refl _) _
          refine (CO.out _ ba).mono ?_
          rintro e w4 ⟨rfl, rfl⟩
          go_wp2_with fail
          refine (CR.out _ ba).mono ?_
          rintro e w4 ⟨rfl, b4⟩
          have B4 : Hid (Below w.heap.size w w4) := Lib.hid (HB3.out.trans ((ba.trans (b4.mono ba.size)).mono HB3.out.size))
          clear b4 ba
          go_wp2_with fail
          go_ret
          exact ⟨rfl, B4.out⟩
        · have hin : s ∈ startsW ql := by rw [hs]; simp
          obtain ⟨s0, s1, s2⟩ := HL2.out.starts s hin
          have zt : s.tmod width = 0 := by rw [Int.tmod_eq_emod_of_nonneg s0]; exact s2
          have hyl : ys.length = (rowsW s ql).length := by rw [← hy, List.length_map]
          have hne : ys.length ≠ 0 := fun e => by
            rw [e] at hyl
            exact rows_none.1 (List.length_eq_zero_iff.1 hyl.symm) hin
          have hqb : ql.length ≤ 60 := by have := HM2.out; have := H6.out; omega
          have hnb : n ≤ 60 := by have := HQ2.out; have := H6.out; omega
          have hmay := mayOk_win (q := (n : Int)) HL2.out (by omega) (by omega) (by omega) hin
          have hsz := sized_win HL2.out (by omega) s
          rw [← hy] at hmay hsz
          have CM := Lib.hid (fun wx (hx : Below w3.heap.size w3 wx) => by
            have h := refMayBt ⟨(n : Int), s, ys.map (·.1)⟩ D d wx (hrd.below hx).rdr hsz
            simp only [List.length_map] at h
            rw [hmay] at h
            exact h)
          unfold BB btVal at CM
          have HB3 : Hid (Below w.heap.size w w3) := Lib.hid (HW2.out.trans ((hk3.blw HN2.out).mono HN.out))
          have HN3 : Hid (N ≤ w3.heap.size) := Lib.hid (Nat.le_trans HN2.out hk3.size)
          have HT3 : Hid (Tq N w3 a bm ⟨width, 100, 200, ((n + 1 : Nat) : Int)⟩ (leftW s ql) blk3) := Lib.hid (by
            have e : ({ (⟨width, 100, 200, (n : Int)⟩ : Tb) with sq := (n : Int) + 1 } : Tb) = ⟨width, 100, 200, ((n + 1 : Nat) : Int)⟩ := by simp
            rw [← e]
            exact hT3)
          have hcnt := rows_many s ql (by omega)
          have hleft := left_length s ql
          have hman : manyW (ys.map (·.1)) + (leftW s ql).length = ql.length := by rw [hy]; omega
          have hman1 : 1 ≤ manyW (ys.map (·.1)) := by
            cases hys : ys with
            | nil => exact absurd (by rw [hys]; rfl) hne
            | cons y r =>
              have hy1 : y.1 ∈ rowsW s ql := by rw [← hy, hys]; simp
              have h1 := (HL2.out.rows s y.1 hy1).1.m1
              have h2 := many_le (l := (y :: r).map (·.1)) (r := y.1) (by simp)
              omega
          have HMAN := Lib.hid hman
          have HMAN1 := Lib.hid hman1
          have HRD := Lib.hid hrd
          have HYL : Hid (ys.length ≤ 60) := Lib.hid (by have := rows_le s ql; omega)
          have hnz : ¬ (ys.length : Int) = 0 := by omega
          clear hs hdue hT3 hk3 hin s0 s1 s2 hyl hne hmay hsz hcnt hleft hman hman1 hrd hqb hnb CC
          unfold btVal
          go_wp2_with fail
          have ba : Below w3.heap.size w3 (w3.alloc (.cells #[.int .i64 n, .int .i64 s, .slice D ys.length d] 40)) := (Below.refl _ w3).alloc (Nat.le_refl _) _
          refine (CM.out _ ba).mono ?_
          rintro e w4 ⟨rfl, b4⟩
          have bb4 := (BtB.new w3 (n : Int) s D ys.length d).belowZ b4
          have q2 := bb4.c2
          have HBB := Lib.hid bb4
          have B4 := Lib.hid (ba.trans (b4.mono ba.size))
          have HRR := Lib.hid ((HRD.out.below B4.out).rdr)
          clear ba b4 bb4 CM
          go_wp2_with fail
          go_loopg [12, 16] (ys.length) (fun g s12 s16 wx => ∃ (k : Nat), k + g = ys.length ∧ s12 = .int .u64 (many + manyW ((ys.map (·.1)).take k) : Nat) ∧ s16 = .int .i64 k ∧ Hid (w4 = wx))
          case atStart => exact ⟨0, by omega, by simp [manyW], rfl, Lib.hid rfl⟩
          case round =>
            obtain ⟨k, hkg, rfl, rfl, HWX⟩ := hrel
            have hwx := HWX.out
            subst hwx
            clear HWX
            cases gk with
            | succ g2 =>
              have x7 : k < ys.length := by omega
              obtain ⟨y, hyk⟩ : ∃ y, (ys.map (·.1))[k]? = some y := ⟨_, List.getElem?_eq_getElem (by rw [List.length_map]; exact x7)⟩
              obtain ⟨gb, o, Bk, ck, hD, hrow⟩ := HRR.out.at hyk
              have p2 := hrow.p2
              have hnx := many_next hyk
              have hle := many_take (ys.map (·.1)) (k + 1)
              have hbd : many + manyW ((ys.map (·.1)).take (k + 1)) ≤ 60 := by
                have h1 := HMAN.out
                have h2 := HM2.out
                have h3 := H6.out
                omega
              have HNX := Lib.hid hnx
              subst hD
              obtain ⟨m0, hm0⟩ : ∃ m0, manyW ((ys.map (·.1)).take k) = m0 := ⟨_, rfl⟩
              rw [hm0] at HNX hnx ⊢
              have z7 : IntKind.u64.wrap ((many : Int) + (m0 : Int) + (y.many : Int)) = ((many + (m0 + y.many) : Nat) : Int) := by rw [IntKind.wrap_u64]; omega
              have hyl6 := HYL.out
              clear hyk hrow hnx hle hbd hm0
              go_wp2_with fail
              go_roundg g2
              case rel => exact ⟨k + 1, by omega, by rw [HNX.out]; first | rfl | go_num, by go_num, Lib.hid rfl⟩
              case measure => omega
            | zero =>
              have x7 : ¬ k < ys.length := by omega
              have HTK : Hid ((ys.map (·.1)).take k = ys.map (·.1)) := Lib.hid (List.take_of_length_le (by rw [List.length_map]; omega))
              rw [HTK.out]
              obtain ⟨m1, hm1⟩ : ∃ m1, manyW (ys.map (·.1)) = m1 := ⟨_, rfl⟩
              rw [hm1] at HMAN HMAN1 ⊢
              have HW4 : Hid (Below w.heap.size w w4) := Lib.hid (HB3.out.trans (B4.out.mono HB3.out.size))
              have HN4 : Hid (N ≤ w4.heap.size) := Lib.hid (Nat.le_trans HN3.out B4.out.size)
              have HT4 := Lib.hid (HT3.out.below B4.out)
              have HL4 := Lib.hid (HL2.out.left s)
              have HM4 : Hid (many + m1 + (leftW s ql).length = pl.length) := Lib.hid (by have := HMAN.out; have := HM2.out; omega)
              have HQ4 : Hid (n + 1 + (leftW s ql).length ≤ pl.length) := Lib.hid (by have := HMAN.out; have := HMAN1.out; have := HQ2.out; omega)
              clear hm1
              go_wp2_with fail
              go_roundg ((leftW s ql).length + 1)
              case rel => exact ⟨n + 1, many + m1, leftW s ql, blk3, rfl, rfl, by go_num, HT4, HL4, HM4, HQ4, HW4, HN4⟩
              case measure => have := HMAN.out; have := HMAN1.out; omega
/-- The statement's body, for all that may be handed in. -/
theorem whole_any (hL : Laid w) (h : RdDW W A l) (hb : Below W.heap.size W w) (hm : l.length ≤ maxLen) (hfit : ∀ t ∈ l, FitW t) (width : Int) :
    Calls Tryz.prog 4 #[.int .i64 width, .slice A l.length cap] w (Holds w) := by
  by_cases hg : GoodT ⟨width, 100, 200, 0⟩
  · cases hf : fewW l with
    | false => exact whole_out hL h hb hm width (.inr ⟨hg, hf⟩)
    | true => exact whole_in hL h hb hm hfit width hg hf
  · exact whole_out hL h hb hm width (.inl hg)
end
end Go.Proofs.YtedhciolnekpaaaGreatDoor
