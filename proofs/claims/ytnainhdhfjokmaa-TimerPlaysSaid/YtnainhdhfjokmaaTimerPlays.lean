/-
  Layer 13: the law TimerPlays.
-/
import Derived.Test.YtnainhdhfjokmaaTimerDeeds
import Derived.Deep.RegionHeldLaw
namespace Go.Proofs.Ytnainhdhfjokmaa
open Go.ChangeShapes Go.WideShapes Go.ChangeAt Go.RowKit Go.Shelf Go.Deep
set_option linter.unusedVariables false

set_option maxRecDepth 100000 in
theorem plays_many (A : Option Addr) (c n : Nat) (W : World) (hn : 150 < n) (hn1 : n ≤ 9223372036854775807) :
    Calls Try.prog 3 #[.slice A n c] W (Holds W) := by
  have CU := Lib.hid (up_timer W)
  have CN := Lib.hid new_walk
  have i3 : (150 : Int) < n := by omega
  go_enter Try.func3, Try.ntmps3
  go_wp2_with fail
  refine CU.out.mono ?_
  rintro e w1 ⟨rfl, b1⟩
  have B1 := Lib.hid b1
  clear b1 CU
  go_wp2_with fail
  refine (CN.out _).mono ?_
  rintro e w2 ⟨rfl, q2, b2⟩
  have B2 := Lib.hid (B1.out.trans (b2.mono B1.out.size))
  clear b2 q2
  go_wp2_with fail
  go_ret
  exact ⟨rfl, B2.out⟩
/-- The law's state at the head of a round. -/
def Pl (W w : World) (F : Nat → Prop) (a : Nat) (L : List Du) (v : Value) (l : List Du) : Prop := Ps W w F a L v l ∧ Sel l L ∧ l.length ≤ 50
/-- .. and within a take: l has been looked through as far as the m-th. -/
structure Ts (W w : World) (F : Nat → Prop) (a : Nat) (L : List Du) (kk : Nat) (v : Value) (km : List Du) (m n : Nat) (vl : Value) (xb : Nat) (xc : List Value) (xt : TypeId) : Prop where
  p : Ps W w F a (L.drop kk) v km
  s : Sel km (L.drop m)
  t : OwnD w 0 vl (L.take kk)
  x : w.heap[xb]? = some (.cells xc.toArray xt (0, 0))
  len : km.length = n
  n50 : n ≤ 50
theorem Ts.still {W w w' : World} {F : Nat → Prop} {a : Nat} {L : List Du} {kk : Nat} {v : Value} {km : List Du} {m n : Nat} {vl : Value} {xb : Nat} {xc : List Value} {xt : TypeId} (h : Ts W w F a L kk v km m n vl xb xc xt) (b : Below w.heap.size w w') : Ts W w' F a L kk v km m n vl xb xc xt :=
  ⟨h.p.still b, h.s, own_still h.t b, by rw [b.block xb (lt_of_block h.x)]; exact h.x, h.len, h.n50⟩
theorem Ts.row {W w w' : World} {F : Nat → Prop} {a : Nat} {L : List Du} {kk : Nat} {v v' : Value} {km km' : List Du} {m n n' : Nat} {vl : Value} {xb : Nat} {xc : List Value} {xt : TypeId} (h : Ts W w F a L kk v km m n vl xb xc xt) (b : Below w.heap.size w w') (o : OwnD w' w.heap.size v' km') (s' : Sel km' (L.drop (m + 1))) (hl : km'.length = n') (hn : n' ≤ 50) : Ts W w' F a L kk v' km' (m + 1) n' vl xb xc xt :=
  ⟨h.p.row b o, s', own_still h.t b, by rw [b.block xb (lt_of_block h.x)]; exact h.x, hl, hn⟩
set_option maxRecDepth 100000 in
set_option maxHeartbeats 4000000 in
theorem plays_walk (A : Option Addr) (c : Nat) (l : List Tri) (W : World) (hA : RdT W A l) (hn : l.length ≤ 150) (hF : ∀ t ∈ l, FitT t) :
    Calls Try.prog 3 #[.slice A l.length c] W (Holds W) := by
  have CU := Lib.hid (up_timer W)
  have CN := Lib.hid new_walk
  have HA := Lib.hid hA
  have HF := Lib.hid hF
  have eqc := neq_codes
  have sD := stoodD
  have gD := eqgD
  obtain ⟨N, hN⟩ : ∃ N, l.length = N := ⟨_, rfl⟩
  have HN := Lib.hid hN
  rw [hN] at hn ⊢
  have i3 : ¬ (150 : Int) < N := by omega
  clear hA hF hN
  go_enter Try.func3, Try.ntmps3
  go_wp2_with fail
  refine CU.out.mono ?_
  rintro e w1 ⟨rfl, b1⟩
  have B1 := Lib.hid b1
  clear b1 CU
  go_wp2_with fail
  refine (CN.out _).mono ?_
  rintro e w2 ⟨rfl, q2, b2⟩
  obtain ⟨a, ha⟩ : ∃ a, w1.heap.size = a := ⟨_, rfl⟩
  rw [ha] at q2 ⊢
  have P2 : Hid (Pl W w2 (fun g => g = a) a [] (.slice none 0 0) []) := Lib.hid ⟨⟨B1.out.trans (b2.mono B1.out.size), q2, OwnD.nil _ _, fun g hg => by
    have hg : g = a := hg
    have := B1.out.size
    omega, fun g hg => by (cases hg), fun g hg => by (cases hg)⟩, Sel.nil, by simp⟩
  clear b2 CN B1 q2 ha
  go_wp2_with fail
  go_loopg [5, 6] N (fun g s5 s6 wx => ∃ (i n : Nat) (A8 : Option Addr) (c8 : Nat) (F : Nat → Prop) (L k : List Du), i + g = N ∧ s5 = .slice A8 n c8 ∧ s6 = .int .i64 (i : Nat) ∧ Hid (Pl W wx F a L (.slice A8 n c8) k))
  case atStart => exact ⟨0, 0, none, 0, _, [], [], by omega, rfl, rfl, P2⟩
  case round =>
    clear P2
    obtain ⟨i, n, A8, c8, F, L, k, hi, rfl, rfl, HR⟩ := hrel
    cases gk with
    | zero =>
      have x1 : ¬ i < N := by omega
      go_wp2_with fail
      go_ret
      exact ⟨rfl, HR.out.1.bel⟩
    | succ g =>
      have x1 : i < N := by omega
      obtain ⟨t, ht⟩ : ∃ t, l[i]? = some t := ⟨l[i]'(by have := HN.out; omega), List.getElem?_eq_getElem _⟩
      obtain ⟨b0, o, rfl, hat⟩ := HA.out.at ht
      have hft := HF.out t (List.mem_of_getElem? ht)
      have CP := Lib.hid (fun w => pick_walk w t.x 4 hft.1 (by omega) (by omega))
      have hlt := pickN_lt t.x (n := 4) (by omega)
      obtain ⟨p, hp⟩ : ∃ p, pickN t.x 4 = p := ⟨_, rfl⟩
      rw [hp] at CP hlt
      obtain ⟨hP, hS, hk⟩ := HR.out
      have hkn : k.length = n := (src_shape hP.r).2
      have hLn : L.length = n := by rw [← hS.len]; exact hkn
      obtain ⟨p1, p2, p3⟩ := hat _ hP.bel
      obtain ⟨xb, hxb⟩ : ∃ xb, wr.heap.size = xb := ⟨_, rfl⟩
      have X0 := hP.aside (.cells #[.int .i64 t.x, .int .i64 t.y, .int .i64 t.z] 28)
      rw [hxb] at X0
      have P0 := hP.still (bel_alloc (Below.refl _ wr) (Nat.le_refl _) (.cells #[.int .i64 t.x, .int .i64 t.y, .int .i64 t.z] 28))
      have HAT := Lib.hid hat
      have HI := Lib.hid hi
      have HS := Lib.hid hS
      have HKN := Lib.hid hkn
      have HLN := Lib.hid hLn
      have x2 : n ≤ 50 := by omega
      have HK := Lib.hid hk
      clear hat hp hft ht hi hS hk hkn hLn hP HR
      have HX := Lib.hid X0
      have HP := Lib.hid P0
      clear X0 P0
      obtain ⟨tx, ty, tz⟩ := t
      simp only at p1 p2 p3 HX HP CP
      go_wp2_with fail
      refine (CP.out _).mono ?_
      rintro e w3 ⟨rfl, e3⟩
      rw [← e3] at HX HP
      have k1 : w3.cell? ⟨xb, 1, none⟩ = some (.int .i64 ty) := cell_of_block HX.out.blk
      have k2 : w3.cell? ⟨xb, 2, none⟩ = some (.int .i64 tz) := cell_of_block HX.out.blk
      have hcase : (p = 0 ∨ p = 1) ∨ p = 2 ∨ p = 3 := by omega
      clear CP e3 p1 p2 p3 hxb hlt HAT
      rcases hcase with hset | rfl | rfl
      · by_cases hneg : ty < 0
        · have C3 := Lib.hid (set_early HP.out.q ty tz hneg)
          have C4 := Lib.hid (len_walk HP.out.q)
          rw [HLN.out] at C4
          unfold errT at C3
          rcases hset with rfl | rfl
          all_goals
            go_wp2_with fail
            refine C3.out.mono ?_
            rintro e w4 ⟨rfl, rfl⟩
            go_wp2_with fail
            refine C4.out.mono ?_
            rintro e w5 ⟨rfl, rfl⟩
            go_wp2_with fail
            go_roundg g
            case rel => exact ⟨i + 1, n, A8, c8, F, L, k, by have := HI.out; omega, rfl, by go_num, Lib.hid ⟨HP.out, HS.out, HK.out⟩⟩
            case measure => omega
        · by_cases hfull : n = 50
          · have C3 := Lib.hid (set_full HP.out.q ty tz (by omega) (by rw [HLN.out]; exact hfull))
            have C4 := Lib.hid (len_walk HP.out.q)
            rw [HLN.out] at C4
            unfold errT at C3
            have y1 : (50 : Int) ≤ n := by omega
            have HFU := Lib.hid hfull
            clear hfull
            rcases hset with rfl | rfl
            all_goals
              go_wp2_with fail
              refine C3.out.mono ?_
              rintro e w4 ⟨rfl, rfl⟩
              go_wp2_with fail
              refine C4.out.mono ?_
              rintro e w5 ⟨rfl, rfl⟩
              go_wp2_with fail
              go_roundg g
              case rel => exact ⟨i + 1, n, A8, c8, F, L, k, by have := HI.out; omega, rfl, by go_num, Lib.hid ⟨HP.out, HS.out, HK.out⟩⟩
              case measure => omega
          · obtain ⟨kk, hcut⟩ := cut_some HS.out.srt ty
            have C3 := Lib.hid (set_good HP.out.q (what := tz) (by omega) hcut (by rw [HLN.out]; omega))
            have S1 := Lib.hid (HS.out.push (x := (ty, tz)) hcut)
            have y1 : ¬ (50 : Int) ≤ n := by omega
            have hL1 : (insD L kk (ty, tz)).length = n + 1 := by rw [insD_length hcut.le, HLN.out]
            have HL1 := Lib.hid hL1
            obtain ⟨L1, hL1⟩ : ∃ L1, insD L kk (ty, tz) = L1 := ⟨_, rfl⟩
            rw [hL1] at C3 S1 HL1
            have n1 : n < 1000 := by omega
            clear hcut hL1
            rcases hset with rfl | rfl
            all_goals
              go_wp2_with fail
              refine C3.out.mono ?_
              rintro e w4 ⟨rfl, F4, q4, m4⟩
              have HP4 := Lib.hid (HP.out.turn q4 m4)
              have HX4 := Lib.hid (HX.out.turn m4)
              have k3 : w4.cell? ⟨xb, 1, none⟩ = some (.int .i64 ty) := cell_of_block HX4.out.blk
              have k4 : w4.cell? ⟨xb, 2, none⟩ = some (.int .i64 tz) := cell_of_block HX4.out.blk
              have d4 := (HP4.out.still (below_drew w4)).r
              obtain ⟨A1, c1, u1, A2, c2, u2, GA⟩ := grA d4 n1 (ty, tz)
              obtain ⟨B1, c3, u3, B2, c4, u4, GB⟩ := grB d4 n1 (ty, tz)
              obtain ⟨D1, c5, u5, D2, c6, u6, GD⟩ := grC d4 n1 (ty, tz)
              unfold oneObj noObj at GA GB GD
              have GA : GrD w4.drew u1 u2 (w4.alloc (.cells #[] 35)).drew (u1.alloc (.cells #[.int .i64 ty, .int .i64 tz] 35)) A8 A1 A2 c8 c1 c2 w4.heap.size u1.heap.size n k (ty, tz) := GA
              have GB : GrD w4.drew u3 u4 ((w4.alloc (.cells #[] 35)).alloc (.cells #[.int .i64 ty, .int .i64 tz] 35)).drew u3 A8 B1 B2 c8 c3 c4 w4.heap.size (w4.heap.size + 1) n k (ty, tz) := GB
              have GD : GrD w4.drew u5 u6 ((w4.alloc (.cells #[.int .i64 ty, .int .i64 tz] 35)).alloc (.cells #[] 35)).drew u5 A8 D1 D2 c8 c5 c6 (w4.heap.size + 1) w4.heap.size n k (ty, tz) := GD
              have E1 : Hid (Ps W u2 F4 a L1 (.slice A2 (n + 1) c2) (k ++ [(ty, tz)])) := Lib.hid ((HP4.out.still (below_drew w4)).row GA.b2 GA.own)
              have E2 : Hid (Ps W u4 F4 a L1 (.slice B2 (n + 1) c4) (k ++ [(ty, tz)])) := Lib.hid ((HP4.out.still (below_drew w4)).row GB.b2 GB.own)
              have E3 : Hid (Ps W u6 F4 a L1 (.slice D2 (n + 1) c6) (k ++ [(ty, tz)])) := Lib.hid ((HP4.out.still (below_drew w4)).row GD.b2 GD.own)
              have C4A := Lib.hid (len_walk E1.out.q)
              have C4B := Lib.hid (len_walk E2.out.q)
              have C4D := Lib.hid (len_walk E3.out.q)
              rw [HL1.out] at C4A C4B C4D
              have QX : ∀ wx, Below w4.drew.heap.size w4.drew wx → wx.cell? ⟨xb, 1, none⟩ = some (.int .i64 ty) ∧ wx.cell? ⟨xb, 2, none⟩ = some (.int .i64 tz) := fun wx b =>
                have := ((HX4.out.still (below_drew w4)).still b).blk
                ⟨cell_of_block this, cell_of_block this⟩
              have SQ0 := Lib.hid (QX _ (Below.refl _ _))
              have NO := fun (wx : World) (b : Below w4.drew.heap.size w4.drew wx) (ob : Obj) => QX (wx.alloc ob) (bel_alloc b b.size ob)
              have N2 := fun (ob ob' : Obj) => QX ((w4.drew.alloc ob).alloc ob') (bel_alloc (bel_alloc (Below.refl _ _) (Nat.le_refl _) ob) (by rw [size_new]; omega) ob')
              have SA1 : Hid ((w4.alloc (.cells #[] 35)).drew.cell? ⟨xb, 1, none⟩ = some (.int .i64 ty) ∧ (w4.alloc (.cells #[] 35)).drew.cell? ⟨xb, 2, none⟩ = some (.int .i64 tz)) := Lib.hid (NO w4.drew (Below.refl _ _) _)
              have SA2 : Hid ((w4.alloc (.cells #[.int .i64 ty, .int .i64 tz] 35)).drew.cell? ⟨xb, 1, none⟩ = some (.int .i64 ty) ∧ (w4.alloc (.cells #[.int .i64 ty, .int .i64 tz] 35)).drew.cell? ⟨xb, 2, none⟩ = some (.int .i64 tz)) := Lib.hid (NO w4.drew (Below.refl _ _) _)
              have SA3 : Hid (((w4.alloc (.cells #[] 35)).alloc (.cells #[.int .i64 ty, .int .i64 tz] 35)).drew.cell? ⟨xb, 1, none⟩ = some (.int .i64 ty) ∧ ((w4.alloc (.cells #[] 35)).alloc (.cells #[.int .i64 ty, .int .i64 tz] 35)).drew.cell? ⟨xb, 2, none⟩ = some (.int .i64 tz)) := Lib.hid (N2 _ _)
              have SA4 : Hid (((w4.alloc (.cells #[.int .i64 ty, .int .i64 tz] 35)).alloc (.cells #[] 35)).drew.cell? ⟨xb, 1, none⟩ = some (.int .i64 ty) ∧ ((w4.alloc (.cells #[.int .i64 ty, .int .i64 tz] 35)).alloc (.cells #[] 35)).drew.cell? ⟨xb, 2, none⟩ = some (.int .i64 tz)) := Lib.hid (N2 _ _)
              have SA5 : Hid ((u1.alloc (.cells #[.int .i64 ty, .int .i64 tz] 35)).cell? ⟨xb, 1, none⟩ = some (.int .i64 ty) ∧ (u1.alloc (.cells #[.int .i64 ty, .int .i64 tz] 35)).cell? ⟨xb, 2, none⟩ = some (.int .i64 tz)) := Lib.hid (NO u1 GA.b1 _)
              have SQ1 := Lib.hid (QX _ GA.b1)
              have SQ2 := Lib.hid (QX _ GA.b2)
              have SQ3 := Lib.hid (QX _ GB.b1)
              have SQ4 := Lib.hid (QX _ GB.b2)
              have SQ5 := Lib.hid (QX _ GD.b1)
              have SQ6 := Lib.hid (QX _ GD.b2)
              have ra1 := Lib.hid GA.r1
              have ra2 := Lib.hid GA.r2
              have rb1 := Lib.hid GB.r1
              have rb2 := Lib.hid GB.r2
              have rd1 := Lib.hid GD.r1
              have rd2 := Lib.hid GD.r2
              have HK1 : Hid ((k ++ [(ty, tz)]).length ≤ 50) := Lib.hid (by rw [List.length_append, HKN.out]; simp; omega)
              clear C3 q4 m4 d4 GA GB GD QX NO N2
              go_wp2_with fail
              clear k3 k4 k1 k2
              go_region_held_law (fun w' => w'.cell? ⟨xb, 1, none⟩ = some (.int .i64 ty) ∧ w'.cell? ⟨xb, 2, none⟩ = some (.int .i64 tz))
                (first | with_reducible exact SQ0.out | with_reducible exact SQ1.out | with_reducible exact SQ2.out | with_reducible exact SQ3.out | with_reducible exact SQ4.out | with_reducible exact SQ5.out | with_reducible exact SQ6.out | with_reducible exact SA1.out | with_reducible exact SA2.out | with_reducible exact SA3.out | with_reducible exact SA4.out | with_reducible exact SA5.out | fail) (first
                | ((with_reducible refine step_append_due ra1.out (s := .tmp 94) (x := .tmp 95) ?h1 ?h2 ?h3 ?h4 ?h5 ?_); (case h1 => rfl); (case h2 => rfl); (case h3 => rfl); (case h4 => rfl); (case h5 => rfl))
                | ((with_reducible refine step_append_due rb1.out (s := .tmp 94) (x := .tmp 95) ?h1 ?h2 ?h3 ?h4 ?h5 ?_); (case h1 => rfl); (case h2 => rfl); (case h3 => rfl); (case h4 => rfl); (case h5 => rfl))
                | ((with_reducible refine step_append_due rd1.out (s := .tmp 94) (x := .tmp 95) ?h1 ?h2 ?h3 ?h4 ?h5 ?_); (case h1 => rfl); (case h2 => rfl); (case h3 => rfl); (case h4 => rfl); (case h5 => rfl))
                | ((with_reducible refine step_append_due ra2.out (s := .tmp 96) (x := .tmp 102) ?h1 ?h2 ?h3 ?h4 ?h5 ?_); (case h1 => rfl); (case h2 => rfl); (case h3 => rfl); (case h4 => rfl); (case h5 => rfl))
                | ((with_reducible refine step_append_due rb2.out (s := .tmp 96) (x := .tmp 102) ?h1 ?h2 ?h3 ?h4 ?h5 ?_); (case h1 => rfl); (case h2 => rfl); (case h3 => rfl); (case h4 => rfl); (case h5 => rfl))
                | ((with_reducible refine step_append_due rd2.out (s := .tmp 96) (x := .tmp 102) ?h1 ?h2 ?h3 ?h4 ?h5 ?_); (case h1 => rfl); (case h2 => rfl); (case h3 => rfl); (case h4 => rfl); (case h5 => rfl))
                | fail)
              all_goals
                go_wp2_with fail
                first
                  | refine C4A.out.mono ?_
                  | refine C4B.out.mono ?_
                  | refine C4D.out.mono ?_
                rintro e w5 ⟨rfl, rfl⟩
                go_wp2_with fail
                go_roundg g
                case rel => first
                  | exact ⟨i + 1, n + 1, A2, c2, F4, L1, k ++ [(ty, tz)], by have := HI.out; omega, rfl, by go_num, Lib.hid ⟨E1.out, S1.out, HK1.out⟩⟩
                  | exact ⟨i + 1, n + 1, B2, c4, F4, L1, k ++ [(ty, tz)], by have := HI.out; omega, rfl, by go_num, Lib.hid ⟨E2.out, S1.out, HK1.out⟩⟩
                  | exact ⟨i + 1, n + 1, D2, c6, F4, L1, k ++ [(ty, tz)], by have := HI.out; omega, rfl, by go_num, Lib.hid ⟨E3.out, S1.out, HK1.out⟩⟩
                case measure => omega
      · obtain ⟨kk, hcut⟩ := cut_some HS.out.srt ty
        have C3 := Lib.hid (take_walk HP.out.q hcut (by rw [HLN.out]; omega))
        have HCUT := Lib.hid hcut
        have hkl : (L.take kk).length = kk := by have := hcut.le; rw [List.length_take]; omega
        have HKL := Lib.hid hkl
        have x5 : kk ≤ 50 := by have := hcut.le; have := HLN.out; omega
        clear hcut hkl
        go_wp2_with fail
        refine C3.out.mono ?_
        rintro e w4 ⟨vl, rfl, ol, q4, m4⟩
        have HP4 := HP.out.turn q4 m4
        have HX4 := HX.out.turn m4
        obtain ⟨Al, cl, rfl⟩ := own_shape ol HKL.out
        have J0 : Hid (Ts W w4 F a L kk (.slice A8 n c8) k 0 n (.slice Al kk cl) xb [.int .i64 tx, .int .i64 ty, .int .i64 tz] 28) :=
          Lib.hid ⟨HP4, HS.out, ol.less (Nat.zero_le _), HX4.blk, HKN.out, x2⟩
        clear C3 ol q4 m4 HP4 HX4 k1 k2
        have HLN2 := HLN
        clear HKN HLN HP HX HS HK
        go_wp2_with fail
        go_loopg [5, 10] kk (fun g s5 s10 wx => ∃ (m n9 : Nat) (A9 : Option Addr) (c9 : Nat) (km : List Du), m + g = kk ∧ s5 = .slice A9 n9 c9 ∧ s10 = .int .i64 (m : Nat) ∧ Hid (Ts W wx F a L kk (.slice A9 n9 c9) km m n9 (.slice Al kk cl) xb [.int .i64 tx, .int .i64 ty, .int .i64 tz] 28))
        case atStart => exact ⟨0, n, A8, c8, k, by omega, rfl, rfl, J0⟩
        case round =>
          clear J0 x2
          obtain ⟨m, n9, A9, c9, km, hm, rfl, rfl, HT⟩ := hrel
          have k1 : wr.cell? ⟨xb, 1, none⟩ = some (.int .i64 ty) := cell_of_block HT.out.x
          have k2 := HT.out.n50
          have CF := Lib.hid (first_walk HT.out.p.r (by rw [HT.out.len]; omega))
          have HM := Lib.hid hm
          clear hm
          cases gk with
          | zero =>
            have hmk : m = kk := by have := HM.out; omega
            have HMK := Lib.hid hmk
            cases hL : L.drop kk with
            | nil =>
              have hz0 : km = [] := List.length_eq_zero_iff.1 (by have := HT.out.s.len; rw [HMK.out, hL] at this; simpa using this)
              have hln : (L.drop kk).length = 0 := by rw [hL]; rfl
              have HLN3 := Lib.hid hln
              have hn9 : n9 = 0 := by have := HT.out.len; rw [hz0] at this; simpa using this.symm
              have HZ := Lib.hid hz0
              clear hL hln hz0
              subst hn9
              obtain rfl := hmk
              go_wp2_with fail
              refine CF.out.mono ?_
              rintro e w5 ⟨z, rfl, hz, m5, e5⟩
              obtain rfl : z = -1 := by
                rcases hz with ⟨_, e⟩ | ⟨b, d, _, h⟩
                · exact e
                · have := h.lt; rw [HZ.out] at this; simp at this
              have HT5 := HT.out.still (below_drewN wr m5)
              rw [← e5] at HT5
              have CL := Lib.hid (len_walk HT5.p.q)
              rw [HLN3.out] at CL
              have HT5 := Lib.hid HT5
              clear CF hz e5 k1 k2
              go_wp2_with fail
              refine CL.out.mono ?_
              rintro e w8 ⟨rfl, rfl⟩
              go_wp2_with fail
              go_roundg g
              case rel => exact ⟨i + 1, 0, A9, c9, F, L.drop m, km, by have := HI.out; omega, rfl, by go_num, Lib.hid ⟨HT5.out.p, HT5.out.s, by rw [HT5.out.len]; omega⟩⟩
              case measure => omega
            | cons d L2 =>
              have hln : (L.drop kk).length = n9 := by have := HT.out.s.len; rw [HMK.out, HT.out.len] at this; exact this.symm
              have HLN3 := Lib.hid hln
              obtain ⟨b, hb, _⟩ := (show Sel km (d :: L2) by have := HT.out.s; rw [HMK.out, hL] at this; exact this).inv
              have hgt : ¬ d.1 ≤ ty := by
                have := HCUT.out.hi kk d (Nat.le_refl _) (by have e := congrArg (fun t => t[0]?) hL; simpa using e)
                omega
              have hbl : b < n9 := by rw [← HT.out.len]; exact hb.lt
              have x3 : (b : Int) < n9 := by omega
              have HB := Lib.hid hb
              obtain ⟨gr, cr, er, hx9, har⟩ := HT.out.p.r.at hb.at'
              rw [HT.out.len] at er
              cases er
              obtain ⟨y3, y4⟩ := har wr (Below.refl _ _)
              have x4 : ¬ (b : Int) < 0 := by omega
              have x6 : ty < d.1 := by omega
              clear hL hln hb hbl hx9 har y4 hgt
              obtain rfl := hmk
              go_wp2_with fail
              refine CF.out.mono ?_
              rintro e w5 ⟨z, rfl, hz, m5, e5⟩
              obtain rfl : z = (b : Int) := by
                rcases hz with ⟨e, _⟩ | ⟨b', d', e, h⟩
                · have := HB.out.lt; rw [e] at this; simp at this
                · obtain ⟨rfl, _⟩ := HB.out.uniq h
                  exact e
              subst e5
              clear CF hz
              go_wp2_with fail
              go_quiet (fail)
              obtain ⟨m7, e7⟩ : ∃ m7, m7 = nq := ⟨_, rfl⟩
              subst e7
              have HT7 := (HT.out.still (below_drewN wr m5)).still (below_drewN _ m7)
              obtain ⟨w7, hw7⟩ : ∃ w7, (wr.drewN m5).drewN m7 = w7 := ⟨_, rfl⟩
              rw [hw7] at HT7 ⊢
              have CL := Lib.hid (len_walk HT7.p.q)
              rw [HLN3.out] at CL
              have HT7 := Lib.hid HT7
              clear hw7 y3 k1 k2
              go_wp2_with fail
              refine CL.out.mono ?_
              rintro e w8 ⟨rfl, rfl⟩
              go_wp2_with fail
              go_roundg g
              case rel => exact ⟨i + 1, n9, _, _, F, L.drop m, km, by have := HI.out; omega, rfl, by go_num, Lib.hid ⟨HT7.out.p, HT7.out.s, by rw [HT7.out.len]; exact HT7.out.n50⟩⟩
              case measure => omega
          | succ g2 =>
            have hmk : m < kk := by have := HM.out; omega
            have hml : m < L.length := by have := HCUT.out.le; omega
            obtain ⟨d, hd⟩ : ∃ d, L[m]? = some d := ⟨L[m]'hml, List.getElem?_eq_getElem _⟩
            have hdr : L.drop m = d :: L.drop (m + 1) := by
              rw [List.drop_eq_getElem_cons hml]
              rw [List.getElem?_eq_getElem hml] at hd
              cases hd
              rfl
            obtain ⟨b, hb, hS2⟩ := (show Sel km (d :: L.drop (m + 1)) by rw [← hdr]; exact HT.out.s).inv
            have hle := HCUT.out.lo m d hmk hd
            have hbl : b < n9 := by rw [← HT.out.len]; exact hb.lt
            have x3 : (b : Int) < n9 := by omega
            have x4 : ¬ (b : Int) < 0 := by omega
            have x6 : ¬ ty < d.1 := by omega
            have x7 : ¬ (kk : Int) ≤ m := by omega
            have x8 : (m : Int) < kk := by omega
            have HB := Lib.hid hb
            obtain ⟨gr, cr, er, hx9, har⟩ := HT.out.p.r.at hb.at'
            rw [HT.out.len] at er
            cases er
            obtain ⟨y3, y4⟩ := har wr (Below.refl _ _)
            obtain ⟨gl, c2, el, hx8, hal⟩ := HT.out.t.at (i := m) (d := d) (by rw [List.getElem?_take_of_lt hmk]; exact hd)
            rw [HKL.out] at el
            cases el
            obtain ⟨y5, y6⟩ := hal wr (Below.refl _ _)
            have HBL := Lib.hid hbl
            have HS2 := Lib.hid hS2
            have n91 : n9 ≤ 1000 := by omega
            clear hdr hd hb hbl hx9 har hx8 hal hS2 hml hle
            go_wp2_with fail
            refine CF.out.mono ?_
            rintro e w5 ⟨z, rfl, hz, m5, e5⟩
            obtain rfl : z = (b : Int) := by
              rcases hz with ⟨e, _⟩ | ⟨b', d', e, h⟩
              · have := HB.out.lt; rw [e] at this; simp at this
              · obtain ⟨rfl, _⟩ := HB.out.uniq h
                exact e
            subst e5
            clear CF hz
            go_wp2_with fail
            go_quiet (fail)
            obtain ⟨m7, e7⟩ : ∃ m7, m7 = nq := ⟨_, rfl⟩
            subst e7
            go_wp2_with fail
            go_quiet (fail)
            obtain ⟨m8, e8⟩ : ∃ m8, m8 = nq := ⟨_, rfl⟩
            subst e8
            have HT9 := (HT.out.still (below_drewN wr (m5 + m7))).still (below_drewN _ m8)
            obtain ⟨w9, hw9⟩ : ∃ w9, (wr.drewN (m5 + m7)).drewN m8 = w9 := ⟨_, rfl⟩
            rw [hw9] at HT9 ⊢
            have HTd := HT9.still (below_drew w9)
            obtain ⟨A5, c5, A1, c1, u1, A2, c3, u2, s1, s2, r1, r2, b1, b2, o2⟩ := cut_one HTd.p.r n91 HBL.out
            unfold noObj at r1
            have r1 : (Builtin.append_ #[26, 26] 26 #[.slice (some ⟨w9.heap.size, 0, none⟩) 0 0, .slice (some ⟨gr, 0, none⟩) b c9]).run Try.prog (w9.alloc (.cells #[] 35)).drew = .ok (.slice A1 b c1) u1 := r1
            have E := Lib.hid (HTd.row b2 o2 HS2.out (n' := n9 - 1) (by have := dropAt_length (l := km) (b := b) (by rw [HT.out.len]; exact HBL.out); rw [HT.out.len] at this; omega) (by have := HT.out.n50; omega))
            have z1 : IntKind.i64.wrap ((b : Int) + 1) = (b : Int) + 1 := by rw [IntKind.wrap_i64]; omega
            generalize n9 - (b + 1) = n7 at *
            generalize n9 - 1 = n8 at *
            have R1 := Lib.hid r1
            have R2 := Lib.hid r2
            clear HT9 HTd r1 r2 b1 b2 o2 hw9 y3 y4 y5 y6 k1 k2
            go_wp2_with fail
            go_region_held_law (fun _ => True) (trivial) (first
              | ((with_reducible refine step_append_due R1.out (s := .tmp 135) (x := .tmp 138) ?h1 ?h2 ?h3 ?h4 ?h5 ?_); (case h1 => rfl); (case h2 => rfl); (case h3 => rfl); (case h4 => rfl); (case h5 => rfl))
              | ((with_reducible refine step_append_due R2.out (s := .tmp 139) (x := .tmp 143) ?h1 ?h2 ?h3 ?h4 ?h5 ?_); (case h1 => rfl); (case h2 => rfl); (case h3 => rfl); (case h4 => rfl); (case h5 => rfl))
              | fail)
            all_goals
              go_wp2_with fail
              go_roundg g2
              case rel => exact ⟨m + 1, n8, A2, c3, dropAt km b, by have := HM.out; omega, rfl, by go_num, E⟩
              case measure => omega
      · have CL := Lib.hid (len_walk HP.out.q)
        cases hL : L with
        | nil =>
          subst hL
          have hk0 : k = [] := List.length_eq_zero_iff.1 (by rw [HKN.out, ← HLN.out]; rfl)
          subst hk0
          have hn0 : n = 0 := by have := HKN.out; simpa using this.symm
          subst hn0
          have C3 := Lib.hid (next_none HP.out.q)
          clear CL
          go_wp2_with fail
          refine C3.out.mono ?_
          rintro e w4 ⟨rfl, b4⟩
          have HP4 := HP.out.still b4
          have b5 : Below w4.heap.size w4 (w4.alloc (.cells #[.int .i64 0, .int .i64 0] 35)) := bel_alloc (Below.refl _ _) (Nat.le_refl _) _
          have y0 := heap_alloc_new w4 (.cells #[.int .i64 0, .int .i64 0] 35)
          have HP5 := Lib.hid (HP4.still b5)
          go_wp2_with fail
          obtain ⟨yb, hyb⟩ : ∃ yb, w4.heap.size = yb := ⟨_, rfl⟩
          rw [hyb] at y0 ⊢
          obtain ⟨w5, hw5⟩ : ∃ w5, w4.alloc (.cells #[.int .i64 0, .int .i64 0] 35) = w5 := ⟨_, rfl⟩
          rw [hw5] at y0 HP5 ⊢
          have CF := Lib.hid (first_walk HP5.out.r (by simp))
          have y1 : w5.cell? ⟨yb, 0, none⟩ = some (.int .i64 0) := cell_of_block y0
          have y2 : w5.cell? ⟨yb, 1, none⟩ = some (.int .i64 0) := cell_of_block y0
          clear C3 b4 b5 HP4 hyb hw5 y0 k1 k2
          refine CF.out.mono ?_
          rintro e w6 ⟨z, rfl, hz, m6, rfl⟩
          obtain rfl : z = -1 := by
            rcases hz with ⟨_, e⟩ | ⟨b, d, _, h⟩
            · exact e
            · have := h.lt; simp at this
          clear CF hz
          go_wp2_with fail
          go_big_quiet (fail)
          obtain ⟨m7, e7⟩ : ∃ m7, m7 = nq := ⟨_, rfl⟩
          subst e7
          have HP7 := Lib.hid ((HP5.out.still (below_drewN w5 m6)).still (below_drewN _ m7))
          obtain ⟨w7, hw7⟩ : ∃ w7, (w5.drewN m6).drewN m7 = w7 := ⟨_, rfl⟩
          rw [hw7] at HP7 ⊢
          have CL := Lib.hid (len_walk HP7.out.q)
          clear HP5 hw7 y1 y2
          go_wp2_with fail
          refine CL.out.mono ?_
          rintro e w8 ⟨rfl, rfl⟩
          go_wp2_with fail
          go_roundg g
          case rel => exact ⟨i + 1, 0, A8, c8, F, [], [], by have := HI.out; omega, rfl, by go_num, Lib.hid ⟨HP7.out, HS.out, HK.out⟩⟩
          case measure => omega
        | cons d L' =>
          subst hL
          obtain ⟨b, hb, hS2⟩ := HS.out.inv
          have hbl := hb.lt
          have C3 := Lib.hid (next_some HP.out.q)
          have x3 : (b : Int) < n := by have := HKN.out; omega
          have HB := Lib.hid hb
          clear CL hS2 hb hbl
          go_wp2_with fail
          refine C3.out.mono ?_
          rintro e w4 ⟨rfl, b4⟩
          have HP4 := HP.out.still b4
          have b5 : Below w4.heap.size w4 (w4.alloc (.cells #[.int .i64 d.1, .int .i64 d.2] 35)) := bel_alloc (Below.refl _ _) (Nat.le_refl _) _
          have y0 := heap_alloc_new w4 (.cells #[.int .i64 d.1, .int .i64 d.2] 35)
          have HP5 := Lib.hid (HP4.still b5)
          go_wp2_with fail
          obtain ⟨yb, hyb⟩ : ∃ yb, w4.heap.size = yb := ⟨_, rfl⟩
          rw [hyb] at y0 ⊢
          obtain ⟨w5, hw5⟩ : ∃ w5, w4.alloc (.cells #[.int .i64 d.1, .int .i64 d.2] 35) = w5 := ⟨_, rfl⟩
          rw [hw5] at y0 HP5 ⊢
          have CF := Lib.hid (first_walk HP5.out.r (by have := HK.out; omega))
          have y1 : w5.cell? ⟨yb, 0, none⟩ = some (.int .i64 d.1) := cell_of_block y0
          have y2 : w5.cell? ⟨yb, 1, none⟩ = some (.int .i64 d.2) := cell_of_block y0
          obtain ⟨gr, cr, er, hx9, har⟩ := HP5.out.r.at HB.out.at'
          rw [HKN.out] at er
          cases er
          obtain ⟨y3, y4⟩ := har w5 (Below.refl _ _)
          clear C3 b4 b5 HP4 hyb hw5 y0 k1 k2 hx9 har
          refine CF.out.mono ?_
          rintro e w6 ⟨z, rfl, hz, m6, rfl⟩
          obtain rfl : z = (b : Int) := by
            rcases hz with ⟨e, _⟩ | ⟨b', d', e, h⟩
            · have := HB.out.lt; rw [e] at this; simp at this
            · obtain ⟨rfl, _⟩ := HB.out.uniq h
              exact e
          have x4 : (0 : Int) ≤ (b : Int) := by omega
          clear CF hz
          go_wp2_with fail
          go_big_quiet (fail)
          obtain ⟨m7, e7⟩ : ∃ m7, m7 = nq := ⟨_, rfl⟩
          subst e7
          have HP7 := Lib.hid ((HP5.out.still (below_drewN w5 m6)).still (below_drewN _ m7))
          obtain ⟨w7, hw7⟩ : ∃ w7, (w5.drewN m6).drewN m7 = w7 := ⟨_, rfl⟩
          rw [hw7] at HP7 ⊢
          have CL := Lib.hid (len_walk HP7.out.q)
          rw [HLN.out] at CL
          clear HP5 hw7 y1 y2 y3 y4
          go_wp2_with fail
          refine CL.out.mono ?_
          rintro e w8 ⟨rfl, rfl⟩
          go_wp2_with fail
          go_roundg g
          case rel => exact ⟨i + 1, n, _, _, F, d :: L', k, by have := HI.out; omega, rfl, by go_num, Lib.hid ⟨HP7.out, HS.out, HK.out⟩⟩
          case measure => omega
end Go.Proofs.Ytnainhdhfjokmaa
