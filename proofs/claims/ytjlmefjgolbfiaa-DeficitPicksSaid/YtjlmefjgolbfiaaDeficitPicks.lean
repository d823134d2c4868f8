/-
  Layer 12: the law DeficitPicks.
-/
import Derived.Test.YtjlmefjgolbfiaaDeficitLaw
namespace Go.Proofs.Ytjlmefjgolbfiaa
open Go.ChangeShapes Go.WideShapes Go.ChangeAt Go.RowKit Go.Deep
set_option linter.unusedVariables false

section
variable {W : World} {A B : Option Addr} {c cb : Nat} {q : List Int} {ls : List (List Int)}
set_option maxRecDepth 100000 in
theorem picks_bad (hq : RdQ W (NewQ W) A c q) (hb : rightB q = false) (hn : q.length ≤ 9223372036854775807) (n : Nat) :
    Calls Try.prog 3 #[.slice A q.length c, .slice B n cb] W (Holds W) := by
  have CU := Lib.hid (up_deficit W)
  have CN := Lib.hid (fun w (b : Below W.heap.size W w) => newT_bad (hq.still b) hn hb)
  have CR := Lib.hid (fun w (b : Below W.heap.size W w) => right_walk (hq.still b) hn)
  rw [hb] at CR
  unfold errT at CN
  have eqc := eql_codes
  clear hq hb
  generalize q.length = M at *
  go_enter Try.func3, Try.ntmps3
  go_wp2_with fail
  refine CU.out.mono ?_
  rintro e w1 ⟨rfl, b1⟩
  have B1 := Lib.hid b1
  clear b1 CU
  go_wp2_with fail
  refine (CN.out _ B1.out).mono ?_
  rintro e w2 ⟨rfl, b2⟩
  have B2 := Lib.hid (B1.out.trans (b2.mono B1.out.size))
  clear b2 CN
  go_wp2_with fail
  refine (CR.out _ B2.out).mono ?_
  rintro e w3 ⟨rfl, rfl⟩
  go_wp2_with fail
  go_ret
  exact ⟨rfl, B2.out⟩
set_option maxRecDepth 100000 in
theorem picks_many (hq : RdQ W (NewQ W) A c q) (hb : rightB q = true) (n : Nat) (hn : 100 < n) (hn1 : n ≤ 9223372036854775807) :
    Calls Try.prog 3 #[.slice A q.length c, .slice B n cb] W (Holds W) := by
  have qok := right_ok hb
  have h4 := qok.n4
  have CU := Lib.hid (up_deficit W)
  have CN := Lib.hid (fun w (b : Below W.heap.size W w) => newT_good (hq.still b) qok)
  have CR := Lib.hid (fun w (b : Below W.heap.size W w) => right_walk (hq.still b) (by omega))
  rw [hb] at CR
  have i3 : (100 : Int) < n := by omega
  clear hq hb qok
  generalize q.length = M at *
  go_enter Try.func3, Try.ntmps3
  go_wp2_with fail
  refine CU.out.mono ?_
  rintro e w1 ⟨rfl, b1⟩
  have B1 := Lib.hid b1
  clear b1 CU
  go_wp2_with fail
  refine (CN.out _ B1.out).mono ?_
  rintro e w2 ⟨a, gq, A1, cap1, vc, rfl, _, b2, _⟩
  have B2 := Lib.hid (B1.out.trans (b2.mono B1.out.size))
  clear b2 CN
  go_wp2_with fail
  refine (CR.out _ B2.out).mono ?_
  rintro e w3 ⟨rfl, rfl⟩
  go_wp2_with fail
  go_ret
  exact ⟨rfl, B2.out⟩
/-- The law's state at the head of a round. -/
def Lx (W : World) (B gq a b : Nat) (A1 : Option Addr) (cap1 : Nat) (A : Option Addr) (c : Nat) (vc : Value) (q : List Int) (w : World) : Prop := ∃ s vr, Lw W B gq a b A1 cap1 A c vc q w s s vr
set_option maxRecDepth 100000 in
set_option maxHeartbeats 4000000 in
theorem picks_walk (hq : RdQ W (NewQ W) A c q) (hb : rightB q = true) (hl : RdM W (NewQ W) B ls) (hn : ls.length ≤ 100) (hm : ∀ l ∈ ls, l.length ≤ 9223372036854775807) :
    Calls Try.prog 3 #[.slice A q.length c, .slice B ls.length cb] W (Holds W) := by
  have qok := right_ok hb
  have h4 := qok.n4
  have CU := Lib.hid (up_deficit W)
  have CN := Lib.hid (fun w (b : Below W.heap.size W w) => newT_good (hq.still b) qok)
  have CR := Lib.hid (fun w (b : Below W.heap.size W w) => right_walk (hq.still b) (by omega))
  rw [hb] at CR
  have hmk := fun w1 => (make_zeros w1 h4).1
  have HQ := Lib.hid hq
  have QOK := Lib.hid qok
  have HL := Lib.hid hl
  have HM := Lib.hid hm
  have eqc := eql_codes
  obtain ⟨N, hN⟩ : ∃ N, ls.length = N := ⟨_, rfl⟩
  have HN := Lib.hid hN
  rw [hN] at hn ⊢
  have i3 : ¬ (100 : Int) < N := by omega
  have h1 := qok.n1
  clear hq hb qok hl hm hN
  obtain ⟨M, hM⟩ : ∃ M, q.length = M := ⟨_, rfl⟩
  have HMM := Lib.hid hM
  rw [hM] at CN CR hmk h4 h1 ⊢
  clear hM
  go_enter Try.func3, Try.ntmps3
  go_wp2_with fail
  refine CU.out.mono ?_
  rintro e w1 ⟨rfl, b1⟩
  have B1 := Lib.hid b1
  clear b1 CU
  go_wp2_with fail
  refine (CN.out _ B1.out).mono ?_
  rintro e w2 ⟨a, gq, A1, cap1, vc, rfl, t2, b2, hgq⟩
  have B2 := Lib.hid (B1.out.trans (b2.mono B1.out.size))
  have ST := Lib.hid (Lw.start B1.out.size t2 QOK.out B2.out hgq HQ.out)
  rw [HMM.out] at ST
  clear b2 CN t2 hgq
  go_wp2_with fail
  refine (CR.out _ B2.out).mono ?_
  rintro e w3 ⟨rfl, rfl⟩
  clear CR
  go_wp2_with fail
  obtain ⟨bb, hbb⟩ : ∃ bb, w2.heap.size + 1 = bb := ⟨_, rfl⟩
  rw [hbb] at ST ⊢
  clear hbb
  have S0 : Hid (Lx W w1.heap.size gq a bb A1 cap1 A c vc q _) := Lib.hid ⟨_, _, ST.out⟩
  go_loopg [10] N (fun g s10 wx => ∃ i : Nat, i + g = N ∧ s10 = .int .i64 (i : Nat) ∧ Hid (Lx W w1.heap.size gq a bb A1 cap1 A c vc q wx))
  case atStart => exact ⟨0, by omega, rfl, S0⟩
  case round =>
    clear S0 ST
    obtain ⟨i, hi, rfl, HX⟩ := hrel
    cases gk with
    | zero =>
      obtain rfl : N = i := by omega
      have END : Hid (Below W.heap.size W wr) := Lib.hid (by obtain ⟨s, vr, h⟩ := HX.out; exact h.bel)
      clear HX
      go_wp2_with fail
      go_ret
      exact ⟨rfl, END.out⟩
    | succ g =>
      have x1 : (i : Int) < N := by omega
      obtain ⟨l, hls⟩ : ∃ l, ls[i]? = some l := ⟨ls[i]'(by have := HN.out; omega), List.getElem?_eq_getElem _⟩
      obtain ⟨s, vr, lw⟩ := HX.out
      obtain ⟨b0, o0, C, cc, rfl, _, hc0, rl0⟩ := HL.out.at hls
      have hlt := World.block_lt_of_cell? W _ hc0
      have HC := Lib.hid (fun w' (k : Below W.heap.size W w') => (k.cell (p := ⟨b0, o0 + i, none⟩) hlt).trans hc0)
      have RL := Lib.hid (fun w' (k : Below W.heap.size W w') => rl0.still k)
      have hL := HM.out l (List.mem_of_getElem? hls)
      have hc := HC.out _ lw.bel
      clear HX hls hc0 rl0 hlt
      cases hcost : costB q l with
      | false =>
        have P := Lib.hid (pick_bad lw.p (RL.out _ lw.bel) hcost hL (by have := HMM.out; omega))
        unfold errT at P
        have HCOST := Lib.hid hcost
        have LW := Lib.hid lw
        obtain ⟨L, hLL⟩ : ∃ L, l.length = L := ⟨_, rfl⟩
        have HLL := Lib.hid hLL
        rw [hLL] at hL P HC hc
        clear lw hcost hLL
        go_wp2_with fail
        refine P.out.mono ?_
        rintro e w4 ⟨rfl, b4⟩
        have LW4 := Lib.hid (LW.out.still b4)
        have hc4 := HC.out _ LW4.out.bel
        have RL4 := Lib.hid (RL.out _ LW4.out.bel)
        clear P b4 hc LW
        have BZ := badB_zero q l
        rw [HLL.out, HMM.out] at BZ
        have BA := Lib.hid (badB_all q l)
        rw [HLL.out, HCOST.out] at BA
        obtain ⟨bz, hbz⟩ : ∃ bz, badB q l 0 = bz := ⟨_, rfl⟩
        rw [hbz] at BZ
        have BZ2 : ((L : Int) == (M : Int)) = !bz := by
          rw [BZ]
          by_cases e : L = M
          · subst e; simp
          · simp [e]; omega
        have BZ3 : ((L : Int) != (M : Int)) = bz := by unfold bne; rw [BZ2, Bool.not_not]
        have HBZ := Lib.hid hbz
        clear hbz BZ
        go_wp2_with fail
        go_loopg [13, 14] L (fun g s13 s14 wx => ∃ k : Nat, k + g = L ∧ s13 = .bool (badB q l k) ∧ s14 = .int .i64 (k : Nat) ∧ Hid (w4 = wx))
        case atStart => exact ⟨0, by omega, by rw [HBZ.out], rfl, Lib.hid rfl⟩
        case round =>
          clear BZ2 BZ3
          obtain ⟨k, hk, rfl, rfl, HW⟩ := hrel
          obtain rfl := HW.out
          cases gk with
          | zero =>
            obtain rfl : L = k := by omega
            rw [BA.out]
            clear RL4 BA
            have nec := neq_codes
            have zc : ((1 : Int) == (1 : Int)) = true := rfl
            go_wp2_with fail
            go_roundg g
            case rel => exact ⟨i + 1, by omega, by go_num, Lib.hid ⟨_, _, LW4.out⟩⟩
            case measure => omega
          | succ g2 =>
            have x2 : (k : Int) < L := by omega
            obtain ⟨x, hx⟩ : ∃ x, l[k]? = some x := ⟨l[k]'(by have := HLL.out; omega), List.getElem?_eq_getElem _⟩
            obtain ⟨b5, o5, rfl, hc5, _⟩ := RL4.out.at hx
            have NX := Lib.hid (badB_next (q := q) hx)
            clear hx BA
            cases hb : badB q l k with
            | true =>
              have HB := Lib.hid hb
              clear hb
              go_wp2_with fail
              go_roundg g2
              case rel => exact ⟨k + 1, by omega, by rw [NX.out, HB.out]; rfl, by go_num, Lib.hid rfl⟩
              case measure => omega
            | false =>
              have HB := Lib.hid hb
              clear hb
              by_cases e0 : x < 0
              · have IN : Hid (inB 0 x = true) := Lib.hid (by unfold inB; rw [decide_eq_true e0]; rfl)
                go_wp2_with fail
                go_roundg g2
                case rel => exact ⟨k + 1, by omega, by rw [NX.out, HB.out, IN.out]; rfl, by go_num, Lib.hid rfl⟩
                case measure => omega
              · have IN : Hid (inB 0 x = decide (1000 < x)) := Lib.hid (by unfold inB; rw [decide_eq_false e0]; rfl)
                go_wp2_with fail
                go_roundg g2
                case rel => exact ⟨k + 1, by omega, by rw [NX.out, HB.out, IN.out]; simp, by go_num, Lib.hid rfl⟩
                case measure => omega
      | true =>
        have lok := cost_ok hcost
        obtain ⟨r, s', pk, ok'⟩ := picks_any lw.okp lok
        have P := Lib.hid (pick_good lw (RL.out _ lw.bel) lok pk ok')
        have PK := Lib.hid (And.intro pk ok')
        have LOK := Lib.hid lok
        have hLM : l.length = M := lok.len.trans HMM.out
        have HLM := Lib.hid hLM
        rw [hLM] at P HC hc
        clear lw hcost hL lok pk ok' hLM
        go_wp2_with fail
        refine P.out.mono ?_
        rintro e w4 ⟨rfl, lw4⟩
        have LW4 := Lib.hid lw4
        have hc4 := HC.out _ LW4.out.bel
        have RL4 := Lib.hid (RL.out _ LW4.out.bel)
        clear P lw4 hc
        have z1 : ((M : Int) == (M : Int)) = true := by simp
        go_wp2_with fail
        go_loopg [13, 14] M (fun g s13 s14 wx => ∃ k : Nat, k + g = M ∧ s13 = .bool false ∧ s14 = .int .i64 (k : Nat) ∧ Hid (w4 = wx))
        case atStart => exact ⟨0, by omega, rfl, rfl, Lib.hid rfl⟩
        case round =>
          obtain ⟨k, hk, rfl, rfl, HW⟩ := hrel
          obtain rfl := HW.out
          cases gk with
          | succ g2 =>
            have x2 : (k : Int) < M := by omega
            obtain ⟨x, hx⟩ : ∃ x, l[k]? = some x := ⟨l[k]'(by have := HLM.out; omega), List.getElem?_eq_getElem _⟩
            obtain ⟨b5, o5, rfl, hc5, _⟩ := RL4.out.at hx
            obtain ⟨e0, e1⟩ := LOK.out.ll k x hx
            have e0' : ¬ x < 0 := by omega
            have e1' : ¬ 1000 < x := by omega
            clear hx
            go_wp2_with fail
            go_roundg g2
            case rel => exact ⟨k + 1, by omega, by first | rfl | simp, by go_num, Lib.hid rfl⟩
            case measure => omega
          | zero =>
            obtain rfl : M = k := by omega
            have CP := Lib.hid (ref_three LW4.out.drew ((RL4.out).still (below_drew w4)) LOK.out PK.out.1 PK.out.2)
            rw [HLM.out, HMM.out] at CP
            have z2 : (r == r) = true := by simp
            clear RL4
            go_wp2_with fail
            refine wp_region_held_drew (S := fun w' => w'.cell? ⟨b0, o0 + i, none⟩ = some (.slice C M cc)) (by kernel_rfl) (by exact HC.out _ LW4.out.drew.bel) (fun hHeld0 => ?_)
            refine takeWanted 0 122 (v := ?vv0) rfl rfl (by kernel_rfl) (by kernel_rfl) (by kernel_rfl) (fun _ _ _ h => h) (by kernel_rfl) ?hy0 (by assumption) ?rest0
            case hy0 => (intro wq hSw; (try dsimp only at hSw); go_simp <;> with_reducible rfl)
            simp only [Act.put, List.setIfInBounds_toArray, List.set_cons_zero, List.set_cons_succ]
            refine takeWanted 1 123 (v := ?vv1) rfl rfl (by kernel_rfl) (by kernel_rfl) (by kernel_rfl) (fun _ _ _ h => h) (by kernel_rfl) ?hy1 (by assumption) ?rest1
            case hy1 => (intro wq hSw; (try dsimp only at hSw); go_simp <;> with_reducible rfl)
            simp only [Act.put, List.setIfInBounds_toArray, List.set_cons_zero, List.set_cons_succ]
            refine takeWanted 2 124 (v := ?vv2) rfl rfl (by kernel_rfl) (by kernel_rfl) (by kernel_rfl) (fun _ _ _ h => h) (by kernel_rfl) ?hy2 (by assumption) ?rest2
            case hy2 => (intro wq hSw; (try dsimp only at hSw); go_simp <;> with_reducible rfl)
            simp only [Act.put, List.setIfInBounds_toArray, List.set_cons_zero, List.set_cons_succ]
            refine takeWanted 3 125 (v := ?vv3) rfl rfl (by kernel_rfl) (by kernel_rfl) (by kernel_rfl) (fun _ _ _ h => h) (by kernel_rfl) ?hy3 (by assumption) ?rest3
            case hy3 => (intro wq hSw; (try dsimp only at hSw); go_simp <;> with_reducible rfl)
            simp only [Act.put, List.setIfInBounds_toArray, List.set_cons_zero, List.set_cons_succ]
            refine takeWanted 4 126 (v := ?vv4) rfl rfl (by kernel_rfl) (by kernel_rfl) (by kernel_rfl) (fun _ _ _ h => h) (by kernel_rfl) ?hy4 (by assumption) ?rest4
            case hy4 => (intro wq hSw; (try dsimp only at hSw); go_simp <;> with_reducible rfl)
            simp only [Act.put, List.setIfInBounds_toArray, List.set_cons_zero, List.set_cons_succ]
            refine takeWanted 5 127 (v := ?vv5) rfl rfl (by kernel_rfl) (by kernel_rfl) (by kernel_rfl) (fun _ _ _ h => h) (by kernel_rfl) ?hy5 (by assumption) ?rest5
            case hy5 => (intro wq hSw; (try dsimp only at hSw); go_simp <;> with_reducible rfl)
            simp only [Act.put, List.setIfInBounds_toArray, List.set_cons_zero, List.set_cons_succ]
            refine takeWanted 6 128 (v := ?vv6) rfl rfl (by kernel_rfl) (by kernel_rfl) (by kernel_rfl) (fun _ _ _ h => h) (by kernel_rfl) ?hy6 (by assumption) ?rest6
            case hy6 => (intro wq hSw; (try dsimp only at hSw); go_simp <;> with_reducible rfl)
            simp only [Act.put, List.setIfInBounds_toArray, List.set_cons_zero, List.set_cons_succ]
            refine takeWanted 7 129 (v := ?vv7) rfl rfl (by kernel_rfl) (by kernel_rfl) (by kernel_rfl) (fun _ _ _ h => h) (by kernel_rfl) ?hy7 (by assumption) ?rest7
            case hy7 => (intro wq hSw; (try dsimp only at hSw); go_simp <;> with_reducible rfl)
            simp only [Act.put, List.setIfInBounds_toArray, List.set_cons_zero, List.set_cons_succ]
            refine takeWanted 8 130 (v := ?vv8) rfl rfl (by kernel_rfl) (by kernel_rfl) (by kernel_rfl) (fun _ _ _ h => h) (by kernel_rfl) ?hy8 (by assumption) ?rest8
            case hy8 => (intro wq hSw; (try dsimp only at hSw); go_simp <;> with_reducible rfl)
            simp only [Act.put, List.setIfInBounds_toArray, List.set_cons_zero, List.set_cons_succ]
            refine wpAnyH_ready (rs := [9]) (by kernel_rfl) (by simp) ?_
            refine AllReadyH.cons rfl (fun K hK => ?_) AllReadyH.nil
            go_simp
            go_wp2_with ((go_at_call 8; (with_reducible refine CP.out.mono ?_); rintro e w5 ⟨rfl, vr5, A5, c5, lw5, cv5, cc5⟩))
            refine hK.out _ _ (by exact HC.out _ lw5.bel) (fun hHeld => ?_)
            clear hK K hHeld0
            have LW5 := Lib.hid lw5
            have CV5 := Lib.hid cv5
            have CC5 := Lib.hid cc5
            replace cv5 := cv5 w5 (Below.refl _ _)
            clear lw5 cc5
            refine takeWanted 10 132 (v := ?vv10) rfl rfl (by kernel_rfl) (by kernel_rfl) (by kernel_rfl) (fun _ _ _ h => h) (by kernel_rfl) ?hy10 (by assumption) ?rest10
            case hy10 => (intro wq hSw; (try dsimp only at hSw); go_simp <;> with_reducible rfl)
            simp only [Act.put, List.setIfInBounds_toArray, List.set_cons_zero, List.set_cons_succ]
            refine takeWanted 11 133 (v := ?vv11) rfl rfl (by kernel_rfl) (by kernel_rfl) (by kernel_rfl) (fun _ _ _ h => h) (by kernel_rfl) ?hy11 (by assumption) ?rest11
            case hy11 => (intro wq hSw; (try dsimp only at hSw); go_simp <;> with_reducible rfl)
            simp only [Act.put, List.setIfInBounds_toArray, List.set_cons_zero, List.set_cons_succ]
            refine takeWanted 12 134 (v := ?vv12) rfl rfl (by kernel_rfl) (by kernel_rfl) (by kernel_rfl) (fun _ _ _ h => h) (by kernel_rfl) ?hy12 (by assumption) ?rest12
            case hy12 => (intro wq hSw; (try dsimp only at hSw); go_simp <;> with_reducible rfl)
            simp only [Act.put, List.setIfInBounds_toArray, List.set_cons_zero, List.set_cons_succ]
            refine takeWanted 13 135 (v := ?vv13) rfl rfl (by kernel_rfl) (by kernel_rfl) (by kernel_rfl) (fun _ _ _ h => h) (by kernel_rfl) ?hy13 (by assumption) ?rest13
            case hy13 => (intro wq hSw; (try dsimp only at hSw); go_simp <;> with_reducible rfl)
            simp only [Act.put, List.setIfInBounds_toArray, List.set_cons_zero, List.set_cons_succ]
            refine takeWanted 15 137 (v := ?vv15) rfl rfl (by kernel_rfl) (by kernel_rfl) (by kernel_rfl) (fun _ _ _ h => h) (by kernel_rfl) ?hy15 (by assumption) ?rest15
            case hy15 => (intro wq hSw; (try dsimp only at hSw); go_simp <;> with_reducible rfl)
            simp only [Act.put, List.setIfInBounds_toArray, List.set_cons_zero, List.set_cons_succ]
            refine takeWanted 16 138 (v := ?vv16) rfl rfl (by kernel_rfl) (by kernel_rfl) (by kernel_rfl) (fun _ _ _ h => h) (by kernel_rfl) ?hy16 (by assumption) ?rest16
            case hy16 => (intro wq hSw; (try dsimp only at hSw); go_simp <;> with_reducible rfl)
            simp only [Act.put, List.setIfInBounds_toArray, List.set_cons_zero, List.set_cons_succ]
            refine takeWanted 17 139 (v := ?vv17) rfl rfl (by kernel_rfl) (by kernel_rfl) (by kernel_rfl) (fun _ _ _ h => h) (by kernel_rfl) ?hy17 (by assumption) ?rest17
            case hy17 => (intro wq hSw; (try dsimp only at hSw); go_simp <;> with_reducible rfl)
            simp only [Act.put, List.setIfInBounds_toArray, List.set_cons_zero, List.set_cons_succ]
            refine wpAnyH_ready (rs := [14, 18]) (by kernel_rfl) (by simp) ?_
            refine AllReadyH.cons rfl (fun K hK => ?_) (AllReadyH.cons rfl (fun K hK => ?_) AllReadyH.nil)
            · go_simp
              go_wp2_with (((go_at_call 10; (with_reducible refine CC5.out.mono ?_); rintro e w6 ⟨A6, c6, rfl, k6, ci6⟩)))
              have LW6 := Lib.hid (LW5.out.still k6)
              have cv6 := CV5.out w6 k6
              have CI6 := Lib.hid ci6
              clear k6 ci6
              refine hK.out _ _ (by exact HC.out _ LW6.out.bel) (fun hHeld => ?_)
              clear hK K
              refine wpAnyH_ready (rs := [18]) (by kernel_rfl) (by simp) ?_
              refine AllReadyH.cons rfl (fun K hK => ?_) AllReadyH.nil
              go_simp
              go_wp2_with fail
              refine hK.out _ _ (by exact HC.out _ LW6.out.bel) (fun hHeld => ?_)
              clear hK K
              refine wpAnyH_ready (rs := [19]) (by kernel_rfl) (by simp) ?_
              refine AllReadyH.cons rfl (fun K hK => ?_) AllReadyH.nil
              go_simp
              go_wp2_with (((go_at_call 9; (with_reducible refine CI6.out.mono ?_); rintro e w7 ⟨rfl, n7, rfl⟩)))
              refine hK.out _ _ (by exact HC.out _ (LW6.out.still (below_drewN w6 n7)).bel) (fun hHeld => ?_)
              clear hK K
              have END : Hid (Lx W w1.heap.size gq a bb A1 cap1 A c vc q (w6.drewN n7)) := Lib.hid ⟨_, _, LW6.out.still (below_drewN w6 n7)⟩
              refine takeWanted 20 142 (v := ?vv20) rfl rfl (by kernel_rfl) (by kernel_rfl) (by kernel_rfl) (fun _ _ _ h => h) (by kernel_rfl) ?hy20 (by assumption) ?rest20
              case hy20 => (intro wq hSw; (try dsimp only at hSw); go_simp <;> with_reducible rfl)
              simp only [Act.put, List.setIfInBounds_toArray, List.set_cons_zero, List.set_cons_succ]
              refine takeWanted 21 143 (v := ?vv21) rfl rfl (by kernel_rfl) (by kernel_rfl) (by kernel_rfl) (fun _ _ _ h => h) (by kernel_rfl) ?hy21 (by assumption) ?rest21
              case hy21 => (intro wq hSw; (try dsimp only at hSw); go_simp <;> with_reducible rfl)
              simp only [Act.put, List.setIfInBounds_toArray, List.set_cons_zero, List.set_cons_succ]
              refine wpAnyH_done (by kernel_rfl) ?_ _
              clear hHeld
              go_wp2_with fail
              go_roundg g
              case rel => exact ⟨i + 1, by omega, by go_num, END⟩
              case measure => omega
            · go_simp
              go_wp2_with fail
              refine hK.out _ _ (by exact HC.out _ LW5.out.bel) (fun hHeld => ?_)
              clear hK K
              refine wpAnyH_ready (rs := [14]) (by kernel_rfl) (by simp) ?_
              refine AllReadyH.cons rfl (fun K hK => ?_) AllReadyH.nil
              go_simp
              go_wp2_with (((go_at_call 10; (with_reducible refine CC5.out.mono ?_); rintro e w6 ⟨A6, c6, rfl, k6, ci6⟩)))
              have LW6 := Lib.hid (LW5.out.still k6)
              have cv6 := CV5.out w6 k6
              have CI6 := Lib.hid ci6
              clear k6 ci6
              refine hK.out _ _ (by exact HC.out _ LW6.out.bel) (fun hHeld => ?_)
              clear hK K
              refine wpAnyH_ready (rs := [19]) (by kernel_rfl) (by simp) ?_
              refine AllReadyH.cons rfl (fun K hK => ?_) AllReadyH.nil
              go_simp
              go_wp2_with (((go_at_call 9; (with_reducible refine CI6.out.mono ?_); rintro e w7 ⟨rfl, n7, rfl⟩)))
              refine hK.out _ _ (by exact HC.out _ (LW6.out.still (below_drewN w6 n7)).bel) (fun hHeld => ?_)
              clear hK K
              have END : Hid (Lx W w1.heap.size gq a bb A1 cap1 A c vc q (w6.drewN n7)) := Lib.hid ⟨_, _, LW6.out.still (below_drewN w6 n7)⟩
              refine takeWanted 20 142 (v := ?vv20b) rfl rfl (by kernel_rfl) (by kernel_rfl) (by kernel_rfl) (fun _ _ _ h => h) (by kernel_rfl) ?hy20b (by assumption) ?rest20b
              case hy20b => (intro wq hSw; (try dsimp only at hSw); go_simp <;> with_reducible rfl)
              simp only [Act.put, List.setIfInBounds_toArray, List.set_cons_zero, List.set_cons_succ]
              refine takeWanted 21 143 (v := ?vv21b) rfl rfl (by kernel_rfl) (by kernel_rfl) (by kernel_rfl) (fun _ _ _ h => h) (by kernel_rfl) ?hy21b (by assumption) ?rest21b
              case hy21b => (intro wq hSw; (try dsimp only at hSw); go_simp <;> with_reducible rfl)
              simp only [Act.put, List.setIfInBounds_toArray, List.set_cons_zero, List.set_cons_succ]
              refine wpAnyH_done (by kernel_rfl) ?_ _
              clear hHeld
              go_wp2_with fail
              go_roundg g
              case rel => exact ⟨i + 1, by omega, by go_num, END⟩
              case measure => omega
end
end Go.Proofs.Ytjlmefjgolbfiaa
