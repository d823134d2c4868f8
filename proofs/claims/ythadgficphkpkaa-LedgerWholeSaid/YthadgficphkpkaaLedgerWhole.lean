/-
  Layer 17: the law LedgerWhole.
-/
import Derived.Test.YthadgficphkpkaaLedgerUp
import Derived.Test.YthadgficphkpkaaDbis
import Derived.Deep.LoopGhost
import Derived.Deep.Cut
import Derived.Deep.CutRange
namespace Go.Proofs.Ythadgficphkpkaa
open Go.ChangeShapes Go.WideShapes Go.ChangeAt Go.RowKit
set_option linter.unusedVariables false

theorem Lg.drew {w : World} {a g n : Nat} {s : Bk} (h : Lg w a g n s) : Lg w.drew a g n s := ⟨h.blk, h.row, h.ne⟩
set_option maxRecDepth 100000 in
set_option maxHeartbeats 1000000 in
theorem whole_bad (N cl : Int) (A : Option Addr) (cap n : Nat) (W : World) (h : ¬ (1 ≤ N ∧ N ≤ 4)) :
    Calls Try.prog 4 #[.int .i64 N, .slice A n cap, .int .i64 cl] W (Holds W) := by
  have CU := Lib.hid (up_ledger W)
  have CN := Lib.hid (fun w => new_bad w N h)
  unfold errD at CN
  clear h
  go_enter Try.func4, Try.ntmps4
  go_wp2_with fail
  refine CU.out.mono ?_
  rintro e w1 ⟨rfl, b1⟩
  go_wp2_with fail
  refine (CN.out _).mono ?_
  rintro e w2 ⟨rfl, rfl⟩
  go_wp2_with fail
  go_ret
  exact ⟨rfl, b1⟩
set_option maxRecDepth 100000 in
set_option maxHeartbeats 1000000 in
theorem whole_many (N cl : Int) (A : Option Addr) (cap n : Nat) (W : World) (h : 1 ≤ N) (h4 : N ≤ 4) (hn : 500 < n) :
    Calls Try.prog 4 #[.int .i64 N, .slice A n cap, .int .i64 cl] W (Holds W) := by
  have CU := Lib.hid (up_ledger W)
  have CN := Lib.hid (fun w => new_good w N (N + 1).toNat h h4 (by omega))
  unfold Newed at CN
  have i3 : (500 : Int) < n := by omega
  clear h h4 hn
  go_enter Try.func4, Try.ntmps4
  go_wp2_with fail
  refine CU.out.mono ?_
  rintro e w1 ⟨rfl, b1⟩
  go_wp2_with fail
  refine (CN.out _).mono ?_
  rintro e w2 ⟨a, g, rfl, h2, ha, hg, b2⟩
  have B2 := Lib.hid (b1.trans (b2.mono b1.size))
  clear b1 b2 h2 ha hg CN CU
  go_wp2_with fail
  go_ret
  exact ⟨rfl, B2.out⟩
/-- The law's state at the head of a round. -/
structure Sw (W w : World) (a g n : Nat) (i : Int) (s : Bk) : Prop where
  lg : Lg w a g n s
  ok : BkOk n i s
  bal : s.Bal
  bel : Below W.heap.size W w
theorem Sw.note {W w w' : World} {a g n : Nat} {i : Int} {s s' : Bk} (h : Sw W w a g n i s) (hg : W.heap.size ≤ g) (m : Ml w w' a g n s') (ok : BkOk n (i + 1) s') (bal : s'.Bal) : Sw W w' a g n (i + 1) s' :=
  ⟨m.lg, ok, bal, h.bel.trans (m.kp.below (B := W.heap.size) (fun k e => by subst e; exact hg) h.bel.size)⟩
theorem Sw.same {W w : World} {a g n : Nat} {i : Int} {s : Bk} (h : Sw W w a g n i s) : Sw W w a g n (i + 1) s := ⟨h.lg, h.ok.more (by omega), h.bal, h.bel⟩
theorem Sw.drew {W w : World} {a g n : Nat} {i : Int} {s : Bk} (h : Sw W w a g n i s) : Sw W w.drew a g n i s := ⟨h.lg.drew, h.ok, h.bal, h.bel.trans ((below_drew w).mono h.bel.size)⟩
set_option maxRecDepth 100000 in
set_option maxHeartbeats 4000000 in
theorem whole_walk (N cl : Int) (A : Option Addr) (cap : Nat) (l : List Dbi) (W : World) (h : 1 ≤ N) (h4 : N ≤ 4) (hA : RdB W A l) (hl : l.length ≤ 500) :
    Calls Try.prog 4 #[.int .i64 N, .slice A l.length cap, .int .i64 cl] W (Holds W) := by
  have CU := Lib.hid (up_ledger W)
  obtain ⟨n, hn⟩ : ∃ n : Nat, N + 1 = n := ⟨(N + 1).toNat, by omega⟩
  have CN := Lib.hid (fun w => new_good w N n h h4 hn)
  unfold Newed at CN
  have HN := Lib.hid hn
  have HA := Lib.hid hA
  obtain ⟨K, hK⟩ : ∃ K, l.length = K := ⟨_, rfl⟩
  have HK := Lib.hid hK
  rw [hK] at hl ⊢
  have HL := Lib.hid hl
  have i3 : ¬ (500 : Int) < K := by omega
  clear h h4 hA hK hn hl
  go_enter Try.func4, Try.ntmps4
  go_wp2_with fail
  refine CU.out.mono ?_
  rintro e w1 ⟨rfl, b1⟩
  go_wp2_with fail
  refine (CN.out _).mono ?_
  rintro e w2 ⟨a, g, rfl, h2, ha, hg, b2⟩
  have HG : Hid (W.heap.size ≤ g) := Lib.hid (Nat.le_trans b1.size hg)
  have S2 : Hid (Sw W w2 a g n 0 Bk.new) := Lib.hid ⟨h2, BkOk.new n, bal_new, b1.trans (b2.mono b1.size)⟩
  clear b1 b2 h2 ha hg CN CU
  go_wp2_with fail
  go_loopg [10] K (fun gk s10 wx => ∃ (i : Nat) (s : Bk), i + gk = K ∧ s10 = .int .i64 (i : Nat) ∧ Hid (Sw W wx a g n i s))
  case atStart => exact ⟨0, Bk.new, by omega, rfl, S2⟩
  case round =>
    clear S2
    obtain ⟨i, s, hi, rfl, HS⟩ := hrel
    cases gk with
    | zero =>
      have x1 : ¬ i < K := by omega
      have z := HS.out.ok.e_zero cl
      have CE := Lib.hid (fun r => ended_walk HS.out.lg cl r (HS.out.ok.eo cl r))
      have CR := Lib.hid (received_walk HS.out.lg cl (HS.out.ok.co cl))
      have PT := Lib.hid (pre_tot s cl z)
      have PN := Lib.hid (fun j => pre_nn (s.en cl) (HS.out.ok.e0 cl) j)
      have PL := Lib.hid (fun j (hj : j ≤ 8) => pre_le (s.en cl) (HS.out.ok.e0 cl) hj)
      have PS := Lib.hid (fun j => show preS (s.en cl) (j + 1) = preS (s.en cl) j + s.en cl j from rfl)
      have P1 : Hid (preS (s.en cl) 1 = 0) := Lib.hid (by have : preS (s.en cl) 1 = 0 + s.en cl 0 := rfl; rw [this, z]; rfl)
      have I5 : Hid ((i : Int) ≤ 500) := Lib.hid (by have := HL.out; omega)
      have T1 := Lib.hid (show s.tot cl ≤ 500 by have := HS.out.ok.t1 cl; have := HL.out; omega)
      clear z hi
      go_wp2_with fail
      go_loopg [13, 14] 7 (fun gk s13 s14 wx => ∃ (j : Nat) (v : Int), j + gk = 8 ∧ s13 = .int .u64 v ∧ s14 = .int .i64 (j : Nat) ∧ wr = wx ∧ Hid (v = preS (s.en cl) j))
      case atStart => exact ⟨1, 0, by omega, rfl, rfl, rfl, Lib.hid P1.out.symm⟩
      case round =>
        obtain ⟨j, v, hj, rfl, rfl, rfl, HV⟩ := hrel
        cases gk with
        | zero =>
          obtain rfl : j = 8 := by omega
          have VT := Lib.hid (HV.out.trans PT.out)
          by_cases hc : HasC n cl
          · have CO := Lib.hid (open_walk HS.out.lg hc (HS.out.ok.e_zero cl) (HS.out.ok.e0 cl) (HS.out.ok.c0 cl) (by have := HS.out.ok.c1 cl; have := I5.out; omega))
            unfold Opens at CO
            rw [if_pos (HS.out.bal cl), decide_eq_true (HS.out.bal cl), ← VT.out] at CO
            obtain ⟨R, hR⟩ : ∃ R, s.cm cl = R := ⟨_, rfl⟩
            rw [hR] at CO CR
            obtain ⟨q, hq⟩ : ∃ q, R - v = q := ⟨_, rfl⟩
            rw [hq] at CO
            have z1 : IntKind.u64.wrap (v + q) = R := by rw [IntKind.wrap_u64]; have := HS.out.ok.c0 cl; have := HS.out.ok.c1 cl; have := I5.out; omega
            have y1 : ¬ cl < 0 := by have := hc.1; omega
            have y2 : ¬ N < cl := by have := hc.2; have := HN.out; omega
            clear hR hq hc CE hj
            go_wp2_with fail
            refine CO.out.mono ?_
            rintro e w3 ⟨rfl, rfl⟩
            go_wp2_with fail
            refine CR.out.mono ?_
            rintro e w3 ⟨rfl, rfl⟩
            go_wp2_with fail
            go_ret
            exact ⟨rfl, HS.out.bel⟩
          · have CO := Lib.hid (open_out HS.out.lg hc)
            have v0 : v = 0 := VT.out.trans (tot_out HS.out.ok hc)
            subst v0
            rcases not_c hc with y1 | ⟨y1, _, y2⟩
            · clear hc CE hj
              go_wp2_with fail
              refine CO.out.mono ?_
              rintro e w3 ⟨rfl, rfl⟩
              go_wp2_with fail
              go_ret
              exact ⟨rfl, HS.out.bel⟩
            · have y3 : N < cl := by have := HN.out; omega
              clear hc CE hj y2
              go_wp2_with fail
              refine CO.out.mono ?_
              rintro e w3 ⟨rfl, rfl⟩
              go_wp2_with fail
              go_ret
              exact ⟨rfl, HS.out.bel⟩
        | succ gk =>
          have y1 : (j : Int) ≤ 7 := by omega
          have HJ := Lib.hid hj
          have CE1 := Lib.hid (CE.out j)
          obtain ⟨q, hq⟩ : ∃ q, s.en cl j = q := ⟨_, rfl⟩
          have S : Hid (v + q = preS (s.en cl) (j + 1)) := Lib.hid (by rw [PS.out, hq, ← HV.out])
          rw [hq] at CE1
          have z1 : IntKind.u64.wrap (v + q) = v + q := by rw [IntKind.wrap_u64]; have a1 := S.out; have a2 := PN.out (j + 1); have a3 := PL.out (j + 1) (by omega); rw [PT.out] at a3; have := T1.out; omega
          clear hq hj
          go_wp2_with fail
          refine CE1.out.mono ?_
          rintro e w3 ⟨rfl, rfl⟩
          go_wp2_with fail
          go_roundg gk
          case rel => exact ⟨j + 1, v + q, by have := HJ.out; omega, by go_num, by go_num, rfl, S⟩
          case measure => omega
    | succ gk =>
      have x1 : i < K := by omega
      obtain ⟨⟨b, x, y⟩, hd⟩ : ∃ d, l[i]? = some d := ⟨l[i]'(by have := HK.out; omega), List.getElem?_eq_getElem _⟩
      obtain ⟨b0, o, rfl, hat⟩ := HA.out.at hd
      obtain ⟨p0, p1, p2⟩ := hat _ HS.out.bel
      have HAT := Lib.hid hat
      have HI := Lib.hid hi
      have i500 : (i : Int) < 500 := by have := HL.out; omega
      dsimp only at p0 p1 p2
      clear hd hat hi
      by_cases hc : HasC n x
      · have CO := Lib.hid (open_walk HS.out.lg hc (HS.out.ok.e_zero x) (HS.out.ok.e0 x) (HS.out.ok.c0 x) (by have := HS.out.ok.c1 x; omega))
        unfold Opens at CO
        rw [if_pos (HS.out.bal x), decide_eq_true (HS.out.bal x)] at CO
        obtain ⟨q, hq⟩ : ∃ q, s.cm x - s.tot x = q := ⟨_, rfl⟩
        rw [hq] at CO
        cases b with
        | true =>
          by_cases q0 : q = 0
          · subst q0
            have S3 := Lib.hid HS.out.same
            clear hq hc HS i500
            go_wp2_with fail
            refine CO.out.mono ?_
            rintro e w3 ⟨rfl, rfl⟩
            go_wp2_with fail
            go_roundg gk
            case rel => exact ⟨i + 1, s, by have := HI.out; omega, by go_num, S3⟩
            case measure => omega
          · have hl : s.tot x < s.cm x := by have := HS.out.bal x; omega
            by_cases hr : HasR y
            · have CE := Lib.hid (end_good (w := wr.drew) HS.out.lg.drew hc hr (HS.out.ok.e0 x y) (by have := HS.out.ok.e1 x y; omega))
              have OK := Lib.hid (HS.out.ok.ends hc hr)
              have BL := Lib.hid (HS.out.bal.ends hr hl)
              unfold NoteGood at CE
              have SD := Lib.hid HS.out.drew
              clear hq hc HS i500 hl hr
              go_wp2_with fail
              refine CO.out.mono ?_
              rintro e w3 ⟨rfl, rfl⟩
              clear CO
              go_wp2_with fail
              go_region_law (go_simp; go_at_call 7; (with_reducible refine CE.out.mono ?_); rintro e w4 ⟨rfl, m4⟩; try dsimp only)
              all_goals
                have S3 := Lib.hid (SD.out.note HG.out m4 OK.out BL.out)
                clear m4 SD CE
                go_wp2_with fail
                go_roundg gk
                case rel => exact ⟨i + 1, _, by have := HI.out; omega, by go_num, S3⟩
                case measure => omega
            · have CE := Lib.hid (end_bad (w := wr.drew) HS.out.lg.drew (c := x) (r := y) (fun e => hr e.2))
              unfold NoteBad at CE
              have SD := Lib.hid HS.out.drew.same
              clear hq hc HS i500 hl hr
              go_wp2_with fail
              refine CO.out.mono ?_
              rintro e w3 ⟨rfl, rfl⟩
              clear CO
              go_wp2_with fail
              go_region_law (go_simp; go_at_call 7; (with_reducible refine CE.out.mono ?_); rintro e w4 ⟨rfl, rfl⟩; try dsimp only)
              all_goals
                clear CE
                go_wp2_with fail
                go_roundg gk
                case rel => exact ⟨i + 1, _, by have := HI.out; omega, by go_num, SD⟩
                case measure => omega
        | false =>
          have CE := Lib.hid (come_good HS.out.lg hc (HS.out.ok.c0 x) (by have := HS.out.ok.c1 x; omega))
          have OK := Lib.hid (HS.out.ok.come hc)
          have BL := Lib.hid (HS.out.bal.come x)
          unfold NoteGood at CE
          clear hq hc i500
          go_wp2_with fail
          refine CO.out.mono ?_
          rintro e w3 ⟨rfl, rfl⟩
          clear CO
          go_wp2_with fail
          refine CE.out.mono ?_
          rintro e w4 ⟨rfl, m4⟩
          have S3 := Lib.hid (HS.out.note HG.out m4 OK.out BL.out)
          clear m4 HS CE
          go_wp2_with fail
          go_roundg gk
          case rel => exact ⟨i + 1, _, by have := HI.out; omega, by go_num, S3⟩
          case measure => omega
      · have CO := Lib.hid (open_out HS.out.lg hc)
        cases b with
        | true =>
          have S3 := Lib.hid HS.out.same
          clear hc HS i500
          go_wp2_with fail
          refine CO.out.mono ?_
          rintro e w3 ⟨rfl, rfl⟩
          go_wp2_with fail
          go_roundg gk
          case rel => exact ⟨i + 1, s, by have := HI.out; omega, by go_num, S3⟩
          case measure => omega
        | false =>
          have CE := Lib.hid (come_bad HS.out.lg hc)
          unfold NoteBad at CE
          have S3 := Lib.hid HS.out.same
          clear hc HS i500
          go_wp2_with fail
          refine CO.out.mono ?_
          rintro e w3 ⟨rfl, rfl⟩
          clear CO
          go_wp2_with fail
          refine CE.out.mono ?_
          rintro e w4 ⟨rfl, rfl⟩
          go_wp2_with fail
          go_roundg gk
          case rel => exact ⟨i + 1, _, by have := HI.out; omega, by go_num, S3⟩
          case measure => omega
end Go.Proofs.Ythadgficphkpkaa
