/-
  Layer 11: the law DelayLaw.
-/
import Derived.Test.YtljklehlmahbgaaDelayUp
import Derived.Test.YtljklehlmahbgaaPairs
import Derived.Deep.LoopGhost
import Derived.Deep.Cut
import Derived.Deep.CutRange
namespace Go.Proofs.Ytljklehlmahbgaa
open Go.ChangeShapes Go.WideShapes Go.ChangeAt Go.RowKit
set_option linter.unusedVariables false

set_option maxRecDepth 100000 in
set_option maxHeartbeats 2000000 in
theorem law_walk (n : Nat) (T I c : Int) (A : Option Addr) (cap : Nat) (l : List (Int × Int)) (W : World) (hn : n < 18446744073709551616)
    (T0 : -9223372036854775808 ≤ T) (T1 : T ≤ 9223372036854775807) (I0 : -9223372036854775808 ≤ I) (I1 : I ≤ 9223372036854775807) (c0 : -9223372036854775808 ≤ c) (c1 : c ≤ 9223372036854775807)
    (hX : RdP W A l) (hF : WideP l) (hl : l.length ≤ 9223372036854775807) :
    Calls Try.prog 3 #[.int .u64 (n : Nat), .int .i64 T, .int .i64 I, .int .i64 c, .slice A l.length cap] W (Holds W) := by
  have CU := Lib.hid (up_delay W)
  have CR := Lib.hid (fun w => root_walk w n hn)
  have HA := Lib.hid hX
  have HF := Lib.hid hF
  obtain ⟨N, hN⟩ : ∃ N, l.length = N := ⟨_, rfl⟩
  have HN := Lib.hid hN
  rw [hN] at hl ⊢
  clear hX hF hN
  have RT := isRoot n
  have rlt := root_lt hn
  obtain ⟨r, hr⟩ : ∃ r, rootN n = r := ⟨_, rfl⟩
  rw [hr] at RT rlt CR
  clear hr
  have R1 := Lib.hid RT.le
  have R2 := Lib.hid RT.lt
  clear RT
  go_enter Try.func3, Try.ntmps3
  go_wp2_with fail
  refine CU.out.mono ?_
  rintro e w1 ⟨rfl, b1⟩
  have B1 := Lib.hid b1
  clear b1 CU
  go_wp2_with fail
  refine (CR.out _).mono ?_
  rintro e w2 ⟨rfl, rfl⟩
  clear CR
  have CP := Lib.hid (fun w x h0 h1 => pause_walk w I x I0 I1 h0 h1)
  go_upto_region 5 with fail
  go_cut [40] from 23 to 40 (fun v wx => v = .bool false ∧ wx = w1)
  case first =>
    obtain ⟨s, hs⟩ : ∃ s, r * r = s := ⟨_, rfl⟩
    have x1 : (r : Int) * (r : Int) = (s : Int) := by rw [← Int.natCast_mul, hs]
    have x2 : ¬ (n : Int) < (s : Int) := by have := R1.out; omega
    have x3 : s < 18446744073709551616 := by omega
    clear hs
    by_cases hm : r < 4294967295
    · obtain ⟨t, ht⟩ : ∃ t, (r + 1) * (r + 1) = t := ⟨_, rfl⟩
      have y1 : ((r : Int) + 1) * ((r : Int) + 1) = (t : Int) := by rw [← ht, Int.natCast_mul]; rfl
      have y3 : t < 18446744073709551616 := by have := sq_mono (show r + 1 ≤ 4294967295 by omega); omega
      have y2 : ¬ (t : Int) ≤ (n : Int) := by have := R2.out; omega
      have hmi : (r : Int) < 4294967295 := by omega
      clear ht hm
      go_wp2_with fail
      go_meet
      case rel => exact ⟨rfl, rfl⟩
    · have hmi : ¬ (r : Int) < 4294967295 := by omega
      clear hm
      go_wp2_with fail
      go_meet
      case rel => exact ⟨rfl, rfl⟩
  case rest =>
    obtain ⟨rfl, rfl⟩ := hcut
    clear R1 R2
    go_upto_region 7 with fail
    go_cut [56] from 41 to 56 (fun v wx => v = .bool false ∧ wx = wc)
    case first =>
      by_cases h1 : 1 ≤ c
      · by_cases h2 : c < 1000000
        · have hmono := pauseZ_mono (I := I) h1 h2
          have CPa := Lib.hid (fun w => CP.out w c c0 c1)
          have CPb := Lib.hid (fun w => CP.out w (c + 1) (by omega) (by omega))
          generalize pauseZ I (c + 1) = p2 at *
          generalize pauseZ I c = p1 at *
          have h3 : decide (p1 < p2) = false := decide_eq_false (by omega)
          clear CP hmono
          go_wp2_with fail
          refine (CPa.out _).mono ?_
          rintro e w2 ⟨rfl, rfl⟩
          go_wp2_with fail
          refine (CPb.out _).mono ?_
          rintro e w2 ⟨rfl, rfl⟩
          go_wp2_with fail
          go_meet
          case rel => exact ⟨rfl, rfl⟩
        · go_wp2_with fail
          go_meet
          case rel => exact ⟨rfl, rfl⟩
      · go_wp2_with fail
        go_meet
        case rel => exact ⟨rfl, rfl⟩
    case rest =>
      obtain ⟨rfl, rfl⟩ := hcut
      by_cases hmay : mayB T ∧ mayB I
      · obtain ⟨hT, hI⟩ := hmay
        have CN := Lib.hid (fun w => new_good w T I hT hI)
        by_cases hmany : 300 < N
        · have i3 : (300 : Int) < (N : Int) := by omega
          go_wp2_with fail
          refine (CN.out _).mono ?_
          rintro e w2 ⟨rfl, h2, b2⟩
          have B2 := Lib.hid (B1.out.trans (b2.mono B1.out.size))
          clear h2 b2 CN CP
          go_wp2_with fail
          go_ret
          exact ⟨rfl, B2.out⟩
        · have i3 : ¬ (300 : Int) < (N : Int) := by omega
          have C1 := Lib.hid (fun w => CP.out w 1 (by decide) (by decide))
          rw [pauseZ_one hI] at C1
          have HI := Lib.hid hI
          clear CP hI
          go_wp2_with fail
          refine (CN.out _).mono ?_
          rintro e w2 ⟨rfl, h2, b2⟩
          have B2 := Lib.hid (B1.out.trans (b2.mono B1.out.size))
          have HB := Lib.hid B1.out.size
          obtain ⟨a, ha⟩ : ∃ a, wc.heap.size = a := ⟨_, rfl⟩
          rw [ha] at h2 HB ⊢
          have S2 : Hid (Ct w2 a T I Cs.calm ∧ CsOk Cs.calm ∧ Below W.heap.size W w2) := Lib.hid ⟨h2, CsOk.calm, B2.out⟩
          clear h2 b2 CN ha B2
          go_wp2_with fail
          go_loopg [15] N (fun g s15 wx => ∃ (i : Nat) (s : Cs), i + g = N ∧ s15 = .int .i64 (i : Nat) ∧ Hid (Ct wx a T I s ∧ CsOk s ∧ Below W.heap.size W wx))
          case atStart => exact ⟨0, Cs.calm, by omega, rfl, S2⟩
          case round =>
            clear S2
            obtain ⟨i, s, hi, rfl, HS⟩ := hrel
            cases gk with
            | zero =>
              have x1 : ¬ i < N := by omega
              go_wp2_with fail
              refine (C1.out _).mono ?_
              rintro e w3 ⟨rfl, rfl⟩
              go_wp2_with fail
              go_ret
              exact ⟨rfl, HS.out.2.2⟩
            | succ g =>
              have x1 : i < N := by omega
              obtain ⟨x, y, hs⟩ : ∃ x y, l[i]? = some (x, y) := ⟨(l[i]'(by have := HN.out; omega)).1, (l[i]'(by have := HN.out; omega)).2, List.getElem?_eq_getElem _⟩
              obtain ⟨b0, o, rfl, hat⟩ := HA.out.at hs
              obtain ⟨v0, v1, v2, v3⟩ := HF.out x y (List.mem_of_getElem? hs)
              obtain ⟨k1, k2, k3⟩ := HS.out
              obtain ⟨p2, p3⟩ := hat _ k3
              have HAT := Lib.hid hat
              have HI2 := Lib.hid hi
              have CC := Lib.hid (count_walk k1)
              have CA := Lib.hid (ask_walk (w := wr.drew) k1 HI.out k2 x y v0 v1 v2 v3)
              have OK := Lib.hid (ask_ok (T := T) HI.out k2 x y)
              have TG := Lib.hid (fun h => ask_target (T := T) (I := I) (s := s) (now := x) (waited := y) h)
              have CT := Lib.hid (fun h => ask_count (T := T) (I := I) (s := s) (now := x) (waited := y) h)
              generalize askP T I s x y = P at CA OK TG CT
              obtain ⟨D, s'⟩ := P
              obtain ⟨q, hq⟩ : ∃ q, s.count = q := ⟨_, rfl⟩
              rw [hq] at CC CT
              clear hs hat hi k1 k2 k3 hq
              go_wp2_with fail
              refine CC.out.mono ?_
              rintro e w3 ⟨rfl, rfl⟩
              clear CC
              go_wp2_with fail
              go_region_law (go_simp; go_at_call 9; (with_reducible refine CA.out.mono ?_); rintro e w4 ⟨rfl, m4⟩; try dsimp only)
              all_goals
                have b4 : Below W.heap.size W w4 := (HS.out.2.2.trans ((below_drew wr).mono HS.out.2.2.size)).trans (m4.kp.below (B := W.heap.size) (fun g e => by subst e; exact HB.out) HS.out.2.2.size)
                obtain ⟨p4, p5⟩ := HAT.out _ b4
                have S4 : Hid (Ct w4 a T I s' ∧ CsOk s' ∧ Below W.heap.size W w4) := Lib.hid ⟨m4.ct, OK.out, b4⟩
                have CC := Lib.hid (count_walk m4.ct)
                clear m4 b4 CA OK HS
                cases D with
                | true =>
                  have z1 : ¬ y < T := by have := TG.out rfl; omega
                  clear TG CT CC
                  go_wp2_with fail
                  go_roundg g
                  case rel => exact ⟨i + 1, s', by have := HI2.out; omega, by go_num, S4⟩
                  case measure => omega
                | false =>
                  rw [CT.out rfl] at CC
                  clear TG CT
                  go_wp2_with fail
                  refine CC.out.mono ?_
                  rintro e w5 ⟨rfl, rfl⟩
                  go_wp2_with fail
                  go_roundg g
                  case rel => exact ⟨i + 1, s', by have := HI2.out; omega, by go_num, S4⟩
                  case measure => omega
      · have CN := Lib.hid (fun w => new_bad w T I (by by_cases h : mayB T; exact .inr (fun h' => hmay ⟨h, h'⟩); exact .inl h))
        unfold errD at CN
        have eqc := eql_codes
        go_wp2_with fail
        refine (CN.out _).mono ?_
        rintro e w2 ⟨rfl, rfl⟩
        go_wp2_with fail
        go_ret
        exact ⟨rfl, B1.out⟩
end Go.Proofs.Ytljklehlmahbgaa
