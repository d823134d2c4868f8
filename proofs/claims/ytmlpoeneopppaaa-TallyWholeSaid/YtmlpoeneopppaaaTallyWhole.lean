/-
  Layer 18: the law TallyWhole.
-/
import Derived.Test.YtmlpoeneopppaaaTallyUp
import Derived.Test.YtmlpoeneopppaaaTallySum
import Derived.Deep.QuietTactic
import Derived.BigQuiet
namespace Go.Proofs.Ytmlpoeneopppaaa
open Go.ChangeShapes Go.WideShapes Go.ChangeAt Go.RowKit
set_option linter.unusedVariables false

set_option maxRecDepth 100000 in
set_option maxHeartbeats 1000000 in
theorem whole18_many (kind : Int) (A : Option Addr) (cap n : Nat) (W : World) (hn : 200 < n) :
    Calls Try.prog 4 #[.int .i64 kind, .slice A n cap] W (Holds W) := by
  have CU := Lib.hid (up_tally W)
  have i3 : (200 : Int) < n := by omega
  clear hn
  go_enter Try.func4, Try.ntmps4
  go_wp2_with fail
  refine CU.out.mono ?_
  rintro e w1 ⟨rfl, b1⟩
  go_wp2_with fail
  go_ret
  exact ⟨rfl, b1⟩
set_option maxRecDepth 100000 in
set_option maxHeartbeats 1000000 in
theorem whole18_none (kind : Int) (A : Option Addr) (cap : Nat) (W : World) :
    Calls Try.prog 4 #[.int .i64 kind, .slice A 0 cap] W (Holds W) := by
  have CU := Lib.hid (up_tally W)
  go_enter Try.func4, Try.ntmps4
  go_wp2_with fail
  refine CU.out.mono ?_
  rintro e w1 ⟨rfl, b1⟩
  go_wp2_with fail
  go_ret
  exact ⟨rfl, b1⟩
/-- The row that is told, in a block of its own. -/
structure Tw18 (W w : World) (g : Nat) (r : Rw) (B : Option Addr) (c : Nat) : Prop where
  row : RowB w g r B c
  rd : RdN w B c r.bks
  bel : Below W.heap.size W w
theorem Tw18.drewN {W w : World} {g : Nat} {r : Rw} {B : Option Addr} {c : Nat} (h : Tw18 W w g r B c) (n : Nat) : Tw18 W (w.drewN n) g r B c :=
  ⟨⟨h.row.blk⟩, h.rd.drew n, ⟨h.bel.os, h.bel.tape, h.bel.output, h.bel.size, h.bel.block⟩⟩
theorem Tw18.drew {W w : World} {g : Nat} {r : Rw} {B : Option Addr} {c : Nat} (h : Tw18 W w g r B c) : Tw18 W w.drew g r B c :=
  ⟨⟨h.row.blk⟩, h.rd.drew 1, h.bel.drew⟩
set_option maxRecDepth 100000 in
set_option maxHeartbeats 4000000 in
theorem whole18_walk (kind : Int) (A : Option Addr) (cap : Nat) (l : List Int) (W : World) (hR : RdV W A cap l) (hz : ∀ x ∈ l, In64 x) (h0 : 0 < l.length) (hl : l.length ≤ 200) :
    Calls Try.prog 4 #[.int .i64 kind, .slice A l.length cap] W (Holds W) := by
  have CU := Lib.hid (up_tally W)
  have CF := Lib.hid (fun w1 (b : Below W.heap.size W w1) => fold_walk w1 ⟨#[97]⟩ (by decide) kind A cap l (hR.below b) hz (by omega))
  have FT := Lib.hid (foldR_fits ⟨#[97]⟩ kind h0 hl hz)
  unfold Tells18 rowVal at CF
  have LK : Hid ((foldR ⟨#[97]⟩ kind l).bks.length ≤ 100) := Lib.hid (by
    cases l with
    | nil => simp at h0
    | cons v l => exact (foldR_ok (key := ⟨#[97]⟩) (kind := kind) (l := l) (hz v (by simp)) (fun x hx => hz x (by simp [hx]))).len)
  obtain ⟨ad, rfl⟩ := hR.some_of h0
  have HD := Lib.hid (fun w1 (b : Below W.heap.size W w1) => (hR.below b).rd ad rfl)
  obtain ⟨K, hK⟩ : ∃ K, l.length = K := ⟨_, rfl⟩
  have HK := Lib.hid hK
  have HZ := Lib.hid hz
  generalize foldR ⟨#[97]⟩ kind l = r at *
  rw [hK] at h0 hl CF ⊢
  have i3 : ¬ (200 : Int) < K := by omega
  have i4 : ¬ (K : Int) = 0 := by omega
  have i5 : ((K : Int) == 0) = false := beq_eq_false_iff_ne.2 i4
  have H0 := Lib.hid h0
  have HL := Lib.hid hl
  clear hR hz h0 hl hK i4
  go_enter Try.func4, Try.ntmps4
  go_wp2_with fail
  refine CU.out.mono ?_
  rintro e w1 ⟨rfl, b1⟩
  have C1 := Lib.hid (CF.out w1 b1)
  go_wp2_with fail
  refine C1.out.mono ?_
  rintro e w2 ⟨B, c, rfl, o2, b2⟩
  have T0 : Hid (Tw18 W (w2.alloc (rowObj r B c)) w2.heap.size r B c) := Lib.hid ⟨RowB.new w2 r B c, o2.rd.alloc _, (b1.trans (b2.mono b1.size)).alloc (Nat.le_trans b1.size b2.size) _⟩
  clear C1 CF CU b1 b2 o2
  have SB : Hid (r.bks.sum ≤ 200) := Lib.hid (by
    by_cases h3 : kind = 3
    · have := FT.out.bks3 h3; have := HK.out; have := HL.out; omega
    · rw [FT.out.bks0 h3]; exact Nat.zero_le _)
  go_wp2_with fail
  generalize w2.heap.size = g at *
  go_loopg [7, 8] (r.bks.length) (fun gk s7 s8 wx => ∃ (i s : Nat), i + gk = r.bks.length ∧ s8 = .int .i64 (i : Nat) ∧ s7 = .int .u64 (s : Nat) ∧ Hid (s = (r.bks.take i).sum) ∧ Hid (Tw18 W wx g r B c))
  case atStart => exact ⟨0, 0, by omega, rfl, rfl, Lib.hid rfl, T0⟩
  case round =>
    obtain ⟨i, s, hi, rfl, rfl, HS, HT⟩ := hrel
    clear T0
    have c7 := HT.out.row.c7
    cases gk with
    | succ gk =>
      have x1 : i < r.bks.length := by omega
      have x2 : (i : Int) < 100 := by have := LK.out; omega
      obtain ⟨x, hx⟩ : ∃ x, r.bks[i]? = some x := ⟨_, List.getElem?_eq_getElem x1⟩
      obtain ⟨ab, rfl⟩ := HT.out.rd.some_of (by omega)
      have p0 := HT.out.rd.rd ab rfl i x hx
      have HS2 : Hid (s + x = (r.bks.take (i + 1)).sum) := Lib.hid (by rw [take_sum_next hx, ← HS.out])
      have z1 : IntKind.u64.wrap ((s : Int) + x) = ((s + x : Nat) : Int) := by
        have := take_sum r.bks (i + 1)
        have := SB.out
        have := HS2.out
        rw [IntKind.wrap_u64]
        omega
      have HI := Lib.hid hi
      clear hx hi HS
      go_wp2_with fail
      go_roundg gk
      case rel => exact ⟨i + 1, s + x, by have := HI.out; omega, by go_num, by simp, HS2, HT⟩
      case measure => omega
    | zero =>
      obtain rfl : i = r.bks.length := by omega
      rw [List.take_length] at HS
      have x1 : ¬ (r.bks.length : Int) < r.bks.length := by omega
      clear hi
      go_wp2_with fail
      clear c7
      go_loopg [9, 10, 11, 12] K (fun gk s9 s10 s11 s12 wx => ∃ (i : Nat) (q : Int) (lb mb : Bool), i + gk = K ∧ s12 = .int .i64 (i : Nat) ∧ s9 = .int .i64 q ∧ s10 = .bool lb ∧ s11 = .bool mb ∧ Hid (q = wS (l.take i)) ∧ Hid (lb = true ↔ r.least ∈ l.take i) ∧ Hid (mb = true ↔ r.most ∈ l.take i) ∧ Hid (Tw18 W wx g r B c))
      case atStart => exact ⟨0, 0, false, false, by omega, rfl, rfl, rfl, rfl, Lib.hid rfl, Lib.hid (by simp), Lib.hid (by simp), HT⟩
      case round =>
        obtain ⟨i, q, lb, mb, hi, rfl, rfl, rfl, rfl, HQ, HLb, HMb, HT2⟩ := hrel
        clear HT
        cases gk with
        | succ gk =>
          have x1 : i < K := by omega
          obtain ⟨x, hx⟩ : ∃ x, l[i]? = some x := ⟨l[i]'(by have := HK.out; omega), List.getElem?_eq_getElem _⟩
          have p0 := HD.out wr HT2.out.bel i x hx
          have HP := Lib.hid (fun w1 b => HD.out w1 b i x hx)
          have z1 : IntKind.i64.wrap (q + x) = wS (l.take (i + 1)) := by rw [wS_next hx, ← HQ.out]
          obtain ⟨q', hq'⟩ : ∃ q', wS (l.take (i + 1)) = q' := ⟨_, rfl⟩
          rw [hq'] at z1
          have HQ2 : Hid (q' = wS (l.take (i + 1))) := Lib.hid hq'.symm
          have et : l.take (i + 1) = l.take i ++ [x] := by rw [List.take_add_one, hx]; rfl
          have lo := FT.out.lo x (List.mem_of_getElem? hx)
          have y1 : decide (x < r.least) = false := decide_eq_false (by have := lo.1; omega)
          have y2 : decide (r.most < x) = false := decide_eq_false (by have := lo.2; omega)
          have Y1 := Lib.hid y1
          have Y2 := Lib.hid y2
          obtain ⟨lb', hlb⟩ : ∃ lb', (lb || decide (x = r.least)) = lb' := ⟨_, rfl⟩
          obtain ⟨mb', hmb⟩ : ∃ mb', (mb || decide (x = r.most)) = mb' := ⟨_, rfl⟩
          have HLb2 : Hid (lb' = true ↔ r.least ∈ l.take (i + 1)) := Lib.hid (by
            rw [et, ← hlb, Bool.or_eq_true, HLb.out, decide_eq_true_eq, List.mem_append, List.mem_singleton]
            exact or_congr Iff.rfl eq_comm)
          have HMb2 : Hid (mb' = true ↔ r.most ∈ l.take (i + 1)) := Lib.hid (by
            rw [et, ← hmb, Bool.or_eq_true, HMb.out, decide_eq_true_eq, List.mem_append, List.mem_singleton]
            exact or_congr Iff.rfl eq_comm)
          have HLB := Lib.hid hlb
          have HMB := Lib.hid hmb
          have HI := Lib.hid hi
          clear hx hi et lo y1 y2 hq' HQ HLb HMb hlb hmb
          go_wp2_with fail
          go_upto_region 17 with fail
          go_cut [10] from 40 to 87 (fun v wx => v = .bool lb' ∧ Hid (Tw18 W wx g r B c))
          case first =>
            have c4 := HT2.out.row.c4
            have p0 := HP.out _ HT2.out.bel
            have TD := Lib.hid (fun n => HT2.out.drewN n)
            have hh := HLB.out
            cases lb with
            | true =>
              have HH := Lib.hid hh
              clear hh
              go_quiet (fail)
              go_wp2_with fail
              go_meet
              exact ⟨by rw [← HH.out]; rfl, TD.out _⟩
            | false =>
              by_cases hxe : x = r.least
              · rw [decide_eq_true hxe] at hh
                have hd : decide (x = r.least) = true := decide_eq_true hxe
                have HH := Lib.hid hh
                have HXE := Lib.hid hxe
                clear hh hxe
                go_quiet (fail)
                go_wp2_with fail
                go_meet
                exact ⟨by rw [← HH.out]; simp [HXE.out], TD.out _⟩
              · rw [decide_eq_false hxe] at hh
                have hd : decide (x = r.least) = false := decide_eq_false hxe
                have HH := Lib.hid hh
                have HXE := Lib.hid hxe
                clear hh hxe
                go_quiet (fail)
                go_wp2_with fail
                go_meet
                exact ⟨by rw [← HH.out]; simp [HXE.out], TD.out _⟩
          case rest =>
          obtain ⟨rfl, HT3⟩ := hcut
          go_upto_region 18 with fail
          go_cut [11] from 40 to 87 (fun v wx => v = .bool mb' ∧ Hid (Tw18 W wx g r B c))
          case first =>
            have c5 := HT3.out.row.c5
            have p0 := HP.out _ HT3.out.bel
            have TD := Lib.hid (fun n => HT3.out.drewN n)
            have hh := HMB.out
            cases mb with
            | true =>
              have HH := Lib.hid hh
              clear hh
              go_quiet (fail)
              go_wp2_with fail
              go_meet
              exact ⟨by rw [← HH.out]; rfl, TD.out _⟩
            | false =>
              by_cases hxe : x = r.most
              · rw [decide_eq_true hxe] at hh
                have hd : decide (x = r.most) = true := decide_eq_true hxe
                have HH := Lib.hid hh
                have HXE := Lib.hid hxe
                clear hh hxe
                go_quiet (fail)
                go_wp2_with fail
                go_meet
                exact ⟨by rw [← HH.out]; simp [HXE.out], TD.out _⟩
              · rw [decide_eq_false hxe] at hh
                have hd : decide (x = r.most) = false := decide_eq_false hxe
                have HH := Lib.hid hh
                have HXE := Lib.hid hxe
                clear hh hxe
                go_quiet (fail)
                go_wp2_with fail
                go_meet
                exact ⟨by rw [← HH.out]; simp [HXE.out], TD.out _⟩
          case rest =>
          obtain ⟨rfl, HT4⟩ := hcut
          have c4 := HT4.out.row.c4
          have c5 := HT4.out.row.c5
          have p0 := HP.out _ HT4.out.bel
          have y1 := Y1.out
          have y2 := Y2.out
          have TD := Lib.hid (fun n => HT4.out.drewN n)
          go_wp2_with fail
          go_quiet (fail)
          go_wp2_with fail
          go_roundg gk
          case rel => exact ⟨i + 1, q', lb', mb', by have := HI.out; omega, by go_num, rfl, rfl, rfl, HQ2, HLb2, HMb2, Lib.hid (TD.out _)⟩
          case measure => omega
        | zero =>
          obtain rfl : K = i := by omega
          have et : l.take K = l := by rw [← HK.out, List.take_length]
          rw [et] at HQ HLb HMb
          have hne : l ≠ [] := fun e => by have h := HK.out; have := H0.out; rw [e] at h; simp at h; omega
          obtain rfl : lb = true := HLb.out.2 (FT.out.on hne).1
          obtain rfl : mb = true := HMb.out.2 (FT.out.on hne).2
          have y1 : ¬ (K : Int) < K := by omega
          obtain ⟨x, hx⟩ : ∃ x, l[K - 1]? = some x := ⟨l[K - 1]'(by have := HK.out; have := H0.out; omega), List.getElem?_eq_getElem _⟩
          have hlast : l.getLast? = some x := by rw [List.getLast?_eq_getElem?, HK.out]; exact hx
          obtain ⟨n1, hn1⟩ : ∃ n1 : Nat, K - 1 = n1 := ⟨_, rfl⟩
          rw [hn1] at hx
          have k1 : (K : Int) - 1 = (n1 : Nat) := by have := H0.out; omega
          have k2 : n1 < K := by have := H0.out; omega
          have z1 : IntKind.i64.wrap ((K : Int) - 1) = (n1 : Nat) := by rw [IntKind.wrap_i64]; have := HL.out; omega
          have p1 := HD.out wr HT2.out.bel n1 x hx
          have cm := HT2.out.row.c2
          have cs := HT2.out.row.c3
          have co := HT2.out.row.c6
          rw [FT.out.many, HK.out] at cm
          have z2 : IntKind.u64.wrap (K : Int) = K := by rw [IntKind.wrap_u64]; have := HL.out; omega
          have BB := Lib.hid HT2.out.bel
          have HS0 := HS.out
          clear et hi hx hn1 HLb HMb
          by_cases h3 : kind = 3
          · have hs := FT.out.bks3 h3
            rw [HK.out] at hs
            obtain rfl : K = s := (HS0.trans hs).symm
            have hsum := FT.out.sum (by omega)
            subst h3
            cases hov : r.over with
            | true =>
              rw [hov] at co
              clear hov hsum HS0 hs hlast
              go_wp2_with fail
              go_ret
              exact ⟨rfl, BB.out⟩
            | false =>
              rw [hov] at co
              rw [hsum hov, ← HQ.out] at cs
              clear hov hsum HS0 hs hlast
              go_wp2_with fail
              go_ret
              exact ⟨rfl, BB.out⟩
          · have hb := FT.out.bks0 h3
            obtain rfl : (0 : Nat) = s := by rw [HS0, hb]; rfl
            by_cases h2 : kind = 2
            · have hsum := FT.out.last h2 x hlast
              rw [hsum] at cs
              subst h2
              cases hov : r.over
              all_goals
                rw [hov] at co
                clear hov hsum HS0 hb hlast h3
                go_wp2_with fail
                go_ret
                exact ⟨rfl, BB.out⟩
            · have hsum := FT.out.sum h2
              have t2 : (kind == 2) = false := beq_eq_false_iff_ne.2 h2
              have t3 : (kind == 3) = false := beq_eq_false_iff_ne.2 h3
              have t4 : (kind != 3) = true := by simp [h3]
              cases hov : r.over with
              | true =>
                rw [hov] at co
                clear hov hsum HS0 hb hlast h2 h3
                go_wp2_with fail
                go_ret
                exact ⟨rfl, BB.out⟩
              | false =>
                rw [hov] at co
                rw [hsum hov, ← HQ.out] at cs
                clear hov hsum HS0 hb hlast h2 h3
                go_wp2_with fail
                go_ret
                exact ⟨rfl, BB.out⟩
end Go.Proofs.Ytmlpoeneopppaaa
