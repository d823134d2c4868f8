/-
  Layer 16: the law LevelSteps.
-/
import Derived.Test.YtppffnfldgoknaaLevelUp
import Derived.Test.YtppffnfldgoknaaTriples
import Derived.Deep.LoopGhost
import Derived.Deep.Cut
import Derived.Deep.CutRange
namespace Go.Proofs.Ytppffnfldgoknaa
open Go.ChangeShapes Go.WideShapes Go.ChangeAt Go.RowKit
set_option linter.unusedVariables false

set_option maxRecDepth 100000 in
set_option maxHeartbeats 1000000 in
theorem steps_bad (N low high hold : Int) (A : Option Addr) (cap n : Nat) (W : World) (h : ¬ GoodL N low high hold) :
    Calls Try.prog 4 #[.int .i64 N, .int .i64 low, .int .i64 high, .int .i64 hold, .slice A n cap] W (Holds W) := by
  have CU := Lib.hid (up_level W)
  have CN := Lib.hid (fun w => new_bad w N low high hold h)
  unfold errL at CN
  have eqc := eql_codes
  clear h
  go_enter Try.func4, Try.ntmps4
  go_wp2_with fail
  refine CU.out.mono ?_
  rintro e w1 ⟨rfl, b1⟩
  go_wp2_with fail
  refine (CN.out _).mono ?_
  rintro e w2 ⟨rfl, rfl⟩
  go_wp2_with fail
  go_ret
  exact ⟨rfl, b1⟩
set_option maxRecDepth 100000 in
set_option maxHeartbeats 1000000 in
theorem steps_many (N low high hold : Int) (A : Option Addr) (cap n : Nat) (W : World) (h : GoodL N low high hold) (hn : 2000 < n) :
    Calls Try.prog 4 #[.int .i64 N, .int .i64 low, .int .i64 high, .int .i64 hold, .slice A n cap] W (Holds W) := by
  have CU := Lib.hid (up_level W)
  have CN := Lib.hid (fun w => new_good w N low high hold _ h rfl)
  have i3 : (2000 : Int) < n := by omega
  clear h hn
  go_enter Try.func4, Try.ntmps4
  go_wp2_with fail
  refine CU.out.mono ?_
  rintro e w1 ⟨rfl, b1⟩
  go_wp2_with fail
  refine (CN.out _).mono ?_
  rintro e w2 ⟨rfl, h2, b2⟩
  have B2 := Lib.hid (b1.trans (b2.mono b1.size))
  clear b1 b2 h2 CN CU
  go_wp2_with fail
  go_ret
  exact ⟨rfl, B2.out⟩
/-- The law's state at the head of a round. -/
structure Sp (W w : World) (a : Nat) (N low high hold m v b : Int) (i : Nat) (s : Ls) : Prop where
  g : Gp w a low high hold m s
  ok : LsOk N hold s
  bel : Below W.heap.size W w
  hv : s.is = v
  hb : s.held ≤ b
  b0 : 0 ≤ b
  b1 : b ≤ i
set_option maxRecDepth 100000 in
set_option maxHeartbeats 4000000 in
theorem steps_walk (N low high hold : Int) (A : Option Addr) (cap : Nat) (l : List Int) (W : World) (h : GoodL N low high hold) (hA : RdI W A l) (hl : l.length ≤ 2000) :
    Calls Try.prog 4 #[.int .i64 N, .int .i64 low, .int .i64 high, .int .i64 hold, .slice A l.length cap] W (Holds W) := by
  have CU := Lib.hid (up_level W)
  have CN := Lib.hid (fun w => new_good w N low high hold _ h rfl)
  have HG := Lib.hid h
  have HA := Lib.hid hA
  obtain ⟨m, hm⟩ : ∃ m, N - 1 = m := ⟨_, rfl⟩
  have HM := Lib.hid hm
  obtain ⟨K, hK⟩ : ∃ K, l.length = K := ⟨_, rfl⟩
  have HK := Lib.hid hK
  rw [hm] at CN
  rw [hK] at hl ⊢
  have i3 : ¬ (2000 : Int) < K := by omega
  clear h hA hm hK
  go_enter Try.func4, Try.ntmps4
  go_wp2_with fail
  refine CU.out.mono ?_
  rintro e w1 ⟨rfl, b1⟩
  go_wp2_with fail
  refine (CN.out _).mono ?_
  rintro e w2 ⟨rfl, h2, b2⟩
  obtain ⟨a, ha⟩ : ∃ a, w1.heap.size = a := ⟨_, rfl⟩
  have HB : Hid (W.heap.size ≤ a) := Lib.hid (by rw [← ha]; exact b1.size)
  rw [ha] at h2 ⊢
  have S2 : Hid (Sp W w2 a N low high hold m 0 0 0 ⟨0, 0⟩) := Lib.hid ⟨h2, LsOk.calm HG.out, b1.trans (b2.mono b1.size), rfl, Int.le_refl _, Int.le_refl _, by simp⟩
  clear b1 b2 h2 CN CU ha
  go_wp2_with fail
  go_loopg [14, 15, 16] K (fun g s14 s15 s16 wx => ∃ (i : Nat) (v b : Int) (s : Ls), i + g = K ∧ s14 = .int .i64 v ∧ s15 = .int .i64 b ∧ s16 = .int .i64 (i : Nat) ∧ Hid (Sp W wx a N low high hold m v b i s))
  case atStart => exact ⟨0, 0, 0, ⟨0, 0⟩, by omega, rfl, rfl, rfl, S2⟩
  case round =>
    clear S2
    obtain ⟨i, v, b, s, hi, rfl, rfl, rfl, HS⟩ := hrel
    cases gk with
    | zero =>
      have x1 : ¬ i < K := by omega
      go_wp2_with fail
      go_ret
      exact ⟨rfl, HS.out.bel⟩
    | succ g =>
      have x1 : i < K := by omega
      obtain ⟨d, hd⟩ : ∃ d, l[i]? = some d := ⟨l[i]'(by have := HK.out; omega), List.getElem?_eq_getElem _⟩
      obtain ⟨b0, o, rfl, hat⟩ := HA.out.at hd
      have p2 := hat _ HS.out.bel
      have HAT := Lib.hid hat
      have HI := Lib.hid hi
      have CT := Lib.hid (tell_walk HS.out.g HG.out HS.out.ok HM.out.symm d)
      obtain ⟨st, sh⟩ := step_tell HG.out HS.out.ok HS.out.hb d
      have OK := HS.out.ok.tell HG.out d
      rw [HS.out.hv] at st
      obtain ⟨s', hs'⟩ : ∃ s', tellL N low high hold s d = s' := ⟨_, rfl⟩
      rw [hs'] at CT st sh OK
      obtain ⟨n, hn⟩ : ∃ n, s'.is = n := ⟨_, rfl⟩
      unfold Told at CT
      rw [hn] at CT st
      obtain ⟨b', hb'⟩ : ∃ b', (if d < low then b + 1 else 0) = b' := ⟨_, rfl⟩
      rw [hb'] at st sh
      have S3 : Hid (∀ w3, Mp wr w3 a low high hold m s' → Sp W w3 a N low high hold m n b' (i + 1) s') := Lib.hid (fun w3 m3 =>
        ⟨m3.gp, OK, HS.out.bel.trans (m3.kp.below (B := W.heap.size) (fun g e => by subst e; exact HB.out) HS.out.bel.size), hn, sh, by have := OK.h0; omega, by have := HS.out.b1; rw [← hb']; split <;> omega⟩)
      have vb := HS.out.ok
      have v0 := vb.i0
      have v1 := vb.i1
      have bb := HS.out.b1
      have bb0 := HS.out.b0
      have n8 := HG.out.n8
      rw [HS.out.hv] at v0 v1
      have z1 : IntKind.i64.wrap (v + 1) = v + 1 := by rw [IntKind.wrap_i64]; omega
      have z2 : IntKind.i64.wrap (v - 1) = v - 1 := by rw [IntKind.wrap_i64]; omega
      have z3 : IntKind.i64.wrap (b + 1) = b + 1 := by rw [IntKind.wrap_i64]; omega
      have t1 : ¬ n < 0 := by have := st.n0; omega
      have t2 : ¬ N ≤ n := by have := st.n1; omega
      have t3 : ¬ v + 1 < n := by have := st.up; omega
      have t4 : ¬ n < v - 1 := by have := st.dn; omega
      have st := Lib.hid st
      clear hd hat hi hs' hn sh OK vb v0 v1 bb bb0 n8
      by_cases hd : d < low
      · rw [if_pos hd] at hb'
        subst hb'
        rcases Int.lt_trichotomy n v with u | u | u
        · have u1 : ¬ v < n := by omega
          have u2 : ¬ b + 1 < hold := by have := st.out.lo u; omega
          go_wp2_with fail
          refine CT.out.mono ?_
          rintro e w3 ⟨rfl, m3⟩
          have S4 := Lib.hid (S3.out _ m3)
          have p3 := HAT.out _ S4.out.bel
          clear m3 CT p2
          go_wp2_with fail
          go_roundg g
          case rel => exact ⟨i + 1, n, b + 1, s', by have := HI.out; omega, rfl, rfl, by go_num, S4⟩
          case measure => omega
        · have u1 : ¬ v < n := by omega
          have u2 : ¬ n < v := by omega
          clear u
          go_wp2_with fail
          refine CT.out.mono ?_
          rintro e w3 ⟨rfl, m3⟩
          have S4 := Lib.hid (S3.out _ m3)
          have p3 := HAT.out _ S4.out.bel
          clear m3 CT p2
          go_wp2_with fail
          go_roundg g
          case rel => exact ⟨i + 1, n, b + 1, s', by have := HI.out; omega, rfl, rfl, by go_num, S4⟩
          case measure => omega
        · exact absurd (st.out.hi u) (by have := HG.out.lh; omega)
      · rw [if_neg hd] at hb'
        subst hb'
        rcases Int.lt_trichotomy n v with u | u | u
        · exact absurd (st.out.lo u) (by have := HG.out.o1; omega)
        · have u1 : ¬ v < n := by omega
          have u2 : ¬ n < v := by omega
          clear u
          go_wp2_with fail
          refine CT.out.mono ?_
          rintro e w3 ⟨rfl, m3⟩
          have S4 := Lib.hid (S3.out _ m3)
          have p3 := HAT.out _ S4.out.bel
          clear m3 CT p2
          go_wp2_with fail
          go_roundg g
          case rel => exact ⟨i + 1, n, 0, s', by have := HI.out; omega, rfl, rfl, by go_num, S4⟩
          case measure => omega
        · have u1 : ¬ d ≤ high := by have := st.out.hi u; omega
          have u2 : ¬ n < v := by omega
          go_wp2_with fail
          refine CT.out.mono ?_
          rintro e w3 ⟨rfl, m3⟩
          have S4 := Lib.hid (S3.out _ m3)
          have p3 := HAT.out _ S4.out.bel
          clear m3 CT p2
          go_wp2_with fail
          go_roundg g
          case rel => exact ⟨i + 1, n, 0, s', by have := HI.out; omega, rfl, rfl, by go_num, S4⟩
          case measure => omega
end Go.Proofs.Ytppffnfldgoknaa
