/-
  Layer 22: the law BackoffBounds.
-/
import Derived.Test.YtkomhdlblhhdgaaBackoffUp
import Derived.Test.YtkomhdlblhhdgaaTriples
import Derived.Deep.LoopGhost
import Derived.Deep.Cut
import Derived.Deep.CutRange
namespace Go.Proofs.Ytkomhdlblhhdgaa
open Go.ChangeShapes Go.WideShapes Go.ChangeAt Go.RowKit
set_option linter.unusedVariables false

set_option maxRecDepth 100000 in
set_option maxHeartbeats 1000000 in
theorem bounds_bad (B L : Int) (A : Option Addr) (cap n : Nat) (W : World) (h : ¬ GoodB B L) :
    Calls Try.prog 4 #[.int .i64 B, .int .i64 L, .slice A n cap] W (Holds W) := by
  have CU := Lib.hid (up_backoff W)
  have CN := Lib.hid (fun w => newB_bad w B L h)
  unfold errB at CN
  have eqc := eql_codes
  clear h
  go_enter Try.func4, Try.ntmps4
  go_wp2_with fail
  refine CU.out.mono ?_
  rintro e w1 ⟨rfl, b1⟩
  go_wp2_with fail
  refine (CN.out _).mono ?_
  rintro e w2 ⟨rfl, rfl⟩
  go_wp2_with fail
  refine (CN.out _).mono ?_
  rintro e w2 ⟨rfl, rfl⟩
  go_wp2_with fail
  go_ret
  exact ⟨rfl, b1⟩
/-- Two waits of the program side by side. -/
structure Tp (W w : World) (a c : Nat) (b l : Int) (n m : Nat) : Prop where
  p : Wp w a b l n
  q : Wp w c b l m
  bel : Below W.heap.size W w
  ha : W.heap.size ≤ a
  hc : W.heap.size ≤ c
  ne : a ≠ c
section
variable {W w w' : World} {a c : Nat} {b l : Int} {n m k : Nat}
theorem Tp.turnP (h : Tp W w a c b l n m) (t : Mwp w w' a b l k) : Tp W w' a c b l k m :=
  ⟨t.p, h.q.keeps t.kp (fun e => h.ne e.symm), h.bel.trans (t.kp.below (B := W.heap.size) (fun g e => by subst e; exact h.ha) h.bel.size), h.ha, h.hc, h.ne⟩
theorem Tp.turnQ (h : Tp W w a c b l n m) (t : Mwp w w' c b l k) : Tp W w' a c b l n k :=
  ⟨h.p.keeps t.kp h.ne, t.p, h.bel.trans (t.kp.below (B := W.heap.size) (fun g e => by subst e; exact h.hc) h.bel.size), h.ha, h.hc, h.ne⟩
end
set_option maxRecDepth 100000 in
set_option maxHeartbeats 1000000 in
theorem bounds_many (B L : Int) (A : Option Addr) (cap n : Nat) (W : World) (h : GoodB B L) (hn : 300 < n) :
    Calls Try.prog 4 #[.int .i64 B, .int .i64 L, .slice A n cap] W (Holds W) := by
  have CU := Lib.hid (up_backoff W)
  have CN := Lib.hid (fun w => newB_good w B L h)
  have i3 : (300 : Int) < n := by omega
  clear h hn
  go_enter Try.func4, Try.ntmps4
  go_wp2_with fail
  refine CU.out.mono ?_
  rintro e w1 ⟨rfl, b1⟩
  go_wp2_with fail
  refine (CN.out _).mono ?_
  rintro e w2 ⟨rfl, h2, b2⟩
  have B2 := Lib.hid (b1.trans (b2.mono b1.size))
  clear b1 b2 h2
  go_wp2_with fail
  refine (CN.out _).mono ?_
  rintro e w3 ⟨rfl, h3, b3⟩
  have B3 := Lib.hid (B2.out.trans (b3.mono B2.out.size))
  clear b3 h3 CN CU B2
  go_wp2_with fail
  go_ret
  exact ⟨rfl, B3.out⟩
set_option maxRecDepth 100000 in
set_option maxHeartbeats 4000000 in
theorem bounds_walk (B L : Int) (A : Option Addr) (cap : Nat) (l : List Int) (W : World) (h : GoodB B L) (hA : RdI W A l) (hF : ∀ x ∈ l, InI x) (hl : l.length ≤ 300) :
    Calls Try.prog 4 #[.int .i64 B, .int .i64 L, .slice A l.length cap] W (Holds W) := by
  have CU := Lib.hid (up_backoff W)
  have CN := Lib.hid (fun w => newB_good w B L h)
  have HG := Lib.hid h
  have HA := Lib.hid hA
  have HF := Lib.hid hF
  have b1' := h.b1
  have l1' := h.l1
  obtain ⟨K, hK⟩ : ∃ K, l.length = K := ⟨_, rfl⟩
  have HK := Lib.hid hK
  rw [hK] at hl ⊢
  have i3 : ¬ (300 : Int) < K := by omega
  clear h hA hF hK
  go_enter Try.func4, Try.ntmps4
  go_wp2_with fail
  refine CU.out.mono ?_
  rintro e w1 ⟨rfl, b1⟩
  go_wp2_with fail
  refine (CN.out _).mono ?_
  rintro e w2 ⟨rfl, h2, b2⟩
  obtain ⟨a, ha⟩ : ∃ a, w1.heap.size = a := ⟨_, rfl⟩
  have HB : Hid (W.heap.size ≤ a) := Lib.hid (by rw [← ha]; exact b1.size)
  have B2 := Lib.hid (b1.trans (b2.mono b1.size))
  rw [ha] at h2 ⊢
  have H2 := Lib.hid h2
  clear b1 b2 h2 CU ha
  go_wp2_with fail
  refine (CN.out _).mono ?_
  rintro e w3 ⟨rfl, h3, b3⟩
  obtain ⟨c, hc⟩ : ∃ c, w2.heap.size = c := ⟨_, rfl⟩
  have S3 : Hid (Tp W w3 a c B L 0 0) := Lib.hid ⟨H2.out.still b3, hc ▸ h3, B2.out.trans (b3.mono B2.out.size), HB.out, by rw [← hc]; exact B2.out.size, by have := H2.out.lt; omega⟩
  rw [hc]
  clear b3 h3 CN H2 B2 hc
  go_wp2_with fail
  go_loopg [12, 13] K (fun g s12 s13 wx => ∃ (i : Nat) (v : Int), i + g = K ∧ s12 = .int .i64 v ∧ s13 = .int .i64 (i : Nat) ∧ v ≤ L ∧ 0 ≤ v ∧ Hid (v ≤ bwZ B L i) ∧ Hid (Tp W wx a c B L i i))
  case atStart => exact ⟨0, 0, by omega, rfl, rfl, by have := HG.out.bl; omega, Int.le_refl _, Lib.hid (by have := (bw_bd HG.out 0).1; omega), S3⟩
  case round =>
    clear S3
    obtain ⟨i, v, hi, rfl, rfl, v1, v0, HV, HS⟩ := hrel
    cases gk with
    | zero =>
      have x1 : ¬ i < K := by omega
      have CG := Lib.hid (goodB_walk HS.out.p)
      have CF : Hid (∀ w', Wp w' a B L 0 → Calls Try.prog 9 #[.pointer (some ⟨a, 0, none⟩), .int .i64 0] w' fun e w'' => e = .returned (.int .i64 B) ∧ Mwp w' w'' a B L 1) := Lib.hid (fun w' hp => by
        have := fail_walk hp HG.out (by decide) 0 (by decide) (by decide)
        rwa [show jitZ 0 (bwZ B L 0) = B from jit_zero HG.out.b1] at this)
      go_wp2_with fail
      refine CG.out.mono ?_
      rintro e w4 ⟨rfl, m4⟩
      have M4 := Lib.hid m4
      clear m4
      go_wp2_with fail
      refine (CF.out _ M4.out.p).mono ?_
      rintro e w5 ⟨rfl, m5⟩
      have M5 := Lib.hid m5
      clear m5
      go_wp2_with fail
      go_ret
      exact ⟨rfl, ((HS.out.turnP M4.out).turnP M5.out).bel⟩
    | succ g =>
      have x1 : i < K := by omega
      obtain ⟨d, hd⟩ : ∃ d, l[i]? = some d := ⟨l[i]'(by have := HK.out; omega), List.getElem?_eq_getElem _⟩
      obtain ⟨d0, d1⟩ := HF.out d (List.mem_of_getElem? hd)
      obtain ⟨b0, o, rfl, hat⟩ := HA.out.at hd
      have p2 := hat _ HS.out.bel
      have HI := Lib.hid hi
      obtain ⟨q, hq⟩ : ∃ q, bwZ B L i = q := ⟨_, rfl⟩
      obtain ⟨q0, q1⟩ := bw_bd HG.out i
      have hv := HV.out
      rw [hq] at q0 q1 hv
      have CP := Lib.hid (fail_walk HS.out.p HG.out (by omega) d d0 d1)
      obtain ⟨r, hr⟩ : ∃ r, jitZ d q = r := ⟨_, rfl⟩
      obtain ⟨r1, r2, r3⟩ := jit_bd (w := q) (by omega) d
      rw [hq, hr] at CP
      rw [hr] at r1 r2 r3
      have CQ : Hid (∀ w', Wp w' c B L i → Calls Try.prog 9 #[.pointer (some ⟨c, 0, none⟩), .int .i64 0] w' fun e w'' => e = .returned (.int .i64 q) ∧ Mwp w' w'' c B L (i + 1)) := Lib.hid (fun w' hp => by
        have := fail_walk hp HG.out (by omega) 0 (by decide) (by decide)
        rwa [hq, jit_zero (by omega)] at this)
      have HN : Hid (q ≤ bwZ B L (i + 1)) := Lib.hid (by rw [← hq]; exact bw_up HG.out i)
      have t1 : ¬ r < 1 := by omega
      have t2 : ¬ q < r := by omega
      have t3 : ¬ 2 * r < q := by omega
      have t4 : ¬ L < q := by omega
      have t5 : ¬ q < v := by omega
      have t6 : ¬ q < B := by omega
      have z1 : IntKind.i64.wrap (2 * r) = 2 * r := by rw [IntKind.wrap_i64]; omega
      clear hd hat hi hr HV hq
      go_wp2_with fail
      refine CP.out.mono ?_
      rintro e w4 ⟨rfl, m4⟩
      have S4 := Lib.hid (HS.out.turnP m4)
      clear m4 CP p2
      go_wp2_with fail
      refine (CQ.out _ S4.out.q).mono ?_
      rintro e w5 ⟨rfl, m5⟩
      have S5 := Lib.hid (S4.out.turnQ m5)
      clear m5 CQ S4
      go_wp2_with fail
      go_roundg g
      case rel => exact ⟨i + 1, q, by have := HI.out; omega, rfl, by go_num, q1, by omega, HN, S5⟩
      case measure => omega
end Go.Proofs.Ytkomhdlblhhdgaa
