/-
  Layer 22: the law BackoffWaits.
-/
import Derived.Test.YtkomhdlblhhdgaaBackoffUp
import Derived.Test.YtkomhdlblhhdgaaTriples
import Derived.Deep.LoopGhost
import Derived.Deep.Cut
import Derived.Deep.CutRange
import Derived.Deep.RegionHeldLaw
namespace Go.Proofs.Ytkomhdlblhhdgaa
open Go.ChangeShapes Go.WideShapes Go.ChangeAt Go.RowKit Go.Deep
set_option linter.unusedVariables false

/-- The document's wait laid by itself. -/
abbrev waitR (b l : Int) : Obj := .cells #[.int .i64 b, .int .i64 l, .int .i64 0] 26 (0, 0)
theorem wait_laid (w : World) (b l : Int) : Wr (w.alloc (waitR b l)) w.heap.size b l 0 := heap_alloc_new w _
set_option maxRecDepth 100000 in
set_option maxHeartbeats 1000000 in
theorem waits_bad (B L : Int) (A : Option Addr) (cap n : Nat) (W : World) (h : ¬ GoodB B L) :
    Calls Try.prog 3 #[.int .i64 B, .int .i64 L, .slice A n cap] W (Holds W) := by
  have CU := Lib.hid (up_backoff W)
  have CN := Lib.hid (fun w => newB_bad w B L h)
  have CG := Lib.hid (fun w => refB_no (wait_laid w B L) h)
  unfold errB at CN
  have eqc := eql_codes
  clear h
  go_enter Try.func3, Try.ntmps3
  go_wp2_with fail
  refine CU.out.mono ?_
  rintro e w1 ⟨rfl, b1⟩
  go_wp2_with fail
  refine (CN.out _).mono ?_
  rintro e w2 ⟨rfl, rfl⟩
  go_wp2_with fail
  refine (CG.out _).mono ?_
  rintro e w3 ⟨rfl, q, rfl⟩
  have B3 := Lib.hid (b1.alloc b1.size (waitR B L))
  go_wp2_with fail
  go_ret
  exact ⟨rfl, B3.out.trans ((below_drewN _ q).mono B3.out.size)⟩
set_option maxRecDepth 100000 in
set_option maxHeartbeats 1000000 in
theorem waits_many (B L : Int) (A : Option Addr) (cap n : Nat) (W : World) (h : GoodB B L) (hn : 300 < n) :
    Calls Try.prog 3 #[.int .i64 B, .int .i64 L, .slice A n cap] W (Holds W) := by
  have CU := Lib.hid (up_backoff W)
  have CN := Lib.hid (fun w => newB_good w B L h)
  have CG : Hid (∀ (w : World) (c : Nat), Wr w c B L 0 → Calls Try.prog 7 #[.pointer (some ⟨c, 0, none⟩)] w fun e w' => e = .returned (.bool true) ∧ ∃ q, w' = w.drewN q) := Lib.hid (fun w c hr => refB_yes hr h)
  have i3 : (300 : Int) < n := by omega
  clear h hn
  go_enter Try.func3, Try.ntmps3
  go_wp2_with fail
  refine CU.out.mono ?_
  rintro e w1 ⟨rfl, b1⟩
  have R1 := Lib.hid (wait_laid w1 B L)
  have B1 := Lib.hid (b1.alloc b1.size (waitR B L))
  go_wp2_with fail
  refine (CN.out _).mono ?_
  rintro e w2 ⟨rfl, h2, b2⟩
  have B2 := Lib.hid (B1.out.trans (b2.mono B1.out.size))
  have R2 := Lib.hid (R1.out.still b2)
  clear b1 b2 h2 CN CU B1 R1
  go_wp2_with fail
  refine (CG.out _ _ R2.out).mono ?_
  rintro e w3 ⟨rfl, q, rfl⟩
  go_wp2_with fail
  go_ret
  exact ⟨rfl, B2.out.trans ((below_drewN _ q).mono B2.out.size)⟩
/-- The program's wait and the document's side by side. -/
structure Tr (W w : World) (a c : Nat) (b l : Int) (n m : Nat) : Prop where
  p : Wp w a b l n
  r : Wr w c b l m
  bel : Below W.heap.size W w
  ha : W.heap.size ≤ a
  hc : W.heap.size ≤ c
  ne : a ≠ c
section
variable {W w w' : World} {a c : Nat} {b l : Int} {n m k : Nat}
theorem Tr.turnP (h : Tr W w a c b l n m) (t : Mwp w w' a b l k) : Tr W w' a c b l k m :=
  ⟨t.p, h.r.keeps t.kp (fun e => h.ne e.symm), h.bel.trans (t.kp.below (B := W.heap.size) (fun g e => by subst e; exact h.ha) h.bel.size), h.ha, h.hc, h.ne⟩
theorem Tr.turnR (h : Tr W w a c b l n m) (t : Mwr w w' c b l k) : Tr W w' a c b l n k :=
  ⟨h.p.keeps t.kp h.ne, t.p, h.bel.trans (t.kp.below (B := W.heap.size) (fun g e => by subst e; exact h.hc) h.bel.size), h.ha, h.hc, h.ne⟩
theorem Tr.drewN (h : Tr W w a c b l n m) (q : Nat) : Tr W (w.drewN q) a c b l n m :=
  ⟨h.p.drewN q, h.r.drewN q, h.bel.trans ((below_drewN w q).mono h.bel.size), h.ha, h.hc, h.ne⟩
theorem Tr.drew (h : Tr W w a c b l n m) : Tr W w.drew a c b l n m := h.drewN 1
end
set_option maxRecDepth 100000 in
set_option maxHeartbeats 4000000 in
theorem waits_walk (B L : Int) (A : Option Addr) (cap : Nat) (l : List Int) (W : World) (h : GoodB B L) (hA : RdI W A l) (hF : ∀ x ∈ l, InI x) (hl : l.length ≤ 300) :
    Calls Try.prog 3 #[.int .i64 B, .int .i64 L, .slice A l.length cap] W (Holds W) := by
  have CU := Lib.hid (up_backoff W)
  have CN := Lib.hid (fun w => newB_good w B L h)
  have CG : Hid (∀ (w : World) (c : Nat), Wr w c B L 0 → Calls Try.prog 7 #[.pointer (some ⟨c, 0, none⟩)] w fun e w' => e = .returned (.bool true) ∧ ∃ q, w' = w.drewN q) := Lib.hid (fun w c hr => refB_yes hr h)
  have HG := Lib.hid h
  have HA := Lib.hid hA
  have HF := Lib.hid hF
  obtain ⟨K, hK⟩ : ∃ K, l.length = K := ⟨_, rfl⟩
  have HK := Lib.hid hK
  rw [hK] at hl ⊢
  have i3 : ¬ (300 : Int) < K := by omega
  clear h hA hF hK
  go_enter Try.func3, Try.ntmps3
  go_wp2_with fail
  refine CU.out.mono ?_
  rintro e w1 ⟨rfl, b1⟩
  have R1 := Lib.hid (wait_laid w1 B L)
  have B1 := Lib.hid (b1.alloc b1.size (waitR B L))
  obtain ⟨c, hc⟩ : ∃ c, w1.heap.size = c := ⟨_, rfl⟩
  have HC : Hid (W.heap.size ≤ c) := Lib.hid (by rw [← hc]; exact b1.size)
  rw [hc] at R1
  go_wp2_with fail
  refine (CN.out _).mono ?_
  rintro e w2 ⟨rfl, h2, b2⟩
  have B2 := Lib.hid (B1.out.trans (b2.mono B1.out.size))
  have R2 := Lib.hid (R1.out.still b2)
  obtain ⟨a, ha⟩ : ∃ a, (w1.alloc (waitR B L)).heap.size = a := ⟨_, rfl⟩
  rw [ha] at h2
  have S2 : Hid (Tr W w2 a c B L 0 0) := Lib.hid ⟨h2, R2.out, B2.out, by rw [← ha]; exact B1.out.size, HC.out, by have := R1.out.lt; omega⟩
  rw [ha]
  clear b1 b2 h2 CN CU B1 R1 B2 ha hc
  go_wp2_with fail
  refine (CG.out _ _ R2.out).mono ?_
  rintro e w3 ⟨rfl, q, e3⟩
  have S3 : Hid (Tr W w3 a c B L 0 0) := Lib.hid (by rw [e3]; exact S2.out.drewN q)
  clear e3 CG S2 R2
  go_wp2_with fail
  go_loopg [11] K (fun g s11 wx => ∃ (i n : Nat), i + g = K ∧ s11 = .int .i64 (i : Nat) ∧ n ≤ i ∧ Hid (Tr W wx a c B L n n))
  case atStart => exact ⟨0, 0, by omega, rfl, Nat.le_refl _, S3⟩
  case round =>
    clear S3
    obtain ⟨i, n, hi, rfl, hn, HS⟩ := hrel
    cases gk with
    | zero =>
      have x1 : ¬ i < K := by omega
      go_wp2_with fail
      go_ret
      exact ⟨rfl, HS.out.bel⟩
    | succ g =>
      have x1 : i < K := by omega
      obtain ⟨d, hd⟩ : ∃ d, l[i]? = some d := ⟨l[i]'(by have := HK.out; omega), List.getElem?_eq_getElem _⟩
      obtain ⟨d0, d1⟩ := HF.out d (List.mem_of_getElem? hd)
      obtain ⟨b0, o, rfl, hat⟩ := HA.out.at hd
      have PC : Hid (∀ w n m, Tr W w a c B L n m → w.cell? ⟨b0, o + i, none⟩ = some (.int .i64 d)) := Lib.hid (fun w n m t => hat _ t.bel)
      have p0 := PC.out _ _ _ HS.out
      have HI := Lib.hid hi
      have CL : Hid (∀ w k m, Tr W w a c B L k m → Calls Try.prog 11 #[.pointer (some ⟨a, 0, none⟩)] w fun e w' => e = .returned (.int .i64 (k : Nat)) ∧ w = w') := Lib.hid (fun w k m t => fails_walk t.p)
      by_cases e : d = -1
      · subst e
        have CG : Hid (Calls Try.prog 8 #[.pointer (some ⟨a, 0, none⟩)] wr fun e w' => e = .returned (.tuple #[]) ∧ Tr W w' a c B L 0 n) := Lib.hid ((goodB_walk HS.out.p).mono (fun e w' k => ⟨k.1, HS.out.turnP k.2⟩))
        clear hd hat hi d0 d1
        go_wp2_with fail
        refine CG.out.mono ?_
        rintro e w4 ⟨rfl, t4⟩
        have c2 := t4.r.c2
        have f2 := t4.r.fr 2
        have S4 : Hid (Tr W (w4.setCell ⟨c, 2, none⟩ (.int .i64 ((0 : Nat) : Int))) a c B L 0 0) := Lib.hid (t4.turnR ((Mwr.refl t4.r).set2 0))
        clear t4 CG
        go_wp2_with fail
        clear c2 f2
        generalize w4.setCell ⟨c, 2, none⟩ (.int .i64 0) = w5 at *
        have H5 : Hid (Tr W w5 a c B L 0 0) := S4
        have D5 := Lib.hid H5.out.drew
        have r5 : w5.cell? ⟨c, 2, none⟩ = some (.int .i64 0) := H5.out.r.c2
        clear S4
        go_region_law (first
          | (go_simp; go_at_call 11; ((with_reducible refine (CL.out _ _ _ D5.out).mono ?_); rintro e w6 ⟨rfl, rfl⟩))
          | fail)
        all_goals
          go_wp2_with fail
          go_roundg g
          case rel => exact ⟨i + 1, 0, by have := HI.out; omega, by go_num, by omega, D5⟩
          case measure => omega
      · obtain ⟨q, hq⟩ : ∃ q, jitZ d (bwZ B L n) = q := ⟨_, rfl⟩
        have CP : Hid (∀ w m, Tr W w a c B L n m → Calls Try.prog 9 #[.pointer (some ⟨a, 0, none⟩), .int .i64 d] w fun e w' => e = .returned (.int .i64 q) ∧ Tr W w' a c B L (n + 1) m) := Lib.hid (fun w m t => by
          have := fail_walk t.p HG.out (by omega) d d0 d1
          rw [hq] at this
          exact this.mono (fun e w' k => ⟨k.1, t.turnP k.2⟩))
        have CR : Hid (∀ w m, Tr W w a c B L m n → Calls Try.prog 10 #[.pointer (some ⟨c, 0, none⟩), .int .i64 d] w fun e w' => e = .returned (.int .i64 q) ∧ Tr W w' a c B L m (n + 1)) := Lib.hid (fun w m t => by
          have := ref_fail t.r HG.out (by omega) d d0 d1
          rw [hq] at this
          exact this.mono (fun e w' k => ⟨k.1, t.turnR k.2⟩))
        have H0 := Lib.hid HS.out.drew
        have q0 := Lib.hid (PC.out _ _ _ H0.out)
        clear hd hat hi hq
        go_wp2_with fail
        go_region_law (first
          | (go_simp; go_at_call 9; first
              | ((with_reducible refine (CP.out _ _ H0.out).mono ?_); rintro e w3 ⟨rfl, t3⟩; have q3 := PC.out _ _ _ t3; have H3 := Lib.hid t3; clear t3)
              | ((with_reducible refine (CP.out _ _ H3.out).mono ?_); rintro e w4 ⟨rfl, t4⟩; have q4 := PC.out _ _ _ t4; have H4 := Lib.hid t4; clear t4))
          | (go_simp; go_at_call 10; first
              | ((with_reducible refine (CR.out _ _ H0.out).mono ?_); rintro e w3 ⟨rfl, t3⟩; have q3 := PC.out _ _ _ t3; have H3 := Lib.hid t3; clear t3)
              | ((with_reducible refine (CR.out _ _ H3.out).mono ?_); rintro e w4 ⟨rfl, t4⟩; have q4 := PC.out _ _ _ t4; have H4 := Lib.hid t4; clear t4))
          | fail)
        all_goals
          go_wp2_with fail
          have D4 := Lib.hid H4.out.drew
          have r5 : w4.cell? ⟨c, 2, none⟩ = some (.int .i64 ((n + 1 : Nat) : Int)) := H4.out.r.c2
          clear CP CR H0 H3 q0 q3 q4
          go_region_law (first
            | (go_simp; go_at_call 11; ((with_reducible refine (CL.out _ _ _ D4.out).mono ?_); rintro e w6 ⟨rfl, rfl⟩))
            | fail)
          all_goals
            go_wp2_with fail
            go_roundg g
            case rel => exact ⟨i + 1, n + 1, by have := HI.out; omega, by go_num, by omega, D4⟩
            case measure => omega
end Go.Proofs.Ytkomhdlblhhdgaa
