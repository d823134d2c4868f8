/-
  Layer 16: the law LevelTells.
-/
import Derived.Test.YtppffnfldgoknaaLevelUp
import Derived.Test.YtppffnfldgoknaaLevelRef
import Derived.Test.YtppffnfldgoknaaLevelGood
import Derived.Test.YtppffnfldgoknaaTriples
import Derived.Deep.LoopGhost
import Derived.Deep.Cut
import Derived.Deep.CutRange
import Derived.Deep.RegionHeldLaw
namespace Go.Proofs.Ytppffnfldgoknaa
open Go.ChangeShapes Go.WideShapes Go.ChangeAt Go.RowKit Go.Deep
set_option linter.unusedVariables false

/-- The document's gauge laid by itself. -/
abbrev gaugeR (N low high hold : Int) : Obj := .cells #[.int .i64 N, .int .i64 low, .int .i64 high, .int .i64 hold, .int .i64 0, .int .i64 0] 31 (0, 0)
theorem gauge_laid (w : World) (N low high hold : Int) : Gr (w.alloc (gaugeR N low high hold)) w.heap.size N low high hold ⟨0, 0⟩ := heap_alloc_new w _
set_option maxRecDepth 100000 in
set_option maxHeartbeats 1000000 in
theorem tells_bad (N low high hold : Int) (A : Option Addr) (cap n : Nat) (W : World) (h : ¬ GoodL N low high hold) :
    Calls Try.prog 3 #[.int .i64 N, .int .i64 low, .int .i64 high, .int .i64 hold, .slice A n cap] W (Holds W) := by
  have CU := Lib.hid (up_level W)
  have CN := Lib.hid (fun w => new_bad w N low high hold h)
  have CG := Lib.hid (fun w => good_no (gauge_laid w N low high hold) h)
  unfold errL at CN
  have eqc := eql_codes
  clear h
  go_enter Try.func3, Try.ntmps3
  go_wp2_with fail
  refine CU.out.mono ?_
  rintro e w1 ⟨rfl, b1⟩
  go_wp2_with fail
  refine (CN.out _).mono ?_
  rintro e w2 ⟨rfl, rfl⟩
  go_wp2_with fail
  refine (CG.out _).mono ?_
  rintro e w3 ⟨rfl, q, rfl⟩
  have B3 := Lib.hid (b1.alloc b1.size (gaugeR N low high hold))
  go_wp2_with fail
  go_ret
  exact ⟨rfl, B3.out.trans ((below_drewN _ q).mono B3.out.size)⟩
set_option maxRecDepth 100000 in
set_option maxHeartbeats 1000000 in
theorem tells_many (N low high hold : Int) (A : Option Addr) (cap n : Nat) (W : World) (h : GoodL N low high hold) (hn : 2000 < n) :
    Calls Try.prog 3 #[.int .i64 N, .int .i64 low, .int .i64 high, .int .i64 hold, .slice A n cap] W (Holds W) := by
  have CU := Lib.hid (up_level W)
  have CN := Lib.hid (fun w => new_good w N low high hold _ h rfl)
  have CG := Lib.hid (fun w => good_yes (gauge_laid w N low high hold) h)
  have i3 : (2000 : Int) < n := by omega
  clear h hn
  go_enter Try.func3, Try.ntmps3
  go_wp2_with fail
  refine CU.out.mono ?_
  rintro e w1 ⟨rfl, b1⟩
  go_wp2_with fail
  refine (CN.out _).mono ?_
  rintro e w2 ⟨rfl, h2, b2⟩
  have B2 := Lib.hid (b1.trans (b2.mono b1.size))
  clear b1 b2 h2 CN CU
  go_wp2_with fail
  refine (CG.out _).mono ?_
  rintro e w3 ⟨rfl, q, rfl⟩
  have B3 := Lib.hid (B2.out.alloc B2.out.size (gaugeR N low high hold))
  go_wp2_with fail
  go_ret
  exact ⟨rfl, B3.out.trans ((below_drewN _ q).mono B3.out.size)⟩
/-- The program's gauge and the document's, side by side. -/
structure Tw (W w : World) (a b : Nat) (N low high hold m : Int) (sp sr : Ls) : Prop where
  g : Gp w a low high hold m sp
  r : Gr w b N low high hold sr
  bel : Below W.heap.size W w
  ha : W.heap.size ≤ a
  hb : W.heap.size ≤ b
  ne : a ≠ b
section
variable {W w w' : World} {a b : Nat} {N low high hold m : Int} {sp sr s' : Ls}
theorem Tw.turnP (h : Tw W w a b N low high hold m sp sr) (k : Mp w w' a low high hold m s') : Tw W w' a b N low high hold m s' sr :=
  ⟨k.gp, h.r.keeps k.kp (fun e => h.ne e.symm), h.bel.trans (k.kp.below (B := W.heap.size) (fun g e => by subst e; exact h.ha) h.bel.size), h.ha, h.hb, h.ne⟩
theorem Tw.turnR (h : Tw W w a b N low high hold m sp sr) (k : Mr w w' b N low high hold s') : Tw W w' a b N low high hold m sp s' :=
  ⟨h.g.keeps k.kp h.ne, k.gr, h.bel.trans (k.kp.below (B := W.heap.size) (fun g e => by subst e; exact h.hb) h.bel.size), h.ha, h.hb, h.ne⟩
theorem Tw.drewN (h : Tw W w a b N low high hold m sp sr) (n : Nat) : Tw W (w.drewN n) a b N low high hold m sp sr :=
  ⟨h.g.drewN n, h.r.drewN n, h.bel.trans ((below_drewN w n).mono h.bel.size), h.ha, h.hb, h.ne⟩
theorem Tw.drew (h : Tw W w a b N low high hold m sp sr) : Tw W w.drew a b N low high hold m sp sr := h.drewN 1
end
set_option maxRecDepth 100000 in
set_option maxHeartbeats 4000000 in
theorem tells_walk (N low high hold : Int) (A : Option Addr) (cap : Nat) (l : List Int) (W : World) (h : GoodL N low high hold) (hA : RdI W A l) (hl : l.length ≤ 2000) :
    Calls Try.prog 3 #[.int .i64 N, .int .i64 low, .int .i64 high, .int .i64 hold, .slice A l.length cap] W (Holds W) := by
  have CU := Lib.hid (up_level W)
  have CN := Lib.hid (fun w => new_good w N low high hold _ h rfl)
  have CG := Lib.hid (fun w => good_yes (gauge_laid w N low high hold) h)
  have HG := Lib.hid h
  have HA := Lib.hid hA
  obtain ⟨m, hm⟩ : ∃ m, N - 1 = m := ⟨_, rfl⟩
  have HM := Lib.hid hm
  obtain ⟨K, hK⟩ : ∃ K, l.length = K := ⟨_, rfl⟩
  have HK := Lib.hid hK
  rw [hm] at CN
  rw [hK] at hl ⊢
  have i3 : ¬ (2000 : Int) < K := by omega
  clear h hA hm hK
  go_enter Try.func3, Try.ntmps3
  go_wp2_with fail
  refine CU.out.mono ?_
  rintro e w1 ⟨rfl, b1⟩
  go_wp2_with fail
  refine (CN.out _).mono ?_
  rintro e w2 ⟨rfl, h2, b2⟩
  have B2 := Lib.hid (b1.trans (b2.mono b1.size))
  obtain ⟨a, ha⟩ : ∃ a, w1.heap.size = a := ⟨_, rfl⟩
  have HB : Hid (W.heap.size ≤ a) := Lib.hid (by rw [← ha]; exact b1.size)
  rw [ha] at h2 ⊢
  have H2 := Lib.hid h2
  clear b1 b2 h2 CN CU ha
  go_wp2_with fail
  refine (CG.out _).mono ?_
  rintro e w3 ⟨rfl, q, e3⟩
  obtain ⟨b, hb⟩ : ∃ b, w2.heap.size = b := ⟨_, rfl⟩
  have S3 : Hid (Tw W w3 a b N low high hold m ⟨0, 0⟩ ⟨0, 0⟩) := Lib.hid (by
    rw [e3]
    refine Tw.drewN ⟨H2.out.still ((Below.refl _ w2).alloc (Nat.le_refl _) _), by rw [← hb]; exact gauge_laid w2 N low high hold, B2.out.alloc B2.out.size _, HB.out, by rw [← hb]; exact B2.out.size, ?_⟩ q
    have := H2.out.lt
    omega)
  rw [hb]
  have O3 : Hid (LsOk N hold ⟨0, 0⟩) := Lib.hid (LsOk.calm HG.out)
  clear e3 hb CG H2 B2
  go_wp2_with fail
  go_loopg [15] K (fun g s15 wx => ∃ (i : Nat) (s : Ls), i + g = K ∧ s15 = .int .i64 (i : Nat) ∧ Hid (Tw W wx a b N low high hold m s s) ∧ Hid (LsOk N hold s))
  case atStart => exact ⟨0, ⟨0, 0⟩, by omega, rfl, S3, O3⟩
  case round =>
    clear S3 O3
    obtain ⟨i, s, hi, rfl, HS, HO⟩ := hrel
    cases gk with
    | zero =>
      have x1 : ¬ i < K := by omega
      go_wp2_with fail
      go_ret
      exact ⟨rfl, HS.out.bel⟩
    | succ g =>
      have x1 : i < K := by omega
      obtain ⟨d, hd⟩ : ∃ d, l[i]? = some d := ⟨l[i]'(by have := HK.out; omega), List.getElem?_eq_getElem _⟩
      obtain ⟨b0, o, rfl, hat⟩ := HA.out.at hd
      have HAT := Lib.hid hat
      have HI := Lib.hid hi
      obtain ⟨s', hs'⟩ : ∃ s', tellL N low high hold s d = s' := ⟨_, rfl⟩
      have HS' := Lib.hid hs'
      obtain ⟨n, hn⟩ : ∃ n, s'.is = n := ⟨_, rfl⟩
      have HN := Lib.hid hn
      have OK : Hid (LsOk N hold s') := Lib.hid (by rw [← hs']; exact HO.out.tell HG.out d)
      have CP : Hid (∀ w sr, Tw W w a b N low high hold m s sr → Calls Try.prog 8 #[.pointer (some ⟨a, 0, none⟩), .int .i64 d] w fun e w' => e = .returned (.int .i64 n) ∧ Tw W w' a b N low high hold m s' sr) := Lib.hid (fun w sr t => by
        have := tell_walk t.g HG.out HO.out HM.out.symm d
        rw [HS'.out] at this
        exact this.mono (fun e w' k => ⟨by rw [← HN.out]; exact k.1, t.turnP k.2⟩))
      have CR : Hid (∀ w sp, Tw W w a b N low high hold m sp s → Calls Try.prog 9 #[.pointer (some ⟨b, 0, none⟩), .int .i64 d] w fun e w' => e = .returned (.int .i64 n) ∧ Tw W w' a b N low high hold m sp s') := Lib.hid (fun w sp t => by
        have := ref_tell t.r HG.out HO.out d
        rw [HS'.out] at this
        exact this.mono (fun e w' k => ⟨by rw [← HN.out]; exact k.1, t.turnR k.2⟩))
      have CL : Hid (∀ w sr, Tw W w a b N low high hold m s' sr → Calls Try.prog 10 #[.pointer (some ⟨a, 0, none⟩)] w fun e w' => e = .returned (.int .i64 n) ∧ w = w') := Lib.hid (fun w sr t => by
        have := level_walk t.g
        rw [HN.out] at this
        exact this)
      have PC : Hid (∀ w sp sr, Tw W w a b N low high hold m sp sr → w.cell? ⟨b0, o + i, none⟩ = some (.int .i64 d)) := Lib.hid (fun w sp sr t => hat _ t.bel)
      have RC : Hid (∀ w sp, Tw W w a b N low high hold m sp s' → w.cell? ⟨b, 4, none⟩ = some (.int .i64 n)) := Lib.hid (fun w sp t => by rw [← HN.out]; exact t.r.c4)
      have H0 := Lib.hid HS.out.drew
      have p0 := PC.out _ _ _ HS.out
      have q0 := Lib.hid (PC.out _ _ _ H0.out)
      clear hd hat hi hs' hn
      go_wp2_with fail
      go_region_law (first
        | (go_simp; go_at_call 8; first
            | ((with_reducible refine (CP.out _ _ H0.out).mono ?_); rintro e w3 ⟨rfl, t3⟩; have q3 := PC.out _ _ _ t3; have H3 := Lib.hid t3; clear t3)
            | ((with_reducible refine (CP.out _ _ H3.out).mono ?_); rintro e w4 ⟨rfl, t4⟩; have q4 := PC.out _ _ _ t4; have r4 := RC.out _ _ t4; have H4 := Lib.hid t4; clear t4))
        | (go_simp; go_at_call 9; first
            | ((with_reducible refine (CR.out _ _ H0.out).mono ?_); rintro e w3 ⟨rfl, t3⟩; have q3 := PC.out _ _ _ t3; have H3 := Lib.hid t3; clear t3)
            | ((with_reducible refine (CR.out _ _ H3.out).mono ?_); rintro e w4 ⟨rfl, t4⟩; have q4 := PC.out _ _ _ t4; have r4 := RC.out _ _ t4; have H4 := Lib.hid t4; clear t4))
        | (go_simp; go_at_call 10; ((with_reducible refine (CL.out _ _ H4.out).mono ?_); rintro e w5 ⟨rfl, rfl⟩))
        | fail)
      all_goals
        go_wp2_with fail
        go_roundg g
        case rel => exact ⟨i + 1, s', by have := HI.out; omega, by go_num, H4, OK⟩
        case measure => omega
end Go.Proofs.Ytppffnfldgoknaa
