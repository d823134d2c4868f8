/-
  Layer 23: the law FusePlays.
-/
import Derived.Test.YtihloamiibelgaaFuseUp
import Derived.Test.YtihloamiibelgaaPairsF
import Derived.Deep.LoopGhost
import Derived.Deep.Cut
import Derived.Deep.CutRange
import Derived.Deep.RegionHeldLaw
namespace Go.Proofs.Ytihloamiibelgaa
open Go.ChangeShapes Go.WideShapes Go.ChangeAt Go.RowKit Go.Deep
set_option linter.unusedVariables false

theorem neq_codes (w : World) (a b : Int) : (binOp .neq 29 (.iface 32 (.int .i64 a)) (.iface 32 (.int .i64 b))).run Try.prog w = .ok (.bool (!(a == b))) w := by
  obtain ⟨i, hi, hcmp⟩ := Option.map_eq_some_iff.1 compC
  simp only [binOp]
  simp [Op.equal, Op.maxDepth, equalIn_ints (P := Try.prog) w 9998 a b Try.underlying29 Try.underlying32 hi hcmp]
theorem ret_intF {a b : Int} (h : a = b) : Ending.returned (.int .i64 a) = .returned (.int .i64 b) := by rw [h]
/-- One of three. -/
def pickF (c : Int) : Int := if c < 0 then (-(c + 1)) % 3 else c % 3
theorem pickF_lt (c : Int) : pickF c = 0 ∨ pickF c = 1 ∨ pickF c = 2 := by
  unfold pickF
  split <;> omega
theorem pickF_walk (w : World) (c : Int) (c0 : -9223372036854775808 ≤ c) (c1 : c ≤ 9223372036854775807) :
    Calls Try.prog 8 #[.int .i64 c, .int .i64 3] w fun e w' => e = .returned (.int .i64 (pickF c)) ∧ w = w' := by
  by_cases hc : c < 0
  · have e : (-(c + 1)).tmod 3 = pickF c := by
      rw [Int.tmod_eq_emod_of_nonneg (by omega)]; unfold pickF; rw [if_pos hc]
    have t := Int.neg_tmod (a := c + 1) (b := 3)
    generalize pickF c = p at *
    have z1 : IntKind.i64.wrap (c + 1) = c + 1 := by rw [IntKind.wrap_i64]; omega
    have z2 : IntKind.i64.wrap (-(c + 1)) = -(c + 1) := by rw [IntKind.wrap_i64]; omega
    go_enter Try.func8, Try.ntmps8
    go_wp2_with fail
    go_ret
    exact ⟨ret_intF (by first | exact e | omega), rfl⟩
  · have e : c.tmod 3 = pickF c := by
      rw [Int.tmod_eq_emod_of_nonneg (by omega)]; unfold pickF; rw [if_neg hc]
    generalize pickF c = p at *
    go_enter Try.func8, Try.ntmps8
    go_wp2_with fail
    go_ret
    exact ⟨ret_intF (by first | exact e | omega), rfl⟩
/-- The document's fuse laid by itself. -/
abbrev fuseR (b p : Int) : Obj := .cells #[.int .i64 b, .int .i64 p, .int .i64 0, .int .i64 0, .int .i64 0] 26 (0, 0)
theorem fuse_laid (w : World) (b p : Int) : Fb 26 (w.alloc (fuseR b p)) w.heap.size b p Fz.new := heap_alloc_new w _
set_option maxRecDepth 100000 in
set_option maxHeartbeats 1000000 in
theorem plays_bad (B P : Int) (A : Option Addr) (cap n : Nat) (W : World) (h : ¬ GoodF B P) :
    Calls Try.prog 3 #[.int .i64 B, .int .i64 P, .slice A n cap] W (Holds W) := by
  have CU := Lib.hid (up_fuse W)
  have CN := Lib.hid (fun w => newF_bad w B P h)
  have CG := Lib.hid (fun w => refF_no (fuse_laid w B P) h)
  unfold errF at CN
  have eqc := eql_codes
  clear h
  go_enter Try.func3, Try.ntmps3
  go_wp2_with fail
  refine CU.out.mono ?_
  rintro e w1 ⟨rfl, b1⟩
  go_wp2_with fail
  refine (CN.out _).mono ?_
  rintro e w2 ⟨rfl, rfl⟩
  go_wp2_with fail
  refine (CG.out _).mono ?_
  rintro e w3 ⟨rfl, q, rfl⟩
  have B3 := Lib.hid (b1.alloc b1.size (fuseR B P))
  go_wp2_with fail
  go_ret
  exact ⟨rfl, B3.out.trans ((below_drewN _ q).mono B3.out.size)⟩
set_option maxRecDepth 100000 in
set_option maxHeartbeats 1000000 in
theorem plays_many (B P : Int) (A : Option Addr) (cap n : Nat) (W : World) (h : GoodF B P) (hn : 2000 < n) :
    Calls Try.prog 3 #[.int .i64 B, .int .i64 P, .slice A n cap] W (Holds W) := by
  have CU := Lib.hid (up_fuse W)
  have CN := Lib.hid (fun w => newF_good w B P h)
  have CG : Hid (∀ (w : World) (c : Nat), Fb 26 w c B P Fz.new → Calls Try.prog 7 #[.pointer (some ⟨c, 0, none⟩)] w fun e w' => e = .returned (.bool true) ∧ ∃ q, w' = w.drewN q) := Lib.hid (fun w c hr => refF_yes hr h)
  have i3 : (2000 : Int) < n := by omega
  clear h hn
  go_enter Try.func3, Try.ntmps3
  go_wp2_with fail
  refine CU.out.mono ?_
  rintro e w1 ⟨rfl, b1⟩
  have R1 := Lib.hid (fuse_laid w1 B P)
  have B1 := Lib.hid (b1.alloc b1.size (fuseR B P))
  go_wp2_with fail
  refine (CN.out _).mono ?_
  rintro e w2 ⟨rfl, h2, b2⟩
  have B2 := Lib.hid (B1.out.trans (b2.mono B1.out.size))
  have R2 := Lib.hid (R1.out.still b2)
  clear b1 b2 h2 CN CU B1 R1
  go_wp2_with fail
  refine (CG.out _ _ R2.out).mono ?_
  rintro e w3 ⟨rfl, q, rfl⟩
  go_wp2_with fail
  go_ret
  exact ⟨rfl, B2.out.trans ((below_drewN _ q).mono B2.out.size)⟩
/-- The program's fuse and the document's side by side. -/
structure Tf (W w : World) (a c : Nat) (b p : Int) (s r : Fz) : Prop where
  f : Fb 44 w a b p s
  r : Fb 26 w c b p r
  bel : Below W.heap.size W w
  ha : W.heap.size ≤ a
  hc : W.heap.size ≤ c
  ne : a ≠ c
section
variable {W w w' : World} {a c : Nat} {b p : Int} {s r k : Fz}
theorem Tf.turnP (h : Tf W w a c b p s r) (t : Mf 44 w w' a b p k) : Tf W w' a c b p k r :=
  ⟨t.f, h.r.keeps t.kp (fun e => h.ne e.symm), h.bel.trans (t.kp.below (B := W.heap.size) (fun g e => by subst e; exact h.ha) h.bel.size), h.ha, h.hc, h.ne⟩
theorem Tf.turnR (h : Tf W w a c b p s r) (t : Mf 26 w w' c b p k) : Tf W w' a c b p s k :=
  ⟨h.f.keeps t.kp h.ne, t.f, h.bel.trans (t.kp.below (B := W.heap.size) (fun g e => by subst e; exact h.hc) h.bel.size), h.ha, h.hc, h.ne⟩
theorem Tf.drewN (h : Tf W w a c b p s r) (q : Nat) : Tf W (w.drewN q) a c b p s r :=
  ⟨h.f.drewN q, h.r.drewN q, h.bel.trans ((below_drewN w q).mono h.bel.size), h.ha, h.hc, h.ne⟩
theorem Tf.drew (h : Tf W w a c b p s r) : Tf W w.drew a c b p s r := h.drewN 1
end
set_option maxRecDepth 100000 in
set_option maxHeartbeats 4000000 in
theorem plays_walk (B P : Int) (A : Option Addr) (cap : Nat) (l : List (Int × Int)) (W : World) (h : GoodF B P) (hA : RdP W A l) (hF : WideP l) (hl : l.length ≤ 2000) :
    Calls Try.prog 3 #[.int .i64 B, .int .i64 P, .slice A l.length cap] W (Holds W) := by
  have CU := Lib.hid (up_fuse W)
  have CN := Lib.hid (fun w => newF_good w B P h)
  have CG : Hid (∀ (w : World) (c : Nat), Fb 26 w c B P Fz.new → Calls Try.prog 7 #[.pointer (some ⟨c, 0, none⟩)] w fun e w' => e = .returned (.bool true) ∧ ∃ q, w' = w.drewN q) := Lib.hid (fun w c hr => refF_yes hr h)
  have HG := Lib.hid h
  have HA := Lib.hid hA
  have HF := Lib.hid hF
  obtain ⟨K, hK⟩ : ∃ K, l.length = K := ⟨_, rfl⟩
  have HK := Lib.hid hK
  rw [hK] at hl ⊢
  have i3 : ¬ (2000 : Int) < K := by omega
  clear h hA hF hK
  go_enter Try.func3, Try.ntmps3
  go_wp2_with fail
  refine CU.out.mono ?_
  rintro e w1 ⟨rfl, b1⟩
  have R1 := Lib.hid (fuse_laid w1 B P)
  have B1 := Lib.hid (b1.alloc b1.size (fuseR B P))
  obtain ⟨c, hc⟩ : ∃ c, w1.heap.size = c := ⟨_, rfl⟩
  have HC : Hid (W.heap.size ≤ c) := Lib.hid (by rw [← hc]; exact b1.size)
  rw [hc] at R1
  go_wp2_with fail
  refine (CN.out _).mono ?_
  rintro e w2 ⟨rfl, h2, b2⟩
  have B2 := Lib.hid (B1.out.trans (b2.mono B1.out.size))
  have R2 := Lib.hid (R1.out.still b2)
  obtain ⟨a, ha⟩ : ∃ a, (w1.alloc (fuseR B P)).heap.size = a := ⟨_, rfl⟩
  rw [ha] at h2
  have S2 : Hid (Tf W w2 a c B P Fz.new Fz.new) := Lib.hid ⟨h2, R2.out, B2.out, by rw [← ha]; exact B1.out.size, HC.out, by have := R1.out.lt; omega⟩
  rw [ha]
  clear b1 b2 h2 CN CU B1 R1 B2 ha hc
  go_wp2_with fail
  refine (CG.out _ _ R2.out).mono ?_
  rintro e w3 ⟨rfl, q, e3⟩
  have S3 : Hid (Tf W w3 a c B P Fz.new Fz.new) := Lib.hid (by rw [e3]; exact S2.out.drewN q)
  clear e3 CG S2 R2
  go_wp2_with fail
  have OK0 : Hid (FzOk B Fz.new) := Lib.hid (FzOk.new HG.out)
  go_loopg [11] K (fun g s11 wx => ∃ (i : Nat) (s : Fz), i + g = K ∧ s11 = .int .i64 (i : Nat) ∧ Hid (FzOk B s) ∧ Hid (Tf W wx a c B P s s))
  case atStart => exact ⟨0, _, by omega, rfl, OK0, S3⟩
  case round =>
    clear S3 OK0
    obtain ⟨i, s, hi, rfl, HO, HS⟩ := hrel
    cases gk with
    | zero =>
      have x1 : ¬ i < K := by omega
      go_wp2_with fail
      go_ret
      exact ⟨rfl, HS.out.bel⟩
    | succ g =>
      have x1 : i < K := by omega
      obtain ⟨⟨d, n⟩, hd⟩ : ∃ d, l[i]? = some d := ⟨l[i]'(by have := HK.out; omega), List.getElem?_eq_getElem _⟩
      obtain ⟨d0, d1, n0, n1⟩ := HF.out d n (List.mem_of_getElem? hd)
      obtain ⟨b0, o, rfl, hat⟩ := HA.out.at hd
      have PC : Hid (∀ w s r, Tf W w a c B P s r → w.cell? ⟨b0, o + i * 2, none⟩ = some (.int .i64 d) ∧ w.cell? ⟨b0, o + i * 2 + 1, none⟩ = some (.int .i64 n)) := Lib.hid (fun w s r t => hat _ t.bel)
      obtain ⟨p0, p1⟩ := PC.out _ _ _ HS.out
      have HI := Lib.hid hi
      have CK : Hid (∀ w, Calls Try.prog 8 #[.int .i64 d, .int .i64 3] w fun e w' => e = .returned (.int .i64 (pickF d)) ∧ w = w') := Lib.hid (fun w => pickF_walk w d d0 d1)
      have CL : Hid (∀ w s r (z : Int), Tf W w a c B P s r → ((s.st : Nat) : Int) = z → Calls Try.prog 15 #[.pointer (some ⟨a, 0, none⟩)] w fun e w' => e = .returned (.int .i64 z) ∧ w = w') := Lib.hid (fun w s r z t e => by subst e; exact state_walk t.f)
      have hk := pickF_lt d
      obtain ⟨z, hz⟩ : ∃ z, pickF d = z := ⟨_, rfl⟩
      rw [hz] at CK hk
      clear hz hd hat hi
      rcases hk with rfl | rfl | rfl
      · by_cases hy : YesF P s n
        · obtain ⟨s', hs'⟩ : ∃ s', askF P s n = s' := ⟨_, rfl⟩
          have HS' := Lib.hid hs'
          obtain ⟨t, ht⟩ : ∃ t : Int, ((s'.st : Nat) : Int) = t := ⟨_, rfl⟩
          have HT := Lib.hid ht
          have OK : Hid (FzOk B s') := Lib.hid (hs' ▸ HO.out.ask P n)
          clear hs' ht
          have CP : Hid (∀ w r, Tf W w a c B P s r → Calls Try.prog 9 #[.pointer (some ⟨a, 0, none⟩), .int .i64 n] w fun e w' => e = .returned (.nilIface) ∧ Tf W w' a c B P s' r) := Lib.hid (fun w r t => by
            have := ask_walk t.f HG.out HO.out n n0 n1
            rw [askV_yes hy, HS'.out] at this
            exact this.mono (fun e w' k => ⟨k.1, t.turnP k.2⟩))
          have CR : Hid (∀ w r, Tf W w a c B P r s → Calls Try.prog 10 #[.pointer (some ⟨c, 0, none⟩), .int .i64 n] w fun e w' => e = .returned (.bool true) ∧ Tf W w' a c B P r s') := Lib.hid (fun w r t => by
            have := ref_ask t.r HG.out HO.out n n0 n1
            rw [decide_eq_true hy, HS'.out] at this
            exact this.mono (fun e w' k => ⟨k.1, t.turnR k.2⟩))
          go_wp2_with fail
          refine (CK.out _).mono ?_
          rintro e w2 ⟨rfl, rfl⟩
          go_wp2_with fail
          refine (CP.out _ _ HS.out).mono ?_
          rintro e w3 ⟨rfl, t3⟩
          obtain ⟨p0, p1⟩ := PC.out _ _ _ t3
          have H3 := Lib.hid t3
          clear t3 HS
          go_wp2_with fail
          refine (CR.out _ _ H3.out).mono ?_
          rintro e w4 ⟨rfl, t4⟩
          have H4 := Lib.hid t4
          clear t4
          go_wp2_with fail
          clear CP CR H3 p0 p1
          have D4 := Lib.hid H4.out.drew
          have r2 : w4.cell? ⟨c, 2, none⟩ = some (.int .i64 t) := by rw [← HT.out]; exact H4.out.r.c2
          go_region_law (first
            | (go_simp; go_at_call 15; ((with_reducible refine (CL.out _ _ _ _ D4.out HT.out).mono ?_); rintro e w6 ⟨rfl, rfl⟩))
            | fail)
          all_goals
            go_wp2_with fail
            go_roundg g
            case rel => exact ⟨i + 1, s', by have := HI.out; omega, by go_num, OK, D4⟩
            case measure => omega
        · obtain ⟨s', hs'⟩ : ∃ s', askF P s n = s' := ⟨_, rfl⟩
          have HS' := Lib.hid hs'
          obtain ⟨t, ht⟩ : ∃ t : Int, ((s'.st : Nat) : Int) = t := ⟨_, rfl⟩
          have HT := Lib.hid ht
          have OK : Hid (FzOk B s') := Lib.hid (hs' ▸ HO.out.ask P n)
          clear hs' ht
          have CP : Hid (∀ w r, Tf W w a c B P s r → Calls Try.prog 9 #[.pointer (some ⟨a, 0, none⟩), .int .i64 n] w fun e w' => e = .returned (.iface 32 (.int .i64 9)) ∧ Tf W w' a c B P s' r) := Lib.hid (fun w r t => by
            have := ask_walk t.f HG.out HO.out n n0 n1
            rw [askV_no hy, HS'.out] at this
            exact this.mono (fun e w' k => ⟨k.1, t.turnP k.2⟩))
          have CR : Hid (∀ w r, Tf W w a c B P r s → Calls Try.prog 10 #[.pointer (some ⟨c, 0, none⟩), .int .i64 n] w fun e w' => e = .returned (.bool false) ∧ Tf W w' a c B P r s') := Lib.hid (fun w r t => by
            have := ref_ask t.r HG.out HO.out n n0 n1
            rw [decide_eq_false hy, HS'.out] at this
            exact this.mono (fun e w' k => ⟨k.1, t.turnR k.2⟩))
          go_wp2_with fail
          refine (CK.out _).mono ?_
          rintro e w2 ⟨rfl, rfl⟩
          go_wp2_with fail
          refine (CP.out _ _ HS.out).mono ?_
          rintro e w3 ⟨rfl, t3⟩
          obtain ⟨p0, p1⟩ := PC.out _ _ _ t3
          have H3 := Lib.hid t3
          clear t3 HS
          go_wp2_with fail
          refine (CR.out _ _ H3.out).mono ?_
          rintro e w4 ⟨rfl, t4⟩
          have H4 := Lib.hid t4
          clear t4
          have nec := neq_codes
          have zc : ((9 : Int) == (9 : Int)) = true := rfl
          go_wp2_with fail
          clear CP CR H3 p0 p1
          have D4 := Lib.hid H4.out.drew
          have r2 : w4.cell? ⟨c, 2, none⟩ = some (.int .i64 t) := by rw [← HT.out]; exact H4.out.r.c2
          go_region_law (first
            | (go_simp; go_at_call 15; ((with_reducible refine (CL.out _ _ _ _ D4.out HT.out).mono ?_); rintro e w6 ⟨rfl, rfl⟩))
            | fail)
          all_goals
            go_wp2_with fail
            go_roundg g
            case rel => exact ⟨i + 1, s', by have := HI.out; omega, by go_num, OK, D4⟩
            case measure => omega
      · obtain ⟨s', hs'⟩ : ∃ s', goodF s = s' := ⟨_, rfl⟩
        have HS' := Lib.hid hs'
        obtain ⟨t, ht⟩ : ∃ t : Int, ((s'.st : Nat) : Int) = t := ⟨_, rfl⟩
        have HT := Lib.hid ht
        have OK : Hid (FzOk B s') := Lib.hid (hs' ▸ HO.out.good HG.out)
        clear hs' ht
        have CP : Hid (∀ w r, Tf W w a c B P s r → Calls Try.prog 11 #[.pointer (some ⟨a, 0, none⟩)] w fun e w' => e = .returned (.tuple #[]) ∧ Tf W w' a c B P s' r) := Lib.hid (fun w r t => by
          have := good_walk t.f
          rw [HS'.out] at this
          exact this.mono (fun e w' k => ⟨k.1, t.turnP k.2⟩))
        have CR : Hid (∀ w r, Tf W w a c B P r s → Calls Try.prog 12 #[.pointer (some ⟨c, 0, none⟩)] w fun e w' => e = .returned (.tuple #[]) ∧ Tf W w' a c B P r s') := Lib.hid (fun w r t => by
          have := ref_well t.r
          rw [HS'.out] at this
          exact this.mono (fun e w' k => ⟨k.1, t.turnR k.2⟩))
        go_wp2_with fail
        refine (CK.out _).mono ?_
        rintro e w2 ⟨rfl, rfl⟩
        go_wp2_with fail
        refine (CP.out _ _ HS.out).mono ?_
        rintro e w3 ⟨rfl, t3⟩
        obtain ⟨p0, p1⟩ := PC.out _ _ _ t3
        have H3 := Lib.hid t3
        clear t3 HS
        go_wp2_with fail
        refine (CR.out _ _ H3.out).mono ?_
        rintro e w4 ⟨rfl, t4⟩
        have H4 := Lib.hid t4
        clear t4
        go_wp2_with fail
        clear CP CR H3 p0 p1
        have D4 := Lib.hid H4.out.drew
        have r2 : w4.cell? ⟨c, 2, none⟩ = some (.int .i64 t) := by rw [← HT.out]; exact H4.out.r.c2
        go_region_law (first
          | (go_simp; go_at_call 15; ((with_reducible refine (CL.out _ _ _ _ D4.out HT.out).mono ?_); rintro e w6 ⟨rfl, rfl⟩))
          | fail)
        all_goals
          go_wp2_with fail
          go_roundg g
          case rel => exact ⟨i + 1, s', by have := HI.out; omega, by go_num, OK, D4⟩
          case measure => omega
      · obtain ⟨s', hs'⟩ : ∃ s', badF B s n = s' := ⟨_, rfl⟩
        have HS' := Lib.hid hs'
        obtain ⟨t, ht⟩ : ∃ t : Int, ((s'.st : Nat) : Int) = t := ⟨_, rfl⟩
        have HT := Lib.hid ht
        have OK : Hid (FzOk B s') := Lib.hid (hs' ▸ HO.out.bad HG.out n)
        clear hs' ht
        have CP : Hid (∀ w r, Tf W w a c B P s r → Calls Try.prog 13 #[.pointer (some ⟨a, 0, none⟩), .int .i64 n] w fun e w' => e = .returned (.tuple #[]) ∧ Tf W w' a c B P s' r) := Lib.hid (fun w r t => by
          have := bad_walk t.f HG.out HO.out n n0 n1
          rw [HS'.out] at this
          exact this.mono (fun e w' k => ⟨k.1, t.turnP k.2⟩))
        have CR : Hid (∀ w r, Tf W w a c B P r s → Calls Try.prog 14 #[.pointer (some ⟨c, 0, none⟩), .int .i64 n] w fun e w' => e = .returned (.tuple #[]) ∧ Tf W w' a c B P r s') := Lib.hid (fun w r t => by
          have := ref_bad t.r HG.out HO.out n n0 n1
          rw [HS'.out] at this
          exact this.mono (fun e w' k => ⟨k.1, t.turnR k.2⟩))
        go_wp2_with fail
        refine (CK.out _).mono ?_
        rintro e w2 ⟨rfl, rfl⟩
        go_wp2_with fail
        refine (CP.out _ _ HS.out).mono ?_
        rintro e w3 ⟨rfl, t3⟩
        obtain ⟨p0, p1⟩ := PC.out _ _ _ t3
        have H3 := Lib.hid t3
        clear t3 HS
        go_wp2_with fail
        refine (CR.out _ _ H3.out).mono ?_
        rintro e w4 ⟨rfl, t4⟩
        have H4 := Lib.hid t4
        clear t4
        go_wp2_with fail
        clear CP CR H3 p0 p1
        have D4 := Lib.hid H4.out.drew
        have r2 : w4.cell? ⟨c, 2, none⟩ = some (.int .i64 t) := by rw [← HT.out]; exact H4.out.r.c2
        go_region_law (first
          | (go_simp; go_at_call 15; ((with_reducible refine (CL.out _ _ _ _ D4.out HT.out).mono ?_); rintro e w6 ⟨rfl, rfl⟩))
          | fail)
        all_goals
          go_wp2_with fail
          go_roundg g
          case rel => exact ⟨i + 1, s', by have := HI.out; omega, by go_num, OK, D4⟩
          case measure => omega
end Go.Proofs.Ytihloamiibelgaa
