/-
  Layer 19: the law MarkOn.
-/
import Derived.Test.YtkmgifmfobopoaaMarkUp
import Derived.Test.YtkmgifmfobopoaaDbis
import Derived.Test.YtkmgifmfobopoaaTake
import Derived.Deep.LoopGhost
import Derived.Deep.Cut
import Derived.Deep.CutRange
import Derived.Deep.RegionHeldLaw
namespace Go.Proofs.Ytkmgifmfobopoaa
open Go.ChangeShapes Go.WideShapes Go.ChangeAt Go.RowKit Go.Deep
set_option linter.unusedVariables false

set_option maxRecDepth 100000 in
set_option maxHeartbeats 1000000 in
theorem on_bad (L I : Int) (A : Option Addr) (cap n : Nat) (W : World) (h : ¬ GoodM L I) :
    Calls Try.prog 4 #[.int .i64 L, .int .i64 I, .slice A n cap] W (Holds W) := by
  have CU := Lib.hid (up_mark W)
  have CN := Lib.hid (fun w => new_bad w h)
  unfold errM at CN
  clear h
  go_enter Try.func4, Try.ntmps4
  go_wp2_with fail
  refine CU.out.mono ?_
  rintro e w1 ⟨rfl, b1⟩
  go_wp2_with fail
  refine (CN.out _).mono ?_
  rintro e w2 ⟨rfl, rfl⟩
  go_wp2_with fail
  refine (CN.out _).mono ?_
  rintro e w2 ⟨rfl, rfl⟩
  go_wp2_with fail
  go_ret
  exact ⟨rfl, b1⟩
/-- Two marks of the program, side by side. -/
structure Two (W w : World) (a b : Nat) (L I : Int) (s n : Mk) : Prop where
  g : Gp w a L I s
  h : Gp w b L I n
  bel : Below W.heap.size W w
  ha : W.heap.size ≤ a
  hb : W.heap.size ≤ b
  ne : a ≠ b
section
variable {W w w' : World} {a b : Nat} {L I : Int} {s n s' : Mk}
theorem Two.turnA (h : Two W w a b L I s n) (k : Mp w w' a L I s') : Two W w' a b L I s' n :=
  ⟨k.gp, h.h.keeps k.kp (fun e => h.ne e.symm), h.bel.trans (k.kp.below (B := W.heap.size) (fun g e => by subst e; exact h.ha) h.bel.size), h.ha, h.hb, h.ne⟩
theorem Two.turnB (h : Two W w a b L I s n) (k : Mp w w' b L I s') : Two W w' a b L I s s' :=
  ⟨h.g.keeps k.kp h.ne, k.gp, h.bel.trans (k.kp.below (B := W.heap.size) (fun g e => by subst e; exact h.hb) h.bel.size), h.ha, h.hb, h.ne⟩
theorem Two.drewN (h : Two W w a b L I s n) (k : Nat) : Two W (w.drewN k) a b L I s n :=
  ⟨h.g.drewN k, h.h.drewN k, h.bel.trans ((below_drewN w k).mono h.bel.size), h.ha, h.hb, h.ne⟩
theorem Two.drew (h : Two W w a b L I s n) : Two W w.drew a b L I s n := h.drewN 1
end
/-- The greatest time told by itself (-1: none), and the mark's. -/
structure Most (m : Int) (n : Mk) : Prop where
  e : (m = -1 ∧ n.most = 0) ∨ (0 ≤ m ∧ n.most = m)
theorem Most.bd {m : Int} {n : Mk} (h : Most m n) (ok : MkOk n) : -1 ≤ m ∧ m ≤ 1099511627776 := by
  have := ok.m1
  rcases h.e with ⟨e, _⟩ | ⟨e, f⟩ <;> omega
theorem Most.no {m now time : Int} {n : Mk} (h : Most m n) (k : ¬ SeesM n now time) : Most m (seeM n now time) := by rw [see_no k]; exact h
theorem Most.less {m now time : Int} {n : Mk} (h : Most m n) (k : SeesM n now time) (y : ¬ m < time) : Most m (seeM n now time) := by
  rw [see_yes k]
  have := k.t.n0
  refine ⟨?_⟩
  rcases h.e with ⟨e, f⟩ | ⟨e, f⟩
  · omega
  · exact .inr ⟨e, by simp only; rw [if_neg (by omega)]; exact f⟩
theorem Most.more {m now time : Int} {n : Mk} (h : Most m n) (k : SeesM n now time) (y : m < time) : Most time (seeM n now time) := by
  rw [see_yes k]
  have := k.t.n0
  refine ⟨.inr ⟨this, ?_⟩⟩
  simp only
  rcases h.e with ⟨e, f⟩ | ⟨e, f⟩
  · split <;> omega
  · rw [if_pos (by omega)]
theorem Most.less_stands {m L I : Int} {n : Mk} (h : Most m n) (g : GoodM L I) (y : m < L) : standM L n = 0 := by
  have := g.l.n0
  unfold standM
  rcases h.e with ⟨e, f⟩ | ⟨e, f⟩ <;> split <;> omega
theorem Most.stands {m L I : Int} {n : Mk} (h : Most m n) (g : GoodM L I) (y : ¬ m < L) : standM L n = m - L := by
  have := g.l.n0
  unfold standM
  rcases h.e with ⟨e, f⟩ | ⟨e, f⟩ <;> split <;> omega
theorem stand_new {L I : Int} (g : GoodM L I) : standM L Mk.new = 0 := by
  have := g.l.n0
  unfold standM Mk.new
  simp only
  split <;> omega
set_option maxRecDepth 100000 in
set_option maxHeartbeats 1000000 in
theorem on_many (L I : Int) (A : Option Addr) (cap n : Nat) (W : World) (h : GoodM L I) (hn : 300 < n) :
    Calls Try.prog 4 #[.int .i64 L, .int .i64 I, .slice A n cap] W (Holds W) := by
  have CU := Lib.hid (up_mark W)
  have CN := Lib.hid (fun w => new_good w h)
  have i3 : (300 : Int) < n := by omega
  clear h hn
  go_enter Try.func4, Try.ntmps4
  go_wp2_with fail
  refine CU.out.mono ?_
  rintro e w1 ⟨rfl, b1⟩
  go_wp2_with fail
  refine (CN.out _).mono ?_
  rintro e w2 ⟨rfl, h2, b2⟩
  have B2 := Lib.hid (b1.trans (b2.mono b1.size))
  clear b1 b2 h2 CU
  go_wp2_with fail
  refine (CN.out _).mono ?_
  rintro e w3 ⟨rfl, h3, b3⟩
  have B3 := Lib.hid (B2.out.trans (b3.mono B2.out.size))
  clear b3 h3 CN B2
  go_wp2_with fail
  go_ret
  exact ⟨rfl, B3.out⟩
set_option maxRecDepth 100000 in
set_option maxHeartbeats 4000000 in
theorem on_walk (L I : Int) (A : Option Addr) (cap : Nat) (l : List Dbi) (W : World) (h : GoodM L I) (hA : RdB W A l) (hl : l.length ≤ 300) :
    Calls Try.prog 4 #[.int .i64 L, .int .i64 I, .slice A l.length cap] W (Holds W) := by
  have CU := Lib.hid (up_mark W)
  have CN := Lib.hid (fun w => new_good w h)
  have HG := Lib.hid h
  have HA := Lib.hid hA
  obtain ⟨K, hK⟩ : ∃ K, l.length = K := ⟨_, rfl⟩
  have HK := Lib.hid hK
  rw [hK] at hl ⊢
  have i3 : ¬ (300 : Int) < K := by omega
  clear h hA hK hl
  go_enter Try.func4, Try.ntmps4
  go_wp2_with fail
  refine CU.out.mono ?_
  rintro e w1 ⟨rfl, b1⟩
  go_wp2_with fail
  refine (CN.out _).mono ?_
  rintro e w2 ⟨rfl, h2, b2⟩
  obtain ⟨a, ha⟩ : ∃ a, w1.heap.size = a := ⟨_, rfl⟩
  have HB : Hid (W.heap.size ≤ a) := Lib.hid (by rw [← ha]; exact b1.size)
  have B2 := Lib.hid (b1.trans (b2.mono b1.size))
  rw [ha] at h2 ⊢
  have H2 := Lib.hid h2
  clear b1 b2 h2 CU ha
  go_wp2_with fail
  refine (CN.out _).mono ?_
  rintro e w3 ⟨rfl, h3, b3⟩
  obtain ⟨b, hb⟩ : ∃ b, w2.heap.size = b := ⟨_, rfl⟩
  rw [hb] at h3 ⊢
  have S3 : Hid (Two W w3 a b L I Mk.new Mk.new) := Lib.hid ⟨H2.out.still b3, h3, B2.out.trans (b3.mono B2.out.size), HB.out, by rw [← hb]; exact B2.out.size, by have := H2.out.lt; omega⟩
  have V3 : Hid (standM L Mk.new = 0) := Lib.hid (stand_new HG.out)
  have E3 : Hid (Most (-1) Mk.new) := Lib.hid ⟨.inl ⟨rfl, rfl⟩⟩
  clear b3 h3 hb CN H2 B2 HB
  go_wp2_with fail
  clear i3
  go_loopg [12, 13, 14] K (fun gk s12 s13 s14 wx => ∃ (i : Nat) (v m : Int) (s n : Mk), i + gk = K ∧ s12 = .int .i64 v ∧ s13 = .int .i64 m ∧ s14 = .int .i64 (i : Nat) ∧ Hid (Two W wx a b L I s n) ∧ Hid (standM L s = v) ∧ Hid (Most m n) ∧ Hid (MkOk s) ∧ Hid (MkOk n))
  case atStart => exact ⟨0, 0, -1, _, _, by omega, rfl, rfl, rfl, S3, V3, E3, Lib.hid MkOk.new, Lib.hid MkOk.new⟩
  case round =>
    clear S3 V3 E3
    obtain ⟨i, v, m, s, n, hi, rfl, rfl, rfl, HS, HV, HE, HO, HN⟩ := hrel
    cases gk with
    | zero =>
      have x1 : ¬ i < K := by omega
      have C1 := Lib.hid (at_walk HS.out.h HN.out HG.out)
      have z1 : IntKind.i64.wrap (m - L) = m - L := by
        have := HE.out.bd HN.out
        have := HG.out.l.n0
        have := HG.out.l.n1
        rw [IntKind.wrap_i64]; omega
      by_cases y : m < L
      · rw [HE.out.less_stands HG.out y] at C1
        clear hi
        go_wp2_with fail
        refine C1.out.mono ?_
        rintro e w4 ⟨rfl, k, rfl⟩
        go_wp2_with fail
        go_ret
        exact ⟨rfl, (HS.out.drewN k).bel⟩
      · rw [HE.out.stands HG.out y] at C1
        clear hi
        go_wp2_with fail
        refine C1.out.mono ?_
        rintro e w4 ⟨rfl, k, rfl⟩
        go_wp2_with fail
        go_ret
        exact ⟨rfl, (HS.out.drewN k).bel⟩
    | succ gk =>
      have x1 : i < K := by omega
      obtain ⟨⟨bt, now, time⟩, hd⟩ : ∃ d, l[i]? = some d := ⟨l[i]'(by have := HK.out; omega), List.getElem?_eq_getElem _⟩
      obtain ⟨b0, o, rfl, hat⟩ := HA.out.at hd
      dsimp only at hat
      have HAT := Lib.hid hat
      have HI := Lib.hid hi
      obtain ⟨p0, p1, p2⟩ := hat _ HS.out.bel
      clear hd hat hi
      cases bt with
      | true =>
        obtain ⟨s', hs⟩ : ∃ s', tickM I s now = s' := ⟨_, rfl⟩
        have C1 := Lib.hid (tick_walk HS.out.g HO.out HG.out now)
        have O1 : Hid (MkOk s') := Lib.hid (hs ▸ HO.out.tick I now)
        have hv : ¬ standM L s' < v := by
          have := stand_mono (L := L) (tick_most HO.out I now)
          rw [hs, HV.out] at this
          omega
        unfold Said at C1
        rw [hs] at C1
        obtain ⟨u, hu⟩ : ∃ u, standM L s' = u := ⟨_, rfl⟩
        rw [hu] at hv
        have HU := Lib.hid hu
        clear hs hu
        go_wp2_with fail
        refine C1.out.mono ?_
        rintro e w4 ⟨rfl, m4⟩
        have S4 := Lib.hid (HS.out.turnA m4)
        have CA := Lib.hid (fun k => at_walk (S4.out.g.drewN k) O1.out HG.out)
        rw [HU.out] at CA
        clear m4 C1 HS
        go_wp2_with fail
        refine (CA.out 0).mono ?_
        rintro e w5 ⟨rfl, k, rfl⟩
        go_wp2_with fail
        refine (CA.out k).mono ?_
        rintro e w5 ⟨rfl, j, rfl⟩
        go_wp2_with fail
        go_roundg gk
        case rel => exact ⟨i + 1, _, _, _, _, by have := HI.out; omega, rfl, rfl, by go_num, Lib.hid (S4.out.drewN _), HU, HE, O1, HN⟩
        case measure => omega
      | false =>
        obtain ⟨s', hs⟩ : ∃ s', seeM s now time = s' := ⟨_, rfl⟩
        obtain ⟨n', hn'⟩ : ∃ n', seeM n now time = n' := ⟨_, rfl⟩
        have O1 : Hid (MkOk s') := Lib.hid (hs ▸ HO.out.see now time)
        have N1 : Hid (MkOk n') := Lib.hid (hn' ▸ HN.out.see now time)
        have hv : ¬ standM L s' < v := by
          have := stand_mono (L := L) (see_most s now time)
          rw [hs, HV.out] at this
          omega
        obtain ⟨u, hu⟩ : ∃ u, standM L s' = u := ⟨_, rfl⟩
        rw [hu] at hv
        have HU := Lib.hid hu
        have HS' := Lib.hid hs
        have HN' := Lib.hid hn'
        obtain ⟨bs, hbs⟩ : ∃ bs, decide (SeesM s now time) = bs := ⟨_, rfl⟩
        have HBS := Lib.hid hbs
        have CP : Hid (∀ w, Two W w a b L I s n → Calls Try.prog 9 #[.pointer (some ⟨a, 0, none⟩), .int .i64 now, .int .i64 time] w fun e w' => e = .returned (.bool bs) ∧ Two W w' a b L I s' n) := Lib.hid (fun w t => by
          have := see_walk t.g now time
          rw [HS'.out, HBS.out] at this
          exact this.mono (fun e w' k => ⟨k.1, t.turnA k.2⟩))
        have CA : Hid (∀ w n, Two W w a b L I s' n → Calls Try.prog 11 #[.pointer (some ⟨a, 0, none⟩)] w fun e w' => e = .returned (.int .i64 u) ∧ Two W w' a b L I s' n) := Lib.hid (fun w n t => by
          have := at_walk t.g O1.out HG.out
          rw [HU.out] at this
          exact this.mono (fun e w' k => ⟨k.1, by obtain ⟨j, e⟩ := k.2; rw [e]; exact t.drewN j⟩))
        have PC : Hid (∀ w s n, Two W w a b L I s n → w.cell? ⟨b0, o + i * 3 + 1, none⟩ = some (.int .i64 now) ∧ w.cell? ⟨b0, o + i * 3 + 2, none⟩ = some (.int .i64 time)) := Lib.hid (fun w s n t => (HAT.out _ t.bel).2)
        have H0 := Lib.hid HS.out.drew
        clear hs hn' hu hbs
        by_cases k : SeesM n now time
        · have CB : Hid (∀ w s', Two W w a b L I s' n → Calls Try.prog 9 #[.pointer (some ⟨b, 0, none⟩), .int .i64 now, .int .i64 time] w fun e w' => e = .returned (.bool true) ∧ Two W w' a b L I s' n') := Lib.hid (fun w s' t => by
            have := see_walk t.h now time
            rw [HN'.out, decide_eq_true k] at this
            exact this.mono (fun e w' k => ⟨k.1, t.turnB k.2⟩))
          by_cases y : m < time
          · have E1 : Hid (Most time n') := Lib.hid (HN'.out ▸ HE.out.more k y)
            clear k HS
            go_wp2_with fail
            go_region_held (fun w' => w'.cell? ⟨b0, o + i * 3 + 1, none⟩ = some (.int .i64 now) ∧ w'.cell? ⟨b0, o + i * 3 + 2, none⟩ = some (.int .i64 time))
              (first | exact PC.out _ _ _ H0.out | exact PC.out _ _ _ t3)
              (first | ((go_at_call 9; with_reducible refine (CP.out _ H0.out).mono ?_); rintro e w3 ⟨rfl, t3⟩))
            all_goals
              have H3 := Lib.hid t3
              have p3 := PC.out _ _ _ H3.out
              have H4 := Lib.hid H3.out.drew
              clear t3
              clear p0 p1 p2 H0
              go_wp2_with fail
              go_region_held (fun w' => w'.cell? ⟨b0, o + i * 3 + 1, none⟩ = some (.int .i64 now) ∧ w'.cell? ⟨b0, o + i * 3 + 2, none⟩ = some (.int .i64 time))
                (first | exact PC.out _ _ _ H4.out | exact PC.out _ _ _ t5)
                (first | ((go_at_call 9; with_reducible refine (CB.out _ _ H4.out).mono ?_); rintro e w5 ⟨rfl, t5⟩))
              all_goals
                have H5 := Lib.hid t5
                have p5 := PC.out _ _ _ H5.out
                clear t5
                go_wp2_with fail
                refine (CA.out _ _ H5.out).mono ?_
                rintro e w6 ⟨rfl, t6⟩
                have H6 := Lib.hid t6
                clear t6
                go_wp2_with fail
                refine (CA.out _ _ H6.out).mono ?_
                rintro e w7 ⟨rfl, t7⟩
                have H7 := Lib.hid t7
                clear t7
                go_wp2_with fail
                go_roundg gk
                case rel => exact ⟨i + 1, _, _, _, _, by have := HI.out; omega, rfl, rfl, by go_num, H7, HU, E1, O1, N1⟩
                case measure => omega
          · have E1 : Hid (Most m n') := Lib.hid (HN'.out ▸ HE.out.less k y)
            clear k HS
            go_wp2_with fail
            go_region_held (fun w' => w'.cell? ⟨b0, o + i * 3 + 1, none⟩ = some (.int .i64 now) ∧ w'.cell? ⟨b0, o + i * 3 + 2, none⟩ = some (.int .i64 time))
              (first | exact PC.out _ _ _ H0.out | exact PC.out _ _ _ t3)
              (first | ((go_at_call 9; with_reducible refine (CP.out _ H0.out).mono ?_); rintro e w3 ⟨rfl, t3⟩))
            all_goals
              have H3 := Lib.hid t3
              have p3 := PC.out _ _ _ H3.out
              have H4 := Lib.hid H3.out.drew
              clear t3
              clear p0 p1 p2 H0
              go_wp2_with fail
              go_region_held (fun w' => w'.cell? ⟨b0, o + i * 3 + 1, none⟩ = some (.int .i64 now) ∧ w'.cell? ⟨b0, o + i * 3 + 2, none⟩ = some (.int .i64 time))
                (first | exact PC.out _ _ _ H4.out | exact PC.out _ _ _ t5)
                (first | ((go_at_call 9; with_reducible refine (CB.out _ _ H4.out).mono ?_); rintro e w5 ⟨rfl, t5⟩))
              all_goals
                have H5 := Lib.hid t5
                have p5 := PC.out _ _ _ H5.out
                clear t5
                go_wp2_with fail
                refine (CA.out _ _ H5.out).mono ?_
                rintro e w6 ⟨rfl, t6⟩
                have H6 := Lib.hid t6
                clear t6
                go_wp2_with fail
                refine (CA.out _ _ H6.out).mono ?_
                rintro e w7 ⟨rfl, t7⟩
                have H7 := Lib.hid t7
                clear t7
                go_wp2_with fail
                go_roundg gk
                case rel => exact ⟨i + 1, _, _, _, _, by have := HI.out; omega, rfl, rfl, by go_num, H7, HU, E1, O1, N1⟩
                case measure => omega
        · have CB : Hid (∀ w s', Two W w a b L I s' n → Calls Try.prog 9 #[.pointer (some ⟨b, 0, none⟩), .int .i64 now, .int .i64 time] w fun e w' => e = .returned (.bool false) ∧ Two W w' a b L I s' n') := Lib.hid (fun w s' t => by
            have := see_walk t.h now time
            rw [HN'.out, decide_eq_false k] at this
            exact this.mono (fun e w' k => ⟨k.1, t.turnB k.2⟩))
          have E1 : Hid (Most m n') := Lib.hid (HN'.out ▸ HE.out.no k)
          clear k HS
          go_wp2_with fail
          go_region_held (fun w' => w'.cell? ⟨b0, o + i * 3 + 1, none⟩ = some (.int .i64 now) ∧ w'.cell? ⟨b0, o + i * 3 + 2, none⟩ = some (.int .i64 time))
            (first | exact PC.out _ _ _ H0.out | exact PC.out _ _ _ t3)
            (first | ((go_at_call 9; with_reducible refine (CP.out _ H0.out).mono ?_); rintro e w3 ⟨rfl, t3⟩))
          all_goals
            have H3 := Lib.hid t3
            have p3 := PC.out _ _ _ H3.out
            have H4 := Lib.hid H3.out.drew
            clear t3
            clear p0 p1 p2 H0
            go_wp2_with fail
            refine wp_region_held_drew (S := fun w' => w'.cell? ⟨b0, o + i * 3 + 1, none⟩ = some (.int .i64 now) ∧ w'.cell? ⟨b0, o + i * 3 + 2, none⟩ = some (.int .i64 time)) (by kernel_rfl) (by exact PC.out _ _ _ H4.out) (fun hHeld0 => ?_)
            refine takeWa 0 86 (v := ?vv0) rfl rfl (by kernel_rfl) (by kernel_rfl) (by kernel_rfl) (fun _ _ _ h => h) (by kernel_rfl) ?hy0 (by assumption) ?rest0
            case hy0 => (intro wq hSw; obtain ⟨hS1, hS2⟩ := hSw; go_simp <;> with_reducible rfl)
            simp only [Act.put, List.setIfInBounds_toArray, List.set_cons_zero, List.set_cons_succ]
            refine takeWa 1 87 (v := ?vv1) rfl rfl (by kernel_rfl) (by kernel_rfl) (by kernel_rfl) (fun _ _ _ h => h) (by kernel_rfl) ?hy1 (by assumption) ?rest1
            case hy1 => (intro wq hSw; obtain ⟨hS1, hS2⟩ := hSw; go_simp <;> with_reducible rfl)
            simp only [Act.put, List.setIfInBounds_toArray, List.set_cons_zero, List.set_cons_succ]
            refine takeWa 2 88 (v := ?vv2) rfl rfl (by kernel_rfl) (by kernel_rfl) (by kernel_rfl) (fun _ _ _ h => h) (by kernel_rfl) ?hy2 (by assumption) ?rest2
            case hy2 => (intro wq hSw; obtain ⟨hS1, hS2⟩ := hSw; go_simp <;> with_reducible rfl)
            simp only [Act.put, List.setIfInBounds_toArray, List.set_cons_zero, List.set_cons_succ]
            refine takeWa 3 89 (v := ?vv3) rfl rfl (by kernel_rfl) (by kernel_rfl) (by kernel_rfl) (fun _ _ _ h => h) (by kernel_rfl) ?hy3 (by assumption) ?rest3
            case hy3 => (intro wq hSw; obtain ⟨hS1, hS2⟩ := hSw; go_simp <;> with_reducible rfl)
            simp only [Act.put, List.setIfInBounds_toArray, List.set_cons_zero, List.set_cons_succ]
            refine takeWa 4 90 (v := ?vv4) rfl rfl (by kernel_rfl) (by kernel_rfl) (by kernel_rfl) (fun _ _ _ h => h) (by kernel_rfl) ?hy4 (by assumption) ?rest4
            case hy4 => (intro wq hSw; obtain ⟨hS1, hS2⟩ := hSw; go_simp <;> with_reducible rfl)
            simp only [Act.put, List.setIfInBounds_toArray, List.set_cons_zero, List.set_cons_succ]
            refine takeWa 5 91 (v := ?vv5) rfl rfl (by kernel_rfl) (by kernel_rfl) (by kernel_rfl) (fun _ _ _ h => h) (by kernel_rfl) ?hy5 (by assumption) ?rest5
            case hy5 => (intro wq hSw; obtain ⟨hS1, hS2⟩ := hSw; go_simp <;> with_reducible rfl)
            simp only [Act.put, List.setIfInBounds_toArray, List.set_cons_zero, List.set_cons_succ]
            refine takeWa 6 92 (v := ?vv6) rfl rfl (by kernel_rfl) (by kernel_rfl) (by kernel_rfl) (fun _ _ _ h => h) (by kernel_rfl) ?hy6 (by assumption) ?rest6
            case hy6 => (intro wq hSw; obtain ⟨hS1, hS2⟩ := hSw; go_simp <;> with_reducible rfl)
            simp only [Act.put, List.setIfInBounds_toArray, List.set_cons_zero, List.set_cons_succ]
            refine takeWa 7 93 (v := ?vv7) rfl rfl (by kernel_rfl) (by kernel_rfl) (by kernel_rfl) (fun _ _ _ h => h) (by kernel_rfl) ?hy7 (by assumption) ?rest7
            case hy7 => (intro wq hSw; obtain ⟨hS1, hS2⟩ := hSw; go_simp <;> with_reducible rfl)
            simp only [Act.put, List.setIfInBounds_toArray, List.set_cons_zero, List.set_cons_succ]
            refine takeWa 8 94 (v := ?vv8) rfl rfl (by kernel_rfl) (by kernel_rfl) (by kernel_rfl) (fun _ _ _ h => h) (by kernel_rfl) ?hy8 (by assumption) ?rest8
            case hy8 => (intro wq hSw; obtain ⟨hS1, hS2⟩ := hSw; go_simp <;> with_reducible rfl)
            simp only [Act.put, List.setIfInBounds_toArray, List.set_cons_zero, List.set_cons_succ]
            refine takeWa 9 95 (v := ?vv9) rfl rfl (by kernel_rfl) (by kernel_rfl) (by kernel_rfl) (fun _ _ _ h => h) (by kernel_rfl) ?hy9 (by assumption) ?rest9
            case hy9 => (intro wq hSw; obtain ⟨hS1, hS2⟩ := hSw; go_simp <;> with_reducible rfl)
            simp only [Act.put, List.setIfInBounds_toArray, List.set_cons_zero, List.set_cons_succ]
            refine takeWa 10 96 (v := ?vv10) rfl rfl (by kernel_rfl) (by kernel_rfl) (by kernel_rfl) (fun _ _ _ h => h) (by kernel_rfl) ?hy10 (by assumption) ?rest10
            case hy10 => (intro wq hSw; obtain ⟨hS1, hS2⟩ := hSw; go_simp <;> with_reducible rfl)
            simp only [Act.put, List.setIfInBounds_toArray, List.set_cons_zero, List.set_cons_succ]
            refine wpAnyH_ready (rs := [11]) (by kernel_rfl) (by simp) ?_
            refine AllReadyH.cons rfl (fun K hK => ?_) AllReadyH.nil
            go_simp
            go_wp2_with ((go_at_call 9; (with_reducible refine (CB.out _ _ H4.out).mono ?_); rintro e w5 ⟨rfl, t5⟩))
            refine hK.out _ _ (by exact PC.out _ _ _ t5) (fun hHeld => ?_)
            clear hK K hHeld0
            refine takeWa 12 98 (v := ?vv12) rfl rfl (by kernel_rfl) (by kernel_rfl) (by kernel_rfl) (fun _ _ _ h => h) (by kernel_rfl) ?hy12 (by assumption) ?rest12
            case hy12 => (intro wq hSw; obtain ⟨hS1, hS2⟩ := hSw; go_simp <;> with_reducible rfl)
            simp only [Act.put, List.setIfInBounds_toArray, List.set_cons_zero, List.set_cons_succ]
            refine takeSk 13 99 rfl rfl (by kernel_rfl) (by kernel_rfl) (by kernel_rfl) (fun _ _ _ h => h) (by kernel_rfl) (by assumption) ?_
            simp only [Act.put, List.setIfInBounds_toArray, List.set_cons_zero, List.set_cons_succ]
            refine takeSk 14 100 rfl rfl (by kernel_rfl) (by kernel_rfl) (by kernel_rfl) (fun _ _ _ h => h) (by kernel_rfl) (by assumption) ?_
            simp only [Act.put, List.setIfInBounds_toArray, List.set_cons_zero, List.set_cons_succ]
            refine takeSk 15 101 rfl rfl (by kernel_rfl) (by kernel_rfl) (by kernel_rfl) (fun _ _ _ h => h) (by kernel_rfl) (by assumption) ?_
            simp only [Act.put, List.setIfInBounds_toArray, List.set_cons_zero, List.set_cons_succ]
            refine takeSk 16 102 rfl rfl (by kernel_rfl) (by kernel_rfl) (by kernel_rfl) (fun _ _ _ h => h) (by kernel_rfl) (by assumption) ?_
            simp only [Act.put, List.setIfInBounds_toArray, List.set_cons_zero, List.set_cons_succ]
            refine takeSk 17 103 rfl rfl (by kernel_rfl) (by kernel_rfl) (by kernel_rfl) (fun _ _ _ h => h) (by kernel_rfl) (by assumption) ?_
            simp only [Act.put, List.setIfInBounds_toArray, List.set_cons_zero, List.set_cons_succ]
            refine takeSk 18 104 rfl rfl (by kernel_rfl) (by kernel_rfl) (by kernel_rfl) (fun _ _ _ h => h) (by kernel_rfl) (by assumption) ?_
            simp only [Act.put, List.setIfInBounds_toArray, List.set_cons_zero, List.set_cons_succ]
            refine takeSk 19 105 rfl rfl (by kernel_rfl) (by kernel_rfl) (by kernel_rfl) (fun _ _ _ h => h) (by kernel_rfl) (by assumption) ?_
            simp only [Act.put, List.setIfInBounds_toArray, List.set_cons_zero, List.set_cons_succ]
            refine takeWa 20 106 (v := ?vv20) rfl rfl (by kernel_rfl) (by kernel_rfl) (by kernel_rfl) (fun _ _ _ h => h) (by kernel_rfl) ?hy20 (by assumption) ?rest20
            case hy20 => (intro wq hSw; obtain ⟨hS1, hS2⟩ := hSw; go_simp <;> with_reducible rfl)
            simp only [Act.put, List.setIfInBounds_toArray, List.set_cons_zero, List.set_cons_succ]
            refine wpAnyH_done (by kernel_rfl) ?_ _
            clear hHeld
            all_goals
              have H5 := Lib.hid t5
              have p5 := PC.out _ _ _ H5.out
              clear t5
              go_wp2_with fail
              refine (CA.out _ _ H5.out).mono ?_
              rintro e w6 ⟨rfl, t6⟩
              have H6 := Lib.hid t6
              clear t6
              go_wp2_with fail
              refine (CA.out _ _ H6.out).mono ?_
              rintro e w7 ⟨rfl, t7⟩
              have H7 := Lib.hid t7
              clear t7
              go_wp2_with fail
              go_roundg gk
              case rel => exact ⟨i + 1, _, _, _, _, by have := HI.out; omega, rfl, rfl, by go_num, H7, HU, E1, O1, N1⟩
              case measure => omega
end Go.Proofs.Ytkmgifmfobopoaa
