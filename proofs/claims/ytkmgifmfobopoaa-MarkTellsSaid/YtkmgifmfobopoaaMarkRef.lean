/-
  Layer 19 (mark): the document's mark sees, ticks, and stands.
-/
import Derived.Test.YtkmgifmfobopoaaMarkMem
namespace Go.Proofs.Ytkmgifmfobopoaa
open Go.ChangeShapes Go.WideShapes Go.ChangeAt Go.RowKit
set_option linter.unusedVariables false

section
variable {w w' : World} {a : Nat} {L I : Int} {s : Mk}
theorem rfair_yes (h : Gr w a L I s) {now : Int} (k : FairM s now) :
    Calls Try.prog 16 #[.pointer (some ⟨a, 0, none⟩), .int .i64 now] w fun e w' => e = .returned (.bool true) ∧ w = w' := by
  have c5 := h.c5
  obtain ⟨⟨x1, x2⟩, x3⟩ := k
  clear h
  go_enter Try.func16, Try.ntmps16
  go_wp2_with fail
  go_ret
  exact ⟨rfl, rfl⟩
theorem rfair_no (h : Gr w a L I s) {now : Int} (k : ¬ FairM s now) :
    Calls Try.prog 16 #[.pointer (some ⟨a, 0, none⟩), .int .i64 now] w fun e w' => e = .returned (.bool false) ∧ w = w' := by
  have c5 := h.c5
  have y : ¬ 0 ≤ now ∨ (0 ≤ now ∧ ¬ now ≤ 1099511627776) ∨ (0 ≤ now ∧ now ≤ 1099511627776 ∧ ¬ s.last ≤ now) := by
    rcases not_fair k with x | ⟨⟨x1, x2⟩, x3⟩
    · rcases not_wi x with y | ⟨y1, y2⟩
      · exact .inl (by omega)
      · exact .inr (.inl ⟨y1, by omega⟩)
    · exact .inr (.inr ⟨x1, x2, by omega⟩)
  clear h k
  rcases y with x1 | ⟨x1, x2⟩ | ⟨x1, x2, x3⟩
  all_goals
    go_enter Try.func16, Try.ntmps16
    go_wp2_with fail
    go_ret
    exact ⟨by first | rfl | (refine congrArg (fun b => Ending.returned (.bool b)) (decide_eq_false ?_); omega), rfl⟩
/-- What a call of the document's See, or Tick, comes to. -/
def SaidR (w : World) (a : Nat) (L I : Int) (b : Bool) (s' : Mk) (e : Ending) (w' : World) : Prop := e = .returned (.bool b) ∧ Mr w w' a L I s'
theorem ref_see (h : Gr w a L I s) (now time : Int) :
    Calls Try.prog 10 #[.pointer (some ⟨a, 0, none⟩), .int .i64 now, .int .i64 time] w (SaidR w a L I (decide (SeesM s now time)) (seeM s now time)) := by
  unfold SaidR
  by_cases k : SeesM s now time
  · rw [see_yes k, decide_eq_true k]
    have c2 := h.c2
    have c3 := h.c3
    have c4 := h.c4
    have c5 := h.c5
    have f2 := h.fr 2
    have f3 := h.fr 3
    have f4 := h.fr 4
    have f5 := h.fr 5
    have M0 := Lib.hid (Mr.refl h)
    have C1 := Lib.hid (rfair_yes h k.f)
    have x1 : ¬ time < 0 := by have := k.t.n0; omega
    have x2 : ¬ 1099511627776 < time := by have := k.t.n1; omega
    by_cases y : s.most < time
    · rw [if_pos y]
      have M1 : Hid (Mr w ((((w.setCell ⟨a, 2, none⟩ (.bool true)).setCell ⟨a, 3, none⟩ (.int .i64 time)).setCell ⟨a, 4, none⟩ (.int .i64 now)).setCell ⟨a, 5, none⟩ (.int .i64 now)) a L I ⟨true, time, now, now⟩) := Lib.hid ((((M0.out.set2 true).set3 time).set4 now).set5 now)
      clear h k M0
      go_enter Try.func10, Try.ntmps10
      go_wp2_with fail
      refine C1.out.mono ?_
      rintro e w1 ⟨rfl, rfl⟩
      go_wp2_with fail
      go_ret
      exact ⟨rfl, M1.out⟩
    · rw [if_neg y]
      have M1 : Hid (Mr w (((w.setCell ⟨a, 2, none⟩ (.bool true)).setCell ⟨a, 4, none⟩ (.int .i64 now)).setCell ⟨a, 5, none⟩ (.int .i64 now)) a L I ⟨true, s.most, now, now⟩) := Lib.hid (((M0.out.set2 true).set4 now).set5 now)
      clear h k M0
      go_enter Try.func10, Try.ntmps10
      go_wp2_with fail
      refine C1.out.mono ?_
      rintro e w1 ⟨rfl, rfl⟩
      go_wp2_with fail
      go_ret
      exact ⟨rfl, M1.out⟩
  · rw [see_no k, decide_eq_false k]
    have M0 := Lib.hid (Mr.refl h)
    rcases not_sees k with x | ⟨x1, x2⟩
    · have C1 := Lib.hid (rfair_no h x)
      clear h k x
      go_enter Try.func10, Try.ntmps10
      go_wp2_with fail
      refine C1.out.mono ?_
      rintro e w1 ⟨rfl, rfl⟩
      go_wp2_with fail
      go_ret
      exact ⟨rfl, M0.out⟩
    · have C1 := Lib.hid (rfair_yes h x1)
      rcases not_wi x2 with y1 | ⟨y1, y2⟩
      · clear h k x1 x2
        go_enter Try.func10, Try.ntmps10
        go_wp2_with fail
        refine C1.out.mono ?_
        rintro e w1 ⟨rfl, rfl⟩
        go_wp2_with fail
        go_ret
        exact ⟨rfl, M0.out⟩
      · have y3 : ¬ time < 0 := by omega
        clear h k x1 x2 y1
        go_enter Try.func10, Try.ntmps10
        go_wp2_with fail
        refine C1.out.mono ?_
        rintro e w1 ⟨rfl, rfl⟩
        go_wp2_with fail
        go_ret
        exact ⟨rfl, M0.out⟩
theorem ref_tick (h : Gr w a L I s) (ok : MkOk s) (g : GoodM L I) (now : Int) :
    Calls Try.prog 8 #[.pointer (some ⟨a, 0, none⟩), .int .i64 now] w (SaidR w a L I (decide (FairM s now)) (tickM I s now)) := by
  unfold SaidR
  by_cases k : FairM s now
  · rw [decide_eq_true k]
    have c1 := h.c1
    have c2 := h.c2
    have c3 := h.c3
    have c4 := h.c4
    have c5 := h.c5
    have f3 := h.fr 3
    have f5 := h.fr 5
    have M0 := Lib.hid (Mr.refl h)
    have C1 := Lib.hid (rfair_yes h k)
    obtain ⟨t, ht⟩ : ∃ t, s.at' + I = t := ⟨_, rfl⟩
    have b7 := ok.a0
    have b8 := ok.al
    have b9 := g.i.n1
    have b0 := g.i.n0
    have b1 := ok.m0
    have b2 := ok.m1
    have b3 := k.w.n0
    have b4 := k.w.n1
    have b5 := ok.l1
    have b6 := k.b
    have z0 : IntKind.i64.wrap (s.at' + I) = t := by rw [IntKind.wrap_i64]; omega
    by_cases y : IdleM I s now
    · rw [tick_idle k y]
      rw [y.y] at c2
      obtain ⟨p, hp⟩ : ∃ p, s.most + now = p := ⟨_, rfl⟩
      obtain ⟨d, hd⟩ : ∃ d, p - s.last = d := ⟨_, rfl⟩
      have z1 : IntKind.i64.wrap (s.most + now) = p := by rw [IntKind.wrap_i64]; omega
      have z2 : IntKind.i64.wrap (p - s.last) = d := by rw [IntKind.wrap_i64]; omega
      have y1 := Lib.hid (decide_eq_true (p := t ≤ now) (by have := y.i; omega))
      by_cases u : 1099511627776 < d
      · have hg : growM s now = 1099511627776 := by unfold growM; rw [if_neg (by omega)]
        rw [hg]
        have M1 : Hid (∀ n, Mr w ((((w.drewN n).setCell ⟨a, 3, none⟩ (.int .i64 d)).setCell ⟨a, 3, none⟩ (.int .i64 1099511627776)).setCell ⟨a, 5, none⟩ (.int .i64 now)) a L I ⟨s.saw, 1099511627776, s.at', now⟩) := Lib.hid (fun n => (((M0.out.drewN n).set3 d).set3 _).set5 now)
        clear h k M0 ok g y hp hd b0 b1 b2 b3 b4 b5 b6 b7 b8 b9 ht hg
        go_enter Try.func8, Try.ntmps8
        go_wp2_with fail
        refine C1.out.mono ?_
        rintro e w1 ⟨rfl, rfl⟩
        go_wp2_with fail
        have y1 := y1.out
        go_quiet (fail)
        go_wp2_with fail
        go_region_law (fail)
        all_goals
          go_wp2_with fail
          go_ret
          exact ⟨rfl, M1.out _⟩
      · have hg : growM s now = d := by unfold growM; rw [if_pos (by omega)]; omega
        rw [hg]
        have M1 : Hid (∀ n, Mr w (((w.drewN n).setCell ⟨a, 3, none⟩ (.int .i64 d)).setCell ⟨a, 5, none⟩ (.int .i64 now)) a L I ⟨s.saw, d, s.at', now⟩) := Lib.hid (fun n => ((M0.out.drewN n).set3 d).set5 now)
        clear h k M0 ok g y hp hd b0 b1 b2 b3 b4 b5 b6 b7 b8 b9 ht hg
        go_enter Try.func8, Try.ntmps8
        go_wp2_with fail
        refine C1.out.mono ?_
        rintro e w1 ⟨rfl, rfl⟩
        go_wp2_with fail
        have y1 := y1.out
        go_quiet (fail)
        go_wp2_with fail
        go_region_law (fail)
        all_goals
          go_wp2_with fail
          go_ret
          exact ⟨rfl, M1.out _⟩
    · rw [tick_on k y]
      have M1 : Hid (∀ n, Mr w ((w.drewN n).setCell ⟨a, 5, none⟩ (.int .i64 now)) a L I ⟨s.saw, s.most, s.at', now⟩) := Lib.hid (fun n => (M0.out.drewN n).set5 now)
      rcases not_idle y with x | ⟨x1, x2⟩
      · rw [x] at c2
        clear h k M0 ok g y b0 b1 b2 b3 b4 b5 b6 b7 b8 b9 ht x
        go_enter Try.func8, Try.ntmps8
        go_wp2_with fail
        refine C1.out.mono ?_
        rintro e w1 ⟨rfl, rfl⟩
        go_wp2_with fail
        go_quiet (fail)
        go_wp2_with fail
        go_ret
        exact ⟨rfl, M1.out _⟩
      · rw [x1] at c2
        have y1 := Lib.hid (decide_eq_false (p := t ≤ now) (by omega))
        clear h k M0 ok g y b0 b1 b2 b3 b4 b5 b6 b7 b8 b9 ht x1 x2
        go_enter Try.func8, Try.ntmps8
        go_wp2_with fail
        refine C1.out.mono ?_
        rintro e w1 ⟨rfl, rfl⟩
        go_wp2_with fail
        have y1 := y1.out
        go_quiet (fail)
        go_wp2_with fail
        go_ret
        exact ⟨rfl, M1.out _⟩
  · rw [tick_no k, decide_eq_false k]
    have M0 := Lib.hid (Mr.refl h)
    have C1 := Lib.hid (rfair_no h k)
    clear h k ok g
    go_enter Try.func8, Try.ntmps8
    go_wp2_with fail
    refine C1.out.mono ?_
    rintro e w1 ⟨rfl, rfl⟩
    go_wp2_with fail
    go_ret
    exact ⟨rfl, M0.out⟩
theorem ref_stand (h : Gr w a L I s) (ok : MkOk s) (g : GoodM L I) :
    Calls Try.prog 12 #[.pointer (some ⟨a, 0, none⟩)] w fun e w' => e = .returned (.int .i64 (standM L s)) ∧ ∃ n, w' = w.drewN n := by
  have c0 := h.c0
  have c2 := h.c2
  have c3 := h.c3
  have b1 := ok.m0
  have b2 := ok.m1
  have b3 := g.l.n0
  have b4 := g.l.n1
  have ns := ok.ns
  clear h ok g
  obtain ⟨saw, most, at', last⟩ := s
  dsimp only at *
  cases saw with
  | false =>
    obtain rfl := ns rfl
    have hs : standM L ⟨false, 0, at', last⟩ = 0 := by unfold standM; simp only; split <;> omega
    rw [hs]
    clear hs ns b1 b2 b3 b4
    go_enter Try.func12, Try.ntmps12
    go_wp2_with fail
    go_quiet (fail)
    go_wp2_with fail
    go_ret
    exact ⟨rfl, _, rfl⟩
  | true =>
    by_cases y : most < L
    · have hs : standM L ⟨true, most, at', last⟩ = 0 := by unfold standM; rw [if_pos y]
      rw [hs]
      have y1 := Lib.hid (decide_eq_true (p := most < L) y)
      clear hs ns b1 b2 b3 b4 y
      go_enter Try.func12, Try.ntmps12
      go_wp2_with fail
      have y1 := y1.out
      go_quiet (fail)
      go_wp2_with fail
      go_ret
      exact ⟨rfl, _, rfl⟩
    · have hs : standM L ⟨true, most, at', last⟩ = most - L := by unfold standM; rw [if_neg y]
      rw [hs]
      obtain ⟨d, hd⟩ : ∃ d, most - L = d := ⟨_, rfl⟩
      have z1 : IntKind.i64.wrap (most - L) = d := by rw [IntKind.wrap_i64]; omega
      rw [hd]
      have y1 := Lib.hid (decide_eq_false (p := most < L) y)
      clear hs ns b1 b2 b3 b4 y hd
      go_enter Try.func12, Try.ntmps12
      go_wp2_with fail
      have y1 := y1.out
      go_quiet (fail)
      go_wp2_with fail
      go_quiet (fail)
      go_wp2_with fail
      go_ret
      exact ⟨rfl, _, drew_drew _ _ _⟩
end
end Go.Proofs.Ytkmgifmfobopoaa
