/-
  Layer 19 (mark): At, See and Tick, the program's.
-/
import Derived.Test.YtkmgifmfobopoaaMarkMem
namespace Go.Proofs.Ytkmgifmfobopoaa
open Go.ChangeShapes Go.WideShapes Go.ChangeAt Go.RowKit
set_option linter.unusedVariables false

section
variable {w w' : World} {a : Nat} {L I : Int} {s : Mk}
theorem stand_max (ok : MkOk s) (g : GoodM L I) : max (s.most - L) 0 = standM L s := by
  unfold standM
  split <;> omega
theorem at_walk (h : Gp w a L I s) (ok : MkOk s) (g : GoodM L I) :
    Calls Try.prog 11 #[.pointer (some ⟨a, 0, none⟩)] w fun e w' => e = .returned (.int .i64 (standM L s)) ∧ ∃ n, w' = w.drewN n := by
  have c0 := h.c0
  have c2 := h.c2
  have zm := stand_max ok g
  obtain ⟨d, hd⟩ : ∃ d, s.most - L = d := ⟨_, rfl⟩
  have z1 : IntKind.i64.wrap (s.most - L) = d := by
    have := ok.m0
    have := ok.m1
    have := g.l.n0
    have := g.l.n1
    rw [IntKind.wrap_i64]; omega
  rw [hd] at zm
  obtain ⟨v, hv⟩ : ∃ v, standM L s = v := ⟨_, rfl⟩
  rw [hv] at zm ⊢
  clear h ok g hd hv
  go_enter Try.func11, Try.ntmps11
  go_wp2_with fail
  go_quiet (fail)
  go_wp2_with fail
  go_ret
  exact ⟨rfl, _, rfl⟩
theorem idle_yes (h : Gp w a L I s) (ok : MkOk s) (g : GoodM L I) {now : Int} (f : FairM s now) (k : IdleM I s now) :
    Calls Try.prog 15 #[.pointer (some ⟨a, 0, none⟩), .int .i64 now] w fun e w' => e = .returned (.bool true) ∧ ∃ n, w' = w.drewN n := by
  have c1 := h.c1
  have c4 := h.c4
  have c5 := h.c5
  rw [k.y] at c4
  obtain ⟨d, hd⟩ : ∃ d, now - s.at' = d := ⟨_, rfl⟩
  have z1 : IntKind.i64.wrap (now - s.at') = d := by
    have := ok.a0
    have := ok.al
    have := f.b
    have := f.w.n1
    rw [IntKind.wrap_i64]; omega
  have y1 := Lib.hid (decide_eq_true (p := I ≤ d) (by have := k.i; omega))
  clear h ok g hd f k
  go_enter Try.func15, Try.ntmps15
  go_wp2_with fail
  have y1 := y1.out
  go_quiet (fail)
  go_wp2_with fail
  go_ret
  exact ⟨rfl, _, rfl⟩
theorem idle_no (h : Gp w a L I s) (ok : MkOk s) (g : GoodM L I) {now : Int} (f : FairM s now) (k : ¬ IdleM I s now) :
    Calls Try.prog 15 #[.pointer (some ⟨a, 0, none⟩), .int .i64 now] w fun e w' => e = .returned (.bool false) ∧ ∃ n, w' = w.drewN n := by
  have c1 := h.c1
  have c4 := h.c4
  have c5 := h.c5
  rcases not_idle k with x | ⟨x1, x2⟩
  · rw [x] at c4
    clear h ok g f k x
    go_enter Try.func15, Try.ntmps15
    go_wp2_with fail
    go_quiet (fail)
    go_wp2_with fail
    go_ret
    exact ⟨rfl, _, rfl⟩
  · rw [x1] at c4
    obtain ⟨d, hd⟩ : ∃ d, now - s.at' = d := ⟨_, rfl⟩
    have z1 : IntKind.i64.wrap (now - s.at') = d := by
      have := ok.a0
      have := ok.al
      have := f.b
      have := f.w.n1
      rw [IntKind.wrap_i64]; omega
    have y1 := Lib.hid (decide_eq_false (p := I ≤ d) (by omega))
    clear h ok g hd f k x1 x2
    go_enter Try.func15, Try.ntmps15
    go_wp2_with fail
    have y1 := y1.out
    go_quiet (fail)
    go_wp2_with fail
    go_ret
    exact ⟨rfl, _, rfl⟩
/-- What a call of See, or of Tick, comes to. -/
def Said (w : World) (a : Nat) (L I : Int) (b : Bool) (s' : Mk) (e : Ending) (w' : World) : Prop := e = .returned (.bool b) ∧ Mp w w' a L I s'
theorem see_walk (h : Gp w a L I s) (now time : Int) :
    Calls Try.prog 9 #[.pointer (some ⟨a, 0, none⟩), .int .i64 now, .int .i64 time] w (Said w a L I (decide (SeesM s now time)) (seeM s now time)) := by
  unfold Said
  by_cases k : SeesM s now time
  · rw [see_yes k, decide_eq_true k]
    have c2 := h.c2
    have c3 := h.c3
    have c4 := h.c4
    have c5 := h.c5
    have f2 := h.fr 2
    have f3 := h.fr 3
    have f4 := h.fr 4
    have f5 := h.fr 5
    have M0 := Lib.hid (Mp.refl h)
    have C1 := Lib.hid (fair_yes h k.f)
    have C2 := Lib.hid (fun w => within_in w k.t)
    obtain ⟨q, hq⟩ : ∃ q, (if s.most < time then time else s.most) = q := ⟨_, rfl⟩
    have zm : max s.most time = q := by rw [← hq]; split <;> omega
    rw [hq]
    have M1 : Hid (Mp w ((((w.setCell ⟨a, 3, none⟩ (.int .i64 now)).setCell ⟨a, 4, none⟩ (.bool true)).setCell ⟨a, 5, none⟩ (.int .i64 now)).setCell ⟨a, 2, none⟩ (.int .i64 q)) a L I ⟨true, q, now, now⟩) := Lib.hid ((((M0.out.set3 now).set4 true).set5 now).set2 q)
    clear h k hq M0
    go_enter Try.func9, Try.ntmps9
    go_wp2_with fail
    refine C1.out.mono ?_
    rintro e w1 ⟨rfl, rfl⟩
    go_wp2_with fail
    refine (C2.out _).mono ?_
    rintro e w1 ⟨rfl, rfl⟩
    go_wp2_with fail
    go_ret
    exact ⟨rfl, M1.out⟩
  · rw [see_no k, decide_eq_false k]
    have M0 := Lib.hid (Mp.refl h)
    rcases not_sees k with x | ⟨x1, x2⟩
    · have C1 := Lib.hid (fair_no h x)
      clear h k x
      go_enter Try.func9, Try.ntmps9
      go_wp2_with fail
      refine C1.out.mono ?_
      rintro e w1 ⟨rfl, rfl⟩
      go_wp2_with fail
      go_ret
      exact ⟨rfl, M0.out⟩
    · have C1 := Lib.hid (fair_yes h x1)
      have C2 := Lib.hid (fun w => within_out w x2)
      clear h k x1 x2
      go_enter Try.func9, Try.ntmps9
      go_wp2_with fail
      refine C1.out.mono ?_
      rintro e w1 ⟨rfl, rfl⟩
      go_wp2_with fail
      refine (C2.out _).mono ?_
      rintro e w1 ⟨rfl, rfl⟩
      go_wp2_with fail
      go_ret
      exact ⟨rfl, M0.out⟩
theorem tick_walk (h : Gp w a L I s) (ok : MkOk s) (g : GoodM L I) (now : Int) :
    Calls Try.prog 7 #[.pointer (some ⟨a, 0, none⟩), .int .i64 now] w (Said w a L I (decide (FairM s now)) (tickM I s now)) := by
  unfold Said
  by_cases k : FairM s now
  · rw [decide_eq_true k]
    have c2 := h.c2
    have c3 := h.c3
    have f2 := h.fr 2
    have f3 := h.fr 3
    have M0 := Lib.hid (Mp.refl h)
    have C1 := Lib.hid (fair_yes h k)
    by_cases y : IdleM I s now
    · rw [tick_idle k y]
      have C2 := Lib.hid (idle_yes h ok g k y)
      obtain ⟨p, hp⟩ : ∃ p, s.most + now = p := ⟨_, rfl⟩
      obtain ⟨d, hd⟩ : ∃ d, p - s.last = d := ⟨_, rfl⟩
      obtain ⟨q, hq⟩ : ∃ q, growM s now = q := ⟨_, rfl⟩
      have b1 := ok.m0
      have b2 := ok.m1
      have b3 := k.w.n0
      have b4 := k.w.n1
      have b5 := ok.l1
      have b6 := k.b
      have b7 := ok.a0
      have b8 := ok.al
      have z1 : IntKind.i64.wrap (s.most + now) = p := by rw [IntKind.wrap_i64]; omega
      have z2 : IntKind.i64.wrap (p - s.last) = d := by rw [IntKind.wrap_i64]; omega
      have zm : min d 1099511627776 = q := by rw [← hq]; unfold growM; split <;> omega
      rw [hq]
      have M1 : Hid (∀ n, Mp w (((w.drewN n).setCell ⟨a, 2, none⟩ (.int .i64 q)).setCell ⟨a, 3, none⟩ (.int .i64 now)) a L I ⟨s.saw, q, s.at', now⟩) := Lib.hid (fun n => ((M0.out.drewN n).set2 q).set3 now)
      clear h k hq M0 ok g y hp hd b1 b2 b3 b4 b5 b6 b7 b8
      go_enter Try.func7, Try.ntmps7
      go_wp2_with fail
      refine C1.out.mono ?_
      rintro e w1 ⟨rfl, rfl⟩
      go_wp2_with fail
      refine C2.out.mono ?_
      rintro e w1 ⟨rfl, n, rfl⟩
      go_wp2_with fail
      go_region_law (fail)
      all_goals
        go_wp2_with fail
        go_ret
        exact ⟨rfl, M1.out _⟩
    · rw [tick_on k y]
      have C2 := Lib.hid (idle_no h ok g k y)
      have M1 : Hid (∀ n, Mp w ((w.drewN n).setCell ⟨a, 3, none⟩ (.int .i64 now)) a L I ⟨s.saw, s.most, s.at', now⟩) := Lib.hid (fun n => (M0.out.drewN n).set3 now)
      clear h k M0 ok g y
      go_enter Try.func7, Try.ntmps7
      go_wp2_with fail
      refine C1.out.mono ?_
      rintro e w1 ⟨rfl, rfl⟩
      go_wp2_with fail
      refine C2.out.mono ?_
      rintro e w1 ⟨rfl, n, rfl⟩
      go_wp2_with fail
      go_ret
      exact ⟨rfl, M1.out n⟩
  · rw [tick_no k, decide_eq_false k]
    have M0 := Lib.hid (Mp.refl h)
    have C1 := Lib.hid (fair_no h k)
    clear h k ok g
    go_enter Try.func7, Try.ntmps7
    go_wp2_with fail
    refine C1.out.mono ?_
    rintro e w1 ⟨rfl, rfl⟩
    go_wp2_with fail
    go_ret
    exact ⟨rfl, M0.out⟩
end
end Go.Proofs.Ytkmgifmfobopoaa
