/-
  Layer 11 (delay): a control goes on dropping; it is asked.
-/
import Derived.Test.YtljklehlmahbgaaDelayBegin
namespace Go.Proofs.Ytljklehlmahbgaa
open Go.ChangeShapes Go.WideShapes Go.ChangeAt Go.RowKit
set_option linter.unusedVariables false

section
variable {w : World} {a : Nat} {T I : Int} {s : Cs}
set_option maxRecDepth 100000 in
set_option maxHeartbeats 1000000 in
theorem goOn_walk (h : Ct w a T I s) (hI : mayB I) (ok : CsOk s) (now : Int) (n0 : 0 ≤ now) (n1 : now ≤ 1099511627776) :
    Calls Try.prog 12 #[.pointer (some ⟨a, 0, none⟩), .int .i64 now] w (Asks w a T I (goOnP I s now)) := by
  have c1 := h.c1
  have c5 := h.c5
  have c6 := h.c6
  have f5 := h.fr 5
  have f6 := h.fr 6
  have hlt := h.lt
  by_cases ht : now < s.next
  · have e0 : goOnP I s now = (false, s) := if_pos ht
    have END := Lib.hid (Asks.of (w := w) (T := T) (I := I) e0 rfl (Mc.refl h))
    generalize goOnP I s now = P at *
    clear h ok e0
    go_enter Try.func12, Try.ntmps12
    go_wp2_with fail
    go_ret
    exact END.out
  · have e0 : goOnP I s now = (true, { s with count := goOnC s, next := s.next + pauseZ I (goOnC s) }) := if_neg ht
    have hc := goOnC_may ok
    have pb := pauseZ_bd hI hc
    obtain ⟨i1, i2⟩ := hI
    obtain ⟨k1, k2⟩ := hc
    have CP := Lib.hid (fun x => pause_walk x I (goOnC s) (by omega) (by omega) (by omega) (by omega))
    have M : Hid (∀ w1 z, z = s.next + pauseZ I (goOnC s) → w1 = w → Mc w ((w1.setCell ⟨a, 6, none⟩ (.int .i64 (goOnC s))).setCell ⟨a, 5, none⟩ (.int .i64 z)) a T I { s with count := goOnC s, next := s.next + pauseZ I (goOnC s) }) :=
      Lib.hid fun w1 z hz hw => by subst hw; subst hz; exact ((Mc.refl h).set6 _).set5 _
    have EC := Lib.hid (show goOnC s = min (s.count + 1) 1000000 from rfl)
    generalize goOnC s = C at *
    generalize pauseZ I C = Z at *
    have o0 := ok.c0
    have o1 := ok.c1
    have o2 := ok.n0
    have o3 := ok.n1
    have END := Lib.hid e0
    generalize goOnP I s now = P at *
    clear e0 h ok
    obtain ⟨is, last, till, next, count⟩ := s
    dsimp only at *
    obtain ⟨p1, p2⟩ := pb
    have hcase : (C = count + 1 ∧ ¬ 1000000 < count + 1) ∨ (C = 1000000 ∧ 1000000 < count + 1) := by have := EC.out; omega
    clear EC
    rcases hcase with ⟨rfl, h1⟩ | ⟨rfl, h1⟩
    all_goals
      go_enter Try.func12, Try.ntmps12
      go_wp2_with fail
      go_region_law (go_simp; go_at_call 6; with_reducible refine (CP.out _).mono ?_; rintro e w' ⟨rfl, rfl⟩; try dsimp only)
      all_goals
        go_wp2_with fail
        go_ret
        exact Asks.of END.out rfl (M.out _ _ (by first | rfl | (rw [IntKind.wrap_i64]; omega)) rfl).drew
set_option maxRecDepth 100000 in
theorem ask_walk (h : Ct w a T I s) (hI : mayB I) (ok : CsOk s) (now waited : Int) (n0 : -9223372036854775808 ≤ now) (n1 : now ≤ 9223372036854775807) (v0 : -9223372036854775808 ≤ waited) (v1 : waited ≤ 9223372036854775807) :
    Calls Try.prog 9 #[.pointer (some ⟨a, 0, none⟩), .int .i64 now, .int .i64 waited] w (Asks w a T I (askP T I s now waited)) := by
  have c0 := h.c0
  have c1 := h.c1
  have c2 := h.c2
  have c3 := h.c3
  have c4 := h.c4
  have f2 := h.fr 2
  have f3 := h.fr 3
  have f4 := h.fr 4
  have hlt := h.lt
  have l0 := ok.l0
  by_cases hb : now < s.last ∨ 1099511627776 < now ∨ waited < 0
  · have e0 : askP T I s now waited = (false, s) := if_pos hb
    have END := Lib.hid (Asks.of (w := w) (T := T) (I := I) e0 rfl (Mc.refl h))
    generalize askP T I s now waited = P at *
    clear h ok e0
    by_cases h1 : now < s.last
    · go_enter Try.func9, Try.ntmps9
      go_wp2_with fail
      go_ret
      exact END.out
    by_cases h2 : 1099511627776 < now
    · go_enter Try.func9, Try.ntmps9
      go_wp2_with fail
      go_ret
      exact END.out
    have h3 : waited < 0 := by omega
    go_enter Try.func9, Try.ntmps9
    go_wp2_with fail
    go_ret
    exact END.out
  · have m0 : 0 ≤ now := by omega
    have m1 : now ≤ 1099511627776 := by omega
    have b1 : ¬ now < s.last := fun e => hb (.inl e)
    have b2 : ¬ 1099511627776 < now := by omega
    have b3 : ¬ waited < 0 := by omega
    have E : askP T I s now waited = (if waited < T then (false, { s with last := now, is := 0 }) else if s.is = 0 then (false, { s with last := now, is := 1, till := now + I }) else if s.is = 1 then beginP I { s with last := now } now else goOnP I { s with last := now } now) := if_neg hb
    have M3 := (Mc.refl h).set3 now
    by_cases hw : waited < T
    · have e0 : askP T I s now waited = (false, { s with last := now, is := 0 }) := by rw [E, if_pos hw]
      have END := Lib.hid (Asks.of (w := w) (T := T) (I := I) e0 rfl (M3.set2 0))
      generalize askP T I s now waited = P at *
      clear h ok e0 E M3 hb
      go_enter Try.func9, Try.ntmps9
      go_wp2_with fail
      go_ret
      exact END.out
    rw [if_neg hw] at E
    by_cases s0 : s.is = 0
    · have e0 : askP T I s now waited = (false, { s with last := now, is := 1, till := now + I }) := by rw [E, if_pos s0]
      have END := Lib.hid (Asks.of (w := w) (T := T) (I := I) e0 rfl ((M3.set2 1).set4 (now + I)))
      generalize askP T I s now waited = P at *
      obtain ⟨i1, i2⟩ := hI
      rw [s0] at c2
      clear h ok e0 E M3 hb s0
      go_enter Try.func9, Try.ntmps9
      go_wp2_with fail
      go_ret
      exact END.out
    rw [if_neg s0] at E
    have ok3 := ok.seen m0 m1
    by_cases s1 : s.is = 1
    · rw [if_pos s1] at E
      have C := Lib.hid (begin_walk M3.ct hI ok3 now m0 m1)
      have KP := Lib.hid M3.kp
      have HE := Lib.hid E
      rw [s1] at c2
      clear h ok E M3 hb s0 s1 ok3
      go_enter Try.func9, Try.ntmps9
      go_wp2_with fail
      refine C.out.mono ?_
      rintro e w1 ⟨rfl, m⟩
      have END := Lib.hid (Asks.of (w := w) (T := T) (I := I) (p := askP T I s now waited) HE.out rfl ⟨m.ct, KP.out.trans m.kp (fun g e => .inl e)⟩)
      clear m C KP HE
      go_wp2_with fail
      go_ret
      exact END.out
    rw [if_neg s1] at E
    have C := Lib.hid (goOn_walk M3.ct hI ok3 now m0 m1)
    have KP := Lib.hid M3.kp
    have HE := Lib.hid E
    have s2 : s.is = 2 := by have := ok.is0; have := ok.is2; omega
    rw [s2] at c2
    clear h ok E M3 hb s0 s1 s2 ok3
    go_enter Try.func9, Try.ntmps9
    go_wp2_with fail
    refine C.out.mono ?_
    rintro e w1 ⟨rfl, m⟩
    have END := Lib.hid (Asks.of (w := w) (T := T) (I := I) (p := askP T I s now waited) HE.out rfl ⟨m.ct, KP.out.trans m.kp (fun g e => .inl e)⟩)
    clear m C KP HE
    go_wp2_with fail
    go_ret
    exact END.out
end
end Go.Proofs.Ytljklehlmahbgaa
