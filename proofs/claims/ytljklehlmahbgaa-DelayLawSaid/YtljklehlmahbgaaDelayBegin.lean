/-
  Layer 11 (delay): a control begins to drop.
-/
import Derived.Test.YtljklehlmahbgaaDelayMem
namespace Go.Proofs.Ytljklehlmahbgaa
open Go.ChangeShapes Go.WideShapes Go.ChangeAt Go.RowKit
set_option linter.unusedVariables false

section
variable {w : World} {a : Nat} {T I : Int} {s : Cs}
/-- What a call of a control comes to. -/
def Asks (w : World) (a : Nat) (T I : Int) (p : Bool × Cs) (e : Ending) (w' : World) : Prop := e = .returned (.bool p.1) ∧ Mc w w' a T I p.2
theorem Asks.of {e : Ending} {w' : World} {p : Bool × Cs} {b : Bool} {s' : Cs} (hp : p = (b, s')) (he : e = .returned (.bool b)) (hm : Mc w w' a T I s') : Asks w a T I p e w' := by subst hp; exact ⟨he, hm⟩
set_option maxRecDepth 100000 in
set_option maxHeartbeats 2000000 in
theorem begin_walk (h : Ct w a T I s) (hI : mayB I) (ok : CsOk s) (now : Int) (n0 : 0 ≤ now) (n1 : now ≤ 1099511627776) :
    Calls Try.prog 11 #[.pointer (some ⟨a, 0, none⟩), .int .i64 now] w (Asks w a T I (beginP I s now)) := by
  have c1 := h.c1
  have c2 := h.c2
  have c4 := h.c4
  have c5 := h.c5
  have c6 := h.c6
  have f2 := h.fr 2
  have f5 := h.fr 5
  have f6 := h.fr 6
  have hlt := h.lt
  by_cases ht : now < s.till
  · have e0 : beginP I s now = (false, s) := if_pos ht
    have END := Lib.hid (Asks.of (w := w) (T := T) (I := I) e0 rfl (Mc.refl h))
    generalize beginP I s now = P at *
    clear h ok e0
    go_enter Try.func11, Try.ntmps11
    go_wp2_with fail
    go_ret
    exact END.out
  · have e0 : beginP I s now = (true, { s with is := 2, count := beginC I s now, next := now + pauseZ I (beginC I s now) }) := if_neg ht
    have hc := beginC_may (I := I) ok now
    have pb := pauseZ_bd hI hc
    obtain ⟨i1, i2⟩ := hI
    obtain ⟨k1, k2⟩ := hc
    have CP := Lib.hid (fun x => pause_walk x I (beginC I s now) (by omega) (by omega) (by omega) (by omega))
    have M : Hid (∀ n w1 z, z = now + pauseZ I (beginC I s now) → w1 = w.drewN n → Mc w (((w1.setCell ⟨a, 6, none⟩ (.int .i64 (beginC I s now))).setCell ⟨a, 2, none⟩ (.int .i64 2)).setCell ⟨a, 5, none⟩ (.int .i64 z)) a T I { s with is := 2, count := beginC I s now, next := now + pauseZ I (beginC I s now) }) :=
      Lib.hid fun n w1 z hz hw => by subst hw; subst hz; exact ((((Mc.refl h).drewN n).set6 _).set2 _).set5 _
    have EC := Lib.hid (show beginC I s now = if 2 < s.count ∧ now - s.next < 16 * I then s.count - 2 else 1 from rfl)
    generalize beginC I s now = C at *
    generalize pauseZ I C = Z at *
    have o0 := ok.c0
    have o1 := ok.c1
    have o2 := ok.n0
    have o3 := ok.n1
    have END := Lib.hid e0
    generalize beginP I s now = P at *
    clear e0 h ok
    obtain ⟨is, last, till, next, count⟩ := s
    dsimp only at *
    by_cases h2 : 2 < count
    · by_cases h16 : now - next < 16 * I
      · have ec : C = count - 2 := by rw [EC.out, if_pos ⟨h2, h16⟩]
        clear EC
        subst ec
        go_enter Try.func11, Try.ntmps11
        go_wp2_with fail
        go_quiet (fail)
        go_wp2_with fail
        go_region_law (go_simp; go_at_call 6; with_reducible refine (CP.out _).mono ?_; rintro e w' ⟨rfl, rfl⟩; try dsimp only)
        all_goals
          go_wp2_with fail
          go_ret
          exact Asks.of END.out rfl (M.out nq _ _ (by first | rfl | (rw [IntKind.wrap_i64]; omega)) rfl).drew
      · have ec : C = 1 := by rw [EC.out, if_neg (fun h => h16 h.2)]
        clear EC
        subst ec
        go_enter Try.func11, Try.ntmps11
        go_wp2_with fail
        go_quiet (fail)
        go_wp2_with fail
        go_region_law (go_simp; go_at_call 6; with_reducible refine (CP.out _).mono ?_; rintro e w' ⟨rfl, rfl⟩; try dsimp only)
        all_goals
          go_wp2_with fail
          go_ret
          exact Asks.of END.out rfl (M.out nq _ _ (by first | rfl | (rw [IntKind.wrap_i64]; omega)) rfl).drew
    · have ec : C = 1 := by rw [EC.out, if_neg (fun h => h2 h.1)]
      clear EC
      subst ec
      go_enter Try.func11, Try.ntmps11
      go_wp2_with fail
      have g2 : decide ((2 : Int) < count) = false := decide_eq_false (by omega)
      go_quiet (fail)
      clear g2
      go_wp2_with fail
      go_region_law (go_simp; go_at_call 6; with_reducible refine (CP.out _).mono ?_; rintro e w' ⟨rfl, rfl⟩; try dsimp only)
      all_goals
        go_wp2_with fail
        go_ret
        exact Asks.of END.out rfl (M.out nq _ _ (by first | rfl | (rw [IntKind.wrap_i64]; omega)) rfl).drew
end
end Go.Proofs.Ytljklehlmahbgaa
