/-
  Layer 16 (level): a gauge is told how much waits, the program's.
-/
import Derived.Test.YtppffnfldgoknaaLevelMem
namespace Go.Proofs.Ytppffnfldgoknaa
open Go.ChangeShapes Go.WideShapes Go.ChangeAt Go.RowKit
set_option linter.unusedVariables false

section
variable {w w' : World} {a : Nat} {N low high hold m d : Int} {s : Ls}
theorem tell_down' (h : ¬ high < d) (h2 : ¬ low ≤ d) : tellL N low high hold s d = (if s.held + 1 < hold then ⟨s.is, s.held + 1⟩ else ⟨if 0 < s.is then s.is - 1 else s.is, 0⟩) := by unfold tellL; rw [if_neg h, if_neg h2]
set_option maxRecDepth 100000 in
set_option maxHeartbeats 1000000 in
theorem held_walk (h : Gp w a low high hold m s) (o1 : 1 ≤ hold) (o2 : hold ≤ 1000) (i0 : 0 ≤ s.is) (i1 : s.is ≤ 1000) (h0 : 0 ≤ s.held) (h1 : s.held < hold) :
    Calls Try.prog 11 #[.pointer (some ⟨a, 0, none⟩)] w fun e w' => e = .returned (.tuple #[]) ∧
      Mp w w' a low high hold m (if s.held + 1 < hold then ⟨s.is, s.held + 1⟩ else ⟨if 0 < s.is then s.is - 1 else s.is, 0⟩) := by
  have c2 := h.c2
  have c3 := h.c3
  have c4 := h.c4
  have f3 := h.fr 3
  have f4 := h.fr 4
  have M0 := Lib.hid (Mp.refl h)
  have hlt := h.lt
  clear h
  obtain ⟨is, held⟩ := s
  dsimp only at *
  obtain ⟨q, hq⟩ : ∃ q, held + 1 = q := ⟨_, rfl⟩
  have z1 : IntKind.i64.wrap (held + 1) = q := by rw [IntKind.wrap_i64]; omega
  rw [hq]
  have hqh : q ≤ hold := by omega
  clear hq h0 h1
  by_cases hh : q < hold
  · rw [if_pos hh]
    have M1 : Hid (∀ n, Mp w ((w.setCell ⟨a, 3, none⟩ (.int .i64 q)).drewN n) a low high hold m ⟨is, q⟩) := Lib.hid (fun n => (M0.out.set3 _).drewN n)
    have x1 : ¬ q = hold := by omega
    clear hh hqh o1 o2 i0 i1 M0
    go_enter Try.func11, Try.ntmps11
    go_wp2_with fail
    go_quiet (fail)
    go_wp2_with fail
    go_end0
    exact ⟨rfl, M1.out _⟩
  · rw [if_neg hh]
    obtain rfl : q = hold := by omega
    have z2 : IntKind.i64.wrap (is - 1) = is - 1 := by rw [IntKind.wrap_i64]; omega
    clear hh hqh o1 o2
    by_cases hi : 0 < is
    · rw [if_pos hi]
      have M1 : Hid (∀ n, Mp w ((((w.setCell ⟨a, 3, none⟩ (.int .i64 q)).drewN n).setCell ⟨a, 4, none⟩ (.int .i64 (is - 1))).setCell ⟨a, 3, none⟩ (.int .i64 0)) a low high q m ⟨is - 1, 0⟩) := Lib.hid (fun n => (((M0.out.set3 _).drewN n).set4 _).set3 _)
      have x2 : ¬ is - 1 < 0 := by omega
      clear hi i0 i1 M0
      go_enter Try.func11, Try.ntmps11
      go_wp2_with fail
      go_quiet (fail)
      go_wp2_with fail
      go_end0
      exact ⟨rfl, M1.out _⟩
    · rw [if_neg hi]
      have x3 : is = 0 := by omega
      subst x3
      have M1 : Hid (∀ n, Mp w ((((w.setCell ⟨a, 3, none⟩ (.int .i64 q)).drewN n).setCell ⟨a, 4, none⟩ (.int .i64 0)).setCell ⟨a, 3, none⟩ (.int .i64 0)) a low high q m ⟨0, 0⟩) := Lib.hid (fun n => (((M0.out.set3 _).drewN n).set4 _).set3 _)
      clear hi i0 i1 M0
      go_enter Try.func11, Try.ntmps11
      go_wp2_with fail
      go_quiet (fail)
      go_wp2_with fail
      go_end0
      exact ⟨rfl, M1.out _⟩
/-- What a call of Tell comes to. -/
def Told (w : World) (a : Nat) (low high hold m : Int) (s' : Ls) (e : Ending) (w' : World) : Prop := e = .returned (.int .i64 s'.is) ∧ Mp w w' a low high hold m s'
set_option maxRecDepth 100000 in
set_option maxHeartbeats 1000000 in
theorem tell_walk (h : Gp w a low high hold m s) (g : GoodL N low high hold) (ok : LsOk N hold s) (hm : m = N - 1) (d : Int) :
    Calls Try.prog 8 #[.pointer (some ⟨a, 0, none⟩), .int .i64 d] w (Told w a low high hold m (tellL N low high hold s d)) := by
  have c0 := h.c0
  have c1 := h.c1
  have c3 := h.c3
  have c4 := h.c4
  have c5 := h.c5
  have f3 := h.fr 3
  have f4 := h.fr 4
  have M0 := Lib.hid (Mp.refl h)
  obtain ⟨i0, i1, h0, h1⟩ := ok
  obtain ⟨n1, n8, l0, lh, hi1, o1, o2⟩ := g
  unfold Told
  by_cases y1 : high < d
  · rw [tell_up y1]
    clear h h0 h1 o1 o2 l0 lh hi1
    obtain ⟨is, held⟩ := s
    dsimp only at *
    obtain ⟨q, hq⟩ : ∃ q, is + 1 = q := ⟨_, rfl⟩
    have z1 : IntKind.i64.wrap (is + 1) = q := by rw [IntKind.wrap_i64]; omega
    rw [hq]
    by_cases hN : q < N
    · rw [if_pos hN]
      have M1 : Hid (∀ n, Mp w (((w.setCell ⟨a, 4, none⟩ (.int .i64 q)).drewN n).setCell ⟨a, 3, none⟩ (.int .i64 0)) a low high hold m ⟨q, 0⟩) := Lib.hid (fun n => ((M0.out.set4 _).drewN n).set3 _)
      have x2 : ¬ m < q := by omega
      clear hN hq i0 i1 M0 hm n1 n8
      go_enter Try.func8, Try.ntmps8
      go_wp2_with fail
      go_region_law (fail)
      all_goals
        go_wp2_with fail
        go_ret
        exact ⟨rfl, M1.out _⟩
    · rw [if_neg hN]
      have x3 : m = is := by omega
      subst x3
      have M1 : Hid (∀ n, Mp w (((w.setCell ⟨a, 4, none⟩ (.int .i64 m)).drewN n).setCell ⟨a, 3, none⟩ (.int .i64 0)) a low high hold m ⟨m, 0⟩) := Lib.hid (fun n => ((M0.out.set4 _).drewN n).set3 _)
      have x2 : m < q := by omega
      clear hN hq i0 i1 M0 hm n1 n8
      go_enter Try.func8, Try.ntmps8
      go_wp2_with fail
      go_region_law (fail)
      all_goals
        go_wp2_with fail
        go_ret
        exact ⟨rfl, M1.out _⟩
  · by_cases y2 : low ≤ d
    · rw [tell_mid y1 y2]
      have M1 : Hid (Mp w (w.setCell ⟨a, 3, none⟩ (.int .i64 0)) a low high hold m ⟨s.is, 0⟩) := Lib.hid (M0.out.set3 _)
      have x3 : ¬ d < low := by omega
      clear h h0 h1 o1 o2 l0 lh hi1 y2 i0 i1 M0 hm n1 n8
      go_enter Try.func8, Try.ntmps8
      go_wp2_with fail
      go_ret
      exact ⟨rfl, M1.out⟩
    · have x3 : d < low := by omega
      have C1 := Lib.hid (held_walk h o1 o2 i0 (by omega) h0 h1)
      have E1 := Lib.hid (tell_down' (s := s) y1 y2 (N := N) (hold := hold))
      rw [E1.out]
      obtain ⟨s', hs⟩ : ∃ s', (if s.held + 1 < hold then (⟨s.is, s.held + 1⟩ : Ls) else ⟨if 0 < s.is then s.is - 1 else s.is, 0⟩) = s' := ⟨_, rfl⟩
      rw [hs] at C1 ⊢
      clear h h0 h1 o1 o2 l0 lh hi1 y2 i0 i1 M0 hm n1 n8 hs E1 c3 c4 f3 f4 c5
      go_enter Try.func8, Try.ntmps8
      go_wp2_with fail
      refine C1.out.mono ?_
      rintro e w' ⟨rfl, M2⟩
      have c4 := M2.gp.c4
      have M2 := Lib.hid M2
      go_wp2_with fail
      go_ret
      exact ⟨rfl, M2.out⟩
end
end Go.Proofs.Ytppffnfldgoknaa
