/-
  Layer 16 (level): the document's gauge is told; may it be?
-/
import Derived.Test.YtppffnfldgoknaaLevelMem
namespace Go.Proofs.Ytppffnfldgoknaa
open Go.ChangeShapes Go.WideShapes Go.ChangeAt Go.RowKit
set_option linter.unusedVariables false

section
variable {w w' : World} {a : Nat} {N low high hold m d : Int} {s : Ls}
/-- What a call of the document's Tell comes to. -/
def ToldR (w : World) (a : Nat) (N low high hold : Int) (s' : Ls) (e : Ending) (w' : World) : Prop := e = .returned (.int .i64 s'.is) ∧ Mr w w' a N low high hold s'
set_option maxRecDepth 100000 in
set_option maxHeartbeats 1000000 in
theorem ref_up (h : Gr w a N low high hold s) (g : GoodL N low high hold) (ok : LsOk N hold s) (d : Int) (y1 : high < d) :
    Calls Try.prog 9 #[.pointer (some ⟨a, 0, none⟩), .int .i64 d] w (ToldR w a N low high hold (tellL N low high hold s d)) := by
  have c0 := h.c0
  have c2 := h.c2
  have c4 := h.c4
  have c5 := h.c5
  have f4 := h.fr 4
  have f5 := h.fr 5
  have M0 := Lib.hid (Mr.refl h)
  obtain ⟨i0, i1, h0, h1⟩ := ok
  obtain ⟨n1, n8, l0, lh, hi1, o1, o2⟩ := g
  rw [tell_up y1]
  unfold ToldR
  clear h h0 h1 o1 o2 l0 lh hi1
  obtain ⟨is, held⟩ := s
  dsimp only at *
  obtain ⟨q, hq⟩ : ∃ q, is + 1 = q := ⟨_, rfl⟩
  have z1 : IntKind.i64.wrap (is + 1) = q := by rw [IntKind.wrap_i64]; omega
  rw [hq]
  by_cases hN : q < N
  · rw [if_pos hN]
    have M1 : Hid (∀ n k, Mr w ((((w.drewN k).setCell ⟨a, 4, none⟩ (.int .i64 q)).drewN n).setCell ⟨a, 5, none⟩ (.int .i64 0)) a N low high hold ⟨q, 0⟩) := Lib.hid (fun n k => (((M0.out.drewN k).set4 _).drewN n).set5 _)
    clear hq i0 i1 M0 n1 n8
    go_enter Try.func9, Try.ntmps9
    go_wp2_with fail
    go_quiet (fail)
    go_wp2_with fail
    go_ret
    exact ⟨rfl, M1.out 0 _⟩
  · rw [if_neg hN]
    have M1 : Hid (∀ n, Mr w ((w.drewN n).setCell ⟨a, 5, none⟩ (.int .i64 0)) a N low high hold ⟨is, 0⟩) := Lib.hid (fun n => (M0.out.drewN n).set5 _)
    clear hq i0 i1 M0 n1 n8
    go_enter Try.func9, Try.ntmps9
    go_wp2_with fail
    go_quiet (fail)
    go_wp2_with fail
    go_ret
    exact ⟨rfl, M1.out _⟩
set_option maxRecDepth 100000 in
set_option maxHeartbeats 1000000 in
theorem ref_down (h : Gr w a N low high hold s) (g : GoodL N low high hold) (ok : LsOk N hold s) (d : Int) (y1 : ¬ high < d) :
    Calls Try.prog 9 #[.pointer (some ⟨a, 0, none⟩), .int .i64 d] w (ToldR w a N low high hold (tellL N low high hold s d)) := by
  have c1 := h.c1
  have c2 := h.c2
  have c3 := h.c3
  have c4 := h.c4
  have c5 := h.c5
  have f4 := h.fr 4
  have f5 := h.fr 5
  have M0 := Lib.hid (Mr.refl h)
  obtain ⟨i0, i1, h0, h1⟩ := ok
  obtain ⟨n1, n8, l0, lh, hi1, o1, o2⟩ := g
  unfold ToldR
  by_cases y2 : low ≤ d
  · rw [tell_mid y1 y2]
    clear h h0 h1 o1 o2 l0 lh hi1
    have M1 : Hid (Mr w (w.setCell ⟨a, 5, none⟩ (.int .i64 0)) a N low high hold ⟨s.is, 0⟩) := Lib.hid (M0.out.set5 _)
    clear i0 i1 M0 n1 n8
    go_enter Try.func9, Try.ntmps9
    go_wp2_with fail
    go_ret
    exact ⟨rfl, M1.out⟩
  · by_cases y3 : s.held + 1 < hold
    · rw [tell_hold y1 y2 y3]
      obtain ⟨is, held⟩ := s
      dsimp only at *
      obtain ⟨q, hq⟩ : ∃ q, held + 1 = q := ⟨_, rfl⟩
      have z1 : IntKind.i64.wrap (held + 1) = q := by rw [IntKind.wrap_i64]; omega
      rw [hq] at y3 ⊢
      have M1 : Hid (∀ n, Mr w ((w.setCell ⟨a, 5, none⟩ (.int .i64 q)).drewN n) a N low high hold ⟨is, q⟩) := Lib.hid (fun n => (M0.out.set5 _).drewN n)
      clear h h0 h1 o1 o2 l0 lh hi1 hq i0 i1 M0 n1 n8
      go_enter Try.func9, Try.ntmps9
      go_wp2_with fail
      go_quiet (fail)
      go_wp2_with fail
      go_ret
      exact ⟨rfl, M1.out _⟩
    · rw [tell_down y1 y2 y3]
      obtain ⟨is, held⟩ := s
      dsimp only at *
      obtain ⟨q, hq⟩ : ∃ q, held + 1 = q := ⟨_, rfl⟩
      have z1 : IntKind.i64.wrap (held + 1) = q := by rw [IntKind.wrap_i64]; omega
      have z2 : IntKind.i64.wrap (is - 1) = is - 1 := by rw [IntKind.wrap_i64]; omega
      rw [hq] at y3
      by_cases hi : 0 < is
      · rw [if_pos hi]
        have M1 : Hid (∀ n, Mr w ((((w.setCell ⟨a, 5, none⟩ (.int .i64 q)).drewN n).setCell ⟨a, 5, none⟩ (.int .i64 0)).setCell ⟨a, 4, none⟩ (.int .i64 (is - 1))) a N low high hold ⟨is - 1, 0⟩) := Lib.hid (fun n => (((M0.out.set5 _).drewN n).set5 _).set4 _)
        clear h h0 h1 o1 o2 l0 lh hi1 hq i0 i1 M0 n1 n8
        go_enter Try.func9, Try.ntmps9
        go_wp2_with fail
        go_quiet (fail)
        go_wp2_with fail
        go_ret
        exact ⟨rfl, M1.out _⟩
      · rw [if_neg hi]
        have M1 : Hid (∀ n, Mr w (((w.setCell ⟨a, 5, none⟩ (.int .i64 q)).drewN n).setCell ⟨a, 5, none⟩ (.int .i64 0)) a N low high hold ⟨is, 0⟩) := Lib.hid (fun n => ((M0.out.set5 _).drewN n).set5 _)
        clear h h0 h1 o1 o2 l0 lh hi1 hq i0 i1 M0 n1 n8
        go_enter Try.func9, Try.ntmps9
        go_wp2_with fail
        go_quiet (fail)
        go_wp2_with fail
        go_ret
        exact ⟨rfl, M1.out _⟩
theorem ref_tell (h : Gr w a N low high hold s) (g : GoodL N low high hold) (ok : LsOk N hold s) (d : Int) :
    Calls Try.prog 9 #[.pointer (some ⟨a, 0, none⟩), .int .i64 d] w (ToldR w a N low high hold (tellL N low high hold s d)) := by
  by_cases y1 : high < d
  · exact ref_up h g ok d y1
  · exact ref_down h g ok d y1
end
end Go.Proofs.Ytppffnfldgoknaa
