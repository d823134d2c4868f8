/-
  Layer 23 (fuse): Ask and Bad, the program's and the document's; the document's Good.
-/
import Derived.Test.YtihloamiibelgaaFuseMem
namespace Go.Proofs.Ytihloamiibelgaa
open Go.ChangeShapes Go.WideShapes Go.ChangeAt Go.RowKit
set_option linter.unusedVariables false

section
variable {w w' : World} {a : Nat} {b p : Int} {s : Fz}
set_option maxRecDepth 100000 in
set_option maxHeartbeats 400000 in
theorem ask_walk (h : Fb 44 w a b p s) (g : GoodF b p) (k : FzOk b s) (n : Int) (n0 : -9223372036854775808 ≤ n) (n1 : n ≤ 9223372036854775807) :
    Calls Try.prog 9 #[.pointer (some ⟨a, 0, none⟩), .int .i64 n] w fun e w' => e = .returned (askV p s n) ∧ Mf 44 w w' a b p (askF p s n) := by
  obtain ⟨b1, b2, p1, p2⟩ := g
  obtain ⟨l0, l1⟩ := k.bl
  rcases ask_ways k p n with ⟨y, no, e⟩ | ⟨y, z, yes, e⟩ | ⟨y, z, q, yes, e⟩ | ⟨y, z, q, no, e⟩ | ⟨y, z, no, e⟩
  all_goals
    obtain ⟨st, fl, bl⟩ := s
    dsimp only at *
    try subst z
    rw [e]
    first | rw [askV_yes yes] | (rw [askV_no no]; unfold errF)
    have HM := Lib.hid (Mf.refl h)
    have HM2 := Lib.hid (fun q => (Mf.drewN HM.out q).set2 2)
    have CI := Lib.hid (fun w hn => withinF_in w (n := n) hn)
    have CO := Lib.hid (fun w hn => withinF_out w (n := n) hn)
    have HY := Lib.hid y
    have c0 := h.c0
    have c1 := h.c1
    have c2 := h.c2
    have c3 := h.c3
    have c4 := h.c4
    have f2 := h.fr 2
    have f3 := h.fr 3
    have f4 := h.fr 4
    clear h k e y
    try clear yes
    try clear no
  · go_enter Try.func9, Try.ntmps9
    go_wp2_with fail
    refine (CO.out _ HY.out).mono ?_
    rintro e w1 ⟨rfl, rfl⟩
    clear CI CO HY
    go_wp2_with fail
    go_ret
    exact ⟨rfl, HM.out⟩
  · go_enter Try.func9, Try.ntmps9
    go_wp2_with fail
    refine (CI.out _ HY.out).mono ?_
    rintro e w1 ⟨rfl, rfl⟩
    clear CI CO HY
    go_wp2_with fail
    go_ret
    exact ⟨rfl, HM.out⟩
  · have z1 : IntKind.i64.wrap (bl + p) = bl + p := by rw [IntKind.wrap_i64]; omega
    go_enter Try.func9, Try.ntmps9
    go_wp2_with fail
    refine (CI.out _ HY.out).mono ?_
    rintro e w1 ⟨rfl, rfl⟩
    clear CI CO HY
    go_wp2_with fail
    go_quiet (fail)
    go_wp2_with fail
    go_ret
    exact ⟨rfl, HM2.out _⟩
  · have z1 : IntKind.i64.wrap (bl + p) = bl + p := by rw [IntKind.wrap_i64]; omega
    go_enter Try.func9, Try.ntmps9
    go_wp2_with fail
    refine (CI.out _ HY.out).mono ?_
    rintro e w1 ⟨rfl, rfl⟩
    clear CI CO HY
    go_wp2_with fail
    go_quiet (fail)
    go_wp2_with fail
    go_ret
    exact ⟨rfl, HM.out.drewN _⟩
  · have z1 : IntKind.i64.wrap (bl + p) = bl + p := by rw [IntKind.wrap_i64]; omega
    go_enter Try.func9, Try.ntmps9
    go_wp2_with fail
    refine (CI.out _ HY.out).mono ?_
    rintro e w1 ⟨rfl, rfl⟩
    clear CI CO HY
    go_wp2_with fail
    go_quiet (fail)
    go_wp2_with fail
    go_ret
    exact ⟨rfl, HM.out.drewN _⟩
set_option maxRecDepth 100000 in
set_option maxHeartbeats 400000 in
theorem ref_ask (h : Fb 26 w a b p s) (g : GoodF b p) (k : FzOk b s) (n : Int) (n0 : -9223372036854775808 ≤ n) (n1 : n ≤ 9223372036854775807) :
    Calls Try.prog 10 #[.pointer (some ⟨a, 0, none⟩), .int .i64 n] w fun e w' => e = .returned (.bool (decide (YesF p s n))) ∧ Mf 26 w w' a b p (askF p s n) := by
  obtain ⟨b1, b2, p1, p2⟩ := g
  obtain ⟨l0, l1⟩ := k.bl
  rcases ask_ways k p n with ⟨y, no, e⟩ | ⟨y, z, yes, e⟩ | ⟨y, z, q, yes, e⟩ | ⟨y, z, q, no, e⟩ | ⟨y, z, no, e⟩
  all_goals
    obtain ⟨st, fl, bl⟩ := s
    dsimp only at *
    try subst z
    rw [e]
    first | rw [decide_eq_true yes] | rw [decide_eq_false no]
    have HM := Lib.hid (Mf.refl h)
    have HM2 := Lib.hid (fun q => (Mf.drewN HM.out q).set2 2)
    have HY := Lib.hid y
    have c0 := h.c0
    have c1 := h.c1
    have c2 := h.c2
    have c3 := h.c3
    have c4 := h.c4
    have f2 := h.fr 2
    have f3 := h.fr 3
    have f4 := h.fr 4
    clear h k e y
    try clear yes
    try clear no
  · rcases wif_out HY.out with x | ⟨x1, x2⟩
    all_goals
      go_enter Try.func10, Try.ntmps10
      go_wp2_with fail
      go_ret
      exact ⟨rfl, HM.out⟩
  · obtain ⟨y0, y1⟩ := HY.out
    go_enter Try.func10, Try.ntmps10
    go_wp2_with fail
    go_ret
    exact ⟨rfl, HM.out⟩
  · have z1 : IntKind.i64.wrap (n - bl) = n - bl := by rw [IntKind.wrap_i64]; obtain ⟨y0, y1⟩ := HY.out; omega
    obtain ⟨y0, y1⟩ := HY.out
    have z3 : ¬ n - bl < p := by omega
    go_enter Try.func10, Try.ntmps10
    go_wp2_with fail
    go_quiet (fail)
    go_wp2_with fail
    go_ret
    exact ⟨rfl, HM2.out _⟩
  · have z1 : IntKind.i64.wrap (n - bl) = n - bl := by rw [IntKind.wrap_i64]; obtain ⟨y0, y1⟩ := HY.out; omega
    obtain ⟨y0, y1⟩ := HY.out
    have z3 : n - bl < p := by omega
    go_enter Try.func10, Try.ntmps10
    go_wp2_with fail
    go_quiet (fail)
    go_wp2_with fail
    go_ret
    exact ⟨rfl, HM.out.drewN _⟩
  · obtain ⟨y0, y1⟩ := HY.out
    go_enter Try.func10, Try.ntmps10
    go_wp2_with fail
    go_ret
    exact ⟨rfl, HM.out⟩
set_option maxRecDepth 100000 in
set_option maxHeartbeats 400000 in
theorem bad_walk (h : Fb 44 w a b p s) (g : GoodF b p) (k : FzOk b s) (n : Int) (n0 : -9223372036854775808 ≤ n) (n1 : n ≤ 9223372036854775807) :
    Calls Try.prog 13 #[.pointer (some ⟨a, 0, none⟩), .int .i64 n] w fun e w' => e = .returned (.tuple #[]) ∧ Mf 44 w w' a b p (badF b s n) := by
  obtain ⟨b1, b2, p1, p2⟩ := g
  obtain ⟨l0, l1⟩ := k.bl
  have l2 := k.fl
  rcases bad_ways k n with ⟨y, e⟩ | ⟨y, z, e⟩ | ⟨y, z, e⟩ | ⟨y, z, q, e⟩ | ⟨y, z, q, e⟩
  all_goals
    obtain ⟨st, fl, bl⟩ := s
    dsimp only at *
    try subst z
    rw [e]
    have HM := Lib.hid (Mf.refl h)
    have CI := Lib.hid (fun w hn => withinF_in w (n := n) hn)
    have CO := Lib.hid (fun w hn => withinF_out w (n := n) hn)
    have HY := Lib.hid y
    have c0 := h.c0
    have c1 := h.c1
    have c2 := h.c2
    have c3 := h.c3
    have c4 := h.c4
    have f2 := h.fr 2
    have f3 := h.fr 3
    have f4 := h.fr 4
    clear h k e y
  · go_enter Try.func13, Try.ntmps13
    go_wp2_with fail
    refine (CO.out _ HY.out).mono ?_
    rintro e w1 ⟨rfl, rfl⟩
    clear CI CO HY
    go_wp2_with fail
    first | go_end0 | ((try simp only [Exit.inBlock, Exit.then]); refine bodyPost_ret (results_none rfl _ _ _) rfl ?_)
    exact ⟨rfl, HM.out⟩
  · go_enter Try.func13, Try.ntmps13
    go_wp2_with fail
    refine (CI.out _ HY.out).mono ?_
    rintro e w1 ⟨rfl, rfl⟩
    clear CI CO HY
    go_wp2_with fail
    first | go_end0 | ((try simp only [Exit.inBlock, Exit.then]); refine bodyPost_ret (results_none rfl _ _ _) rfl ?_)
    exact ⟨rfl, HM.out⟩
  · have M2 := Lib.hid ((HM.out.set2 1).set4 n)
    go_enter Try.func13, Try.ntmps13
    go_wp2_with fail
    refine (CI.out _ HY.out).mono ?_
    rintro e w1 ⟨rfl, rfl⟩
    clear CI CO HY
    go_wp2_with fail
    first | go_end0 | ((try simp only [Exit.inBlock, Exit.then]); refine bodyPost_ret (results_none rfl _ _ _) rfl ?_)
    exact ⟨rfl, M2.out⟩
  · have z1 : IntKind.i64.wrap ((fl : Int) + 1) = (fl : Int) + 1 := by rw [IntKind.wrap_i64]; omega
    have M3 : Hid (Mf 44 w (w.setCell ⟨a, 3, none⟩ (.int .i64 ((fl : Int) + 1))) a b p ⟨0, fl + 1, bl⟩) := Lib.hid (HM.out.set3 (fl + 1))
    have q4 : (((fl + 1 : Nat) : Int)) < b := by omega
    go_enter Try.func13, Try.ntmps13
    go_wp2_with fail
    refine (CI.out _ HY.out).mono ?_
    rintro e w1 ⟨rfl, rfl⟩
    clear CI CO HY
    go_wp2_with fail
    clear c0 c1 c2 c3 c4 f2 f3 f4
    generalize w.setCell ⟨a, 3, none⟩ (.int .i64 ((fl : Int) + 1)) = w5 at *
    have c0 := M3.out.f.c0
    have c1 := M3.out.f.c1
    have c2 := M3.out.f.c2
    have c3 := M3.out.f.c3
    have c4 := M3.out.f.c4
    have f2 := M3.out.f.fr 2
    have f3 := M3.out.f.fr 3
    have f4 := M3.out.f.fr 4
    dsimp only at c2 c3 c4
    go_quiet (fail)
    go_wp2_with fail
    first | go_end0 | ((try simp only [Exit.inBlock, Exit.then]); refine bodyPost_ret (results_none rfl _ _ _) rfl ?_)
    exact ⟨rfl, M3.out.drewN _⟩
  · have z1 : IntKind.i64.wrap ((fl : Int) + 1) = (fl : Int) + 1 := by rw [IntKind.wrap_i64]; omega
    have M3 : Hid (Mf 44 w (w.setCell ⟨a, 3, none⟩ (.int .i64 ((fl : Int) + 1))) a b p ⟨0, fl + 1, bl⟩) := Lib.hid (HM.out.set3 (fl + 1))
    have q4 : ¬ (((fl + 1 : Nat) : Int)) < b := by omega
    go_enter Try.func13, Try.ntmps13
    go_wp2_with fail
    refine (CI.out _ HY.out).mono ?_
    rintro e w1 ⟨rfl, rfl⟩
    clear CI CO HY
    go_wp2_with fail
    clear c0 c1 c2 c3 c4 f2 f3 f4
    generalize w.setCell ⟨a, 3, none⟩ (.int .i64 ((fl : Int) + 1)) = w5 at *
    have c0 := M3.out.f.c0
    have c1 := M3.out.f.c1
    have c2 := M3.out.f.c2
    have c3 := M3.out.f.c3
    have c4 := M3.out.f.c4
    have f2 := M3.out.f.fr 2
    have f3 := M3.out.f.fr 3
    have f4 := M3.out.f.fr 4
    dsimp only at c2 c3 c4
    go_quiet (fail)
    go_wp2_with fail
    first | go_end0 | ((try simp only [Exit.inBlock, Exit.then]); refine bodyPost_ret (results_none rfl _ _ _) rfl ?_)
    exact ⟨rfl, ((M3.out.drewN _).set2 1).set4 n⟩
set_option maxRecDepth 100000 in
set_option maxHeartbeats 400000 in
theorem ref_bad (h : Fb 26 w a b p s) (g : GoodF b p) (k : FzOk b s) (n : Int) (n0 : -9223372036854775808 ≤ n) (n1 : n ≤ 9223372036854775807) :
    Calls Try.prog 14 #[.pointer (some ⟨a, 0, none⟩), .int .i64 n] w fun e w' => e = .returned (.tuple #[]) ∧ Mf 26 w w' a b p (badF b s n) := by
  obtain ⟨b1, b2, p1, p2⟩ := g
  obtain ⟨l0, l1⟩ := k.bl
  have l2 := k.fl
  rcases bad_ways k n with ⟨y, e⟩ | ⟨y, z, e⟩ | ⟨y, z, e⟩ | ⟨y, z, q, e⟩ | ⟨y, z, q, e⟩
  all_goals
    obtain ⟨st, fl, bl⟩ := s
    dsimp only at *
    try subst z
    rw [e]
    have HM := Lib.hid (Mf.refl h)
    have HY := Lib.hid y
    have c0 := h.c0
    have c1 := h.c1
    have c2 := h.c2
    have c3 := h.c3
    have c4 := h.c4
    have f2 := h.fr 2
    have f3 := h.fr 3
    have f4 := h.fr 4
    clear h k e y
  · rcases wif_out HY.out with x | ⟨x1, x2⟩
    all_goals
      go_enter Try.func14, Try.ntmps14
      go_wp2_with fail
      first | go_end0 | ((try simp only [Exit.inBlock, Exit.then]); refine bodyPost_ret (results_none rfl _ _ _) rfl ?_)
      exact ⟨rfl, HM.out⟩
  · obtain ⟨y0, y1⟩ := HY.out
    go_enter Try.func14, Try.ntmps14
    go_wp2_with fail
    first | go_end0 | ((try simp only [Exit.inBlock, Exit.then]); refine bodyPost_ret (results_none rfl _ _ _) rfl ?_)
    exact ⟨rfl, HM.out⟩
  · have M2 := Lib.hid ((HM.out.set2 1).set4 n)
    obtain ⟨y0, y1⟩ := HY.out
    go_enter Try.func14, Try.ntmps14
    go_wp2_with fail
    first | go_end0 | ((try simp only [Exit.inBlock, Exit.then]); refine bodyPost_ret (results_none rfl _ _ _) rfl ?_)
    exact ⟨rfl, M2.out⟩
  · have z1 : IntKind.i64.wrap ((fl : Int) + 1) = (fl : Int) + 1 := by rw [IntKind.wrap_i64]; omega
    have M3 : Hid (Mf 26 w (w.setCell ⟨a, 3, none⟩ (.int .i64 ((fl : Int) + 1))) a b p ⟨0, fl + 1, bl⟩) := Lib.hid (HM.out.set3 (fl + 1))
    have q4 : (((fl + 1 : Nat) : Int)) < b := by omega
    obtain ⟨y0, y1⟩ := HY.out
    go_enter Try.func14, Try.ntmps14
    go_wp2_with fail
    clear c0 c1 c2 c3 c4 f2 f3 f4
    generalize w.setCell ⟨a, 3, none⟩ (.int .i64 ((fl : Int) + 1)) = w5 at *
    have c0 := M3.out.f.c0
    have c1 := M3.out.f.c1
    have c2 := M3.out.f.c2
    have c3 := M3.out.f.c3
    have c4 := M3.out.f.c4
    have f2 := M3.out.f.fr 2
    have f3 := M3.out.f.fr 3
    have f4 := M3.out.f.fr 4
    dsimp only at c2 c3 c4
    go_quiet (fail)
    go_wp2_with fail
    first | go_end0 | ((try simp only [Exit.inBlock, Exit.then]); refine bodyPost_ret (results_none rfl _ _ _) rfl ?_)
    exact ⟨rfl, M3.out.drewN _⟩
  · have z1 : IntKind.i64.wrap ((fl : Int) + 1) = (fl : Int) + 1 := by rw [IntKind.wrap_i64]; omega
    have M3 : Hid (Mf 26 w (w.setCell ⟨a, 3, none⟩ (.int .i64 ((fl : Int) + 1))) a b p ⟨0, fl + 1, bl⟩) := Lib.hid (HM.out.set3 (fl + 1))
    have q4 : ¬ (((fl + 1 : Nat) : Int)) < b := by omega
    obtain ⟨y0, y1⟩ := HY.out
    go_enter Try.func14, Try.ntmps14
    go_wp2_with fail
    clear c0 c1 c2 c3 c4 f2 f3 f4
    generalize w.setCell ⟨a, 3, none⟩ (.int .i64 ((fl : Int) + 1)) = w5 at *
    have c0 := M3.out.f.c0
    have c1 := M3.out.f.c1
    have c2 := M3.out.f.c2
    have c3 := M3.out.f.c3
    have c4 := M3.out.f.c4
    have f2 := M3.out.f.fr 2
    have f3 := M3.out.f.fr 3
    have f4 := M3.out.f.fr 4
    dsimp only at c2 c3 c4
    go_quiet (fail)
    go_wp2_with fail
    first | go_end0 | ((try simp only [Exit.inBlock, Exit.then]); refine bodyPost_ret (results_none rfl _ _ _) rfl ?_)
    exact ⟨rfl, ((M3.out.drewN _).set2 1).set4 n⟩
theorem refF_yes (h : Fb 26 w a b p s) (g : GoodF b p) :
    Calls Try.prog 7 #[.pointer (some ⟨a, 0, none⟩)] w fun e w' => e = .returned (.bool true) ∧ ∃ q, w' = w.drewN q := by
  have c0 := h.c0
  have c1 := h.c1
  obtain ⟨b1, b2, p1, p2⟩ := g
  clear h
  go_enter Try.func7, Try.ntmps7
  go_wp2_with fail
  go_ret
  exact ⟨rfl, 0, rfl⟩
theorem refF_no (h : Fb 26 w a b p s) (g : ¬ GoodF b p) :
    Calls Try.prog 7 #[.pointer (some ⟨a, 0, none⟩)] w fun e w' => e = .returned (.bool false) ∧ ∃ q, w' = w.drewN q := by
  have c0 := h.c0
  have c1 := h.c1
  rcases not_goodF g with x | ⟨x1, x2⟩ | ⟨x1, x2, x3⟩ | ⟨x1, x2, x3, x4⟩
  · have y : ¬ 1 ≤ b := by omega
    clear h g x
    go_enter Try.func7, Try.ntmps7
    go_wp2_with fail
    go_ret
    exact ⟨rfl, 0, rfl⟩
  · have y : ¬ b ≤ 1000 := by omega
    have y1 : 1 ≤ b := by omega
    clear h g x1 x2
    go_enter Try.func7, Try.ntmps7
    go_wp2_with fail
    go_ret
    exact ⟨rfl, 0, rfl⟩
  · have y : ¬ 1 ≤ p := by omega
    have y1 : 1 ≤ b := by omega
    have y2 : b ≤ 1000 := by omega
    clear h g x1 x2 x3
    go_enter Try.func7, Try.ntmps7
    go_wp2_with fail
    go_ret
    exact ⟨rfl, 0, rfl⟩
  · have y : ¬ p ≤ 1000000 := by omega
    have y1 : 1 ≤ b := by omega
    have y2 : b ≤ 1000 := by omega
    have y3 : 1 ≤ p := by omega
    clear h g x1 x2 x3 x4
    go_enter Try.func7, Try.ntmps7
    go_wp2_with fail
    go_ret
    exact ⟨rfl, 0, rfl⟩
end
end Go.Proofs.Ytihloamiibelgaa
