/-
  Layer 10 (ring): the calls of a ring of int: New, Len, Front, Push, Pop.
-/
import Derived.Test.YtcpkkgfdgdkogaaRingMem
import Derived.Deep.QuietTactic
import Derived.BigQuiet
import Derived.RegionTactic
import Derived.IntWalk
namespace Go.Proofs.Ytcpkkgfdgdkogaa
open Go.ChangeShapes Go.WideShapes Go.ChangeAt Go.RowKit
set_option linter.unusedVariables false

def encI (x : Int) : Value := .int .i64 x
abbrev RgI (w : World) (a r f m : Nat) (v : Value) (ps : List Int) : Prop := Rg 48 3 encI w a r f m v ps
abbrev RnI (w : World) (F : Nat → Prop) (a r : Nat) (q : List Int) : Prop := Rn 48 3 encI w F a r q
theorem neI : 48 ≠ 3 := by decide
theorem newI (w : World) (r : Nat) (h0 : 1 ≤ r) (h1 : r ≤ 1000) :
    Calls Try.prog 6 #[.int .i64 (r : Nat)] w fun e w' => ∃ a F, e = .returned (.tuple #[.pointer (some ⟨a, 0, none⟩), .nilIface]) ∧ RnI w' F a r [] ∧ Below w.heap.size w w' ∧ ∀ g, F g → w.heap.size ≤ g := by
  have i1 : ¬ ((r : Int) < 1) := by omega
  have i2 : ¬ ((1000 : Int) < r) := by omega
  go_enter Try.func6, Try.ntmps6
  go_wp2
  go_ret2
  refine ⟨w.heap.size, rfl, fun g => g = w.heap.size, ⟨0, 0, .slice none 0 0, [], ⟨heap_alloc_new w _, World.ownsRow_nil _ _ _ _⟩, Rq.new h0 h1, fun g => ⟨.inl, fun e => e.elim id (fun e => by cases e)⟩⟩, (Below.refl w.heap.size w).alloc (Nat.le_refl _) _, fun g hg => by cases hg; exact Nat.le_refl _⟩
theorem new_badI (w : World) (r : Int) (h : r < 1 ∨ 1000 < r) :
    Calls Try.prog 6 #[.int .i64 r] w fun e w' => e = .returned (.tuple #[.pointer none, errR 1]) ∧ w' = w := by
  rcases h with h | h
  · go_enter Try.func6, Try.ntmps6
    go_wp2
    go_ret2
    exact ⟨rfl, rfl⟩
  · have h1 : ¬ r < 1 := by omega
    go_enter Try.func6, Try.ntmps6
    go_wp2
    go_ret2
    exact ⟨rfl, rfl⟩
section
variable {w : World} {F : Nat → Prop} {a r : Nat} {q : List Int} {x : Int}
theorem lenI (h : RnI w F a r q) :
    Calls Try.prog 11 #[.pointer (some ⟨a, 0, none⟩)] w fun e w' => e = .returned (.int .i64 (q.length : Nat)) ∧ w' = w := by
  obtain ⟨f, m, v, ps, g, hq, _⟩ := h
  have c2 := g.c2
  rw [hq.len]
  clear g hq
  go_enter Try.func11, Try.ntmps11
  go_wp2
  go_ret
  exact ⟨rfl, rfl⟩
theorem front_noneI (h : RnI w F a r []) :
    Calls Try.prog 10 #[.pointer (some ⟨a, 0, none⟩)] w fun e w' => e = .returned (.tuple #[.int .i64 0, .bool false]) ∧ ∃ n, w' = w.drewN n := by
  obtain ⟨f, m, v, ps, g, hq, _⟩ := h
  have c2 := g.c2
  obtain rfl : m = 0 := by have := hq.len; simp at this; omega
  clear g hq
  go_enter Try.func10, Try.ntmps10
  go_wp2
  go_ret2
  exact ⟨rfl, 0, rfl⟩
theorem front_someI (h : RnI w F a r (x :: q)) :
    Calls Try.prog 10 #[.pointer (some ⟨a, 0, none⟩)] w fun e w' => e = .returned (.tuple #[.int .i64 x, .bool true]) ∧ ∃ n, w' = w.drewN n := by
  obtain ⟨f, m, v, ps, g, hq, _⟩ := h
  obtain ⟨h1, h2⟩ := hq.first
  have hm : 0 < m := by have := hq.len; simp at this; omega
  obtain ⟨gb, cap, rfl, k1, _⟩ := g.at h1
  unfold encI at k1
  have c1 := g.c1
  have c2 := g.c2
  have c3 := g.c3
  have z0 : ((m : Int) == 0) = false := beq_eq_false_iff_ne.2 (by omega)
  generalize ps.length = N at *
  have z1 : (f : Int) < (N : Int) := by omega
  clear g hq h1 hm
  go_enter Try.func10, Try.ntmps10
  go_wp2_with fail
  go_quiet (fail)
  go_wp2
  go_ret2
  exact ⟨rfl, _, rfl⟩
set_option maxRecDepth 100000 in
theorem push_fullI (h : RnI w F a r q) (hl : q.length = r) (x : Int) :
    Calls Try.prog 8 #[.pointer (some ⟨a, 0, none⟩), .int .i64 x] w fun e w' => e = .returned (.bool false) ∧ ∃ n, w' = w.drewN n := by
  obtain ⟨f, m, v, ps, g, hq, _⟩ := h
  obtain rfl : m = r := by have := hq.len; omega
  have c0 := g.c0
  have c2 := g.c2
  have z0 : ((m : Int) == (m : Int)) = true := by simp
  clear g hq hl
  go_enter Try.func8, Try.ntmps8
  go_wp2_with fail
  go_quiet (fail)
  go_wp2
  go_ret
  exact ⟨rfl, _, rfl⟩
set_option maxRecDepth 100000 in
theorem pushI (h : RnI w F a r q) (hl : q.length < r) (x : Int) :
    Calls Try.prog 8 #[.pointer (some ⟨a, 0, none⟩), .int .i64 x] w fun e w' => e = .returned (.bool true) ∧ ∃ F', RnI w' F' a r (q ++ [x]) ∧ Mv8 w F w' F' := by
  obtain ⟨f, m, v, ps, g, hq, hF⟩ := h
  have hm : m < r := by have := hq.len; omega
  have c0 := g.c0
  have c1 := g.c1
  have c2 := g.c2
  have c3 := g.c3
  have lt := g.lt
  have hf := hq.hf
  have hr := hq.r1
  have z0 : ((m : Int) == (r : Int)) = false := beq_eq_false_iff_ne.2 (by omega)
  have z1 : ¬ (r : Int) = 0 := by omega
  have z2 : ((f : Int) + (m : Int)).tmod (r : Int) = (((f + m) % r : Nat) : Int) := by rw [Int.tmod_eq_emod_of_nonneg (by omega), Int.natCast_emod, Int.natCast_add]
  have hp := hq.pmax
  rcases hq.next hm with ⟨e1, e2⟩ | ⟨e1, e2⟩
  · have DONE := Lib.hid (fun n : Nat => (g.drewN n).more neI Try.underlying30 infoI rfl x rfl (by omega) (by omega))
    have HQ := Lib.hid (hq.push_new hm e2 x)
    have HF := Lib.hid hF
    obtain ⟨A, cap, rfl, _, _⟩ := g.shape
    rw [e1] at z2
    generalize ps.length = N at *
    have z3 : ((N : Int) == (N : Int)) = true := by simp
    clear g hq hF
    go_enter Try.func8, Try.ntmps8
    go_wp2_with fail
    go_quiet (fail)
    obtain ⟨n1, e⟩ : ∃ n1, n1 = nq := ⟨_, rfl⟩
    subst e
    go_wp2_with fail
    go_quiet (fail)
    obtain ⟨A2, cap2, w2, r2, q3, q1, q4, G2, K2, O2⟩ := DONE.out (n1 + nq)
    have q6 := q4 2
    have q4 := q4 3
    unfold encI at r2
    have R2 := Lib.hid r2
    have q2 := G2.c2
    have q5 := G2.fr 2
    have lt2 := G2.lt
    have END : Hid (∃ F', RnI ((w2.setCell ⟨a, 3, none⟩ (.slice A2 (N + 1) cap2)).setCell ⟨a, 2, none⟩ (.int .i64 ((m : Int) + 1))) F' a r (q ++ [x]) ∧ Mv8 w F ((w2.setCell ⟨a, 3, none⟩ (.slice A2 (N + 1) cap2)).setCell ⟨a, 2, none⟩ (.int .i64 ((m : Int) + 1))) F') :=
      Lib.hid ⟨fun g => g = a ∨ (Value.slice A2 (N + 1) cap2).ownBlock = some g, ⟨f, m + 1, _, _, G2.many neI (by omega), HQ.out, fun _ => Iff.rfl⟩,
        ⟨((Keeps.refl _ w).drewN (n1 + nq)).trans ((K2.wide (fun g h _ => (HF.out g).2 h)).set ⟨a, 2, none⟩ _ (.inl ((HF.out a).2 (.inl rfl)))) (fun g h => .inl h),
         fun g hg => by
          rcases hg with rfl | e
          · exact .inl ((HF.out _).2 (.inl rfl))
          · rcases O2 g e with e | e
            · exact .inl ((HF.out g).2 (.inr e))
            · exact .inr e⟩⟩
    clear r2 G2 K2 O2 DONE HQ HF
    go_wp2_with (first
      | (at_builtin; refine wpList_append_two rfl (.tmp 40) (.tmp 42) 30 30 rfl _ _ _ rfl rfl R2.out ?_)
      | fail)
    go_ret
    exact ⟨rfl, END.out⟩
  · obtain ⟨y, hy⟩ : ∃ y, ps[(f + m) % r]? = some y := ⟨_, List.getElem?_eq_getElem e1⟩
    obtain ⟨gb, cap, hv, k1, k2⟩ := g.at hy
    unfold encI at k1
    have PL := fun n : Nat => (g.drewN n).place neI hv ((f + m) % r) x
    have hga := (PL 0).2.2
    have hga' : gb ≠ a := fun e => hga e.symm
    have PL := Lib.hid PL
    have HQ := Lib.hid (hq.push_old hm e2 x)
    have HF := Lib.hid hF
    have HV := Lib.hid hv
    subst hv
    have e3 : ((((f + m) % r : Nat) : Int) == (ps.length : Int)) = false := beq_eq_false_iff_ne.2 (by omega)
    generalize ps.length = N at *
    generalize (f + m) % r = p at *
    have e4 : (p : Int) < (N : Int) := by omega
    have q6 := g.fr 2
    clear g hq hF hy HV e2
    go_enter Try.func8, Try.ntmps8
    go_wp2_with fail
    go_quiet (fail)
    obtain ⟨n1, e⟩ : ∃ n1, n1 = nq := ⟨_, rfl⟩
    subst e
    go_wp2_with fail
    go_quiet (fail)
    obtain ⟨G2, K2, _⟩ := PL.out (n1 + nq)
    unfold encI at G2 K2
    have q2 := G2.c2
    have q5 := G2.fr 2
    have END : Hid (∃ F', RnI (((w.drewN (n1 + nq)).setCell ⟨gb, p, none⟩ (.int .i64 x)).setCell ⟨a, 2, none⟩ (.int .i64 ((m : Int) + 1))) F' a r (q ++ [x]) ∧ Mv8 w F (((w.drewN (n1 + nq)).setCell ⟨gb, p, none⟩ (.int .i64 x)).setCell ⟨a, 2, none⟩ (.int .i64 ((m : Int) + 1))) F') :=
      Lib.hid ⟨F, ⟨f, m + 1, _, _, G2.many neI (by omega), HQ.out, HF.out⟩,
        ⟨((Keeps.refl _ w).drewN (n1 + nq)).trans ((K2.wide (fun g h _ => (HF.out g).2 h)).set ⟨a, 2, none⟩ _ (.inl ((HF.out a).2 (.inl rfl)))) (fun g h => .inl h), fun g hg => .inl hg⟩⟩
    clear G2 K2 PL HQ HF
    go_wp2_with fail
    go_ret
    exact ⟨rfl, END.out⟩
theorem pop_noneI (h : RnI w F a r []) :
    Calls Try.prog 9 #[.pointer (some ⟨a, 0, none⟩)] w fun e w' => e = .returned (.tuple #[.int .i64 0, .bool false]) ∧ ∃ n, w' = w.drewN n := by
  have C := Lib.hid (front_noneI h)
  clear h
  go_enter Try.func9, Try.ntmps9
  go_wp2_with fail
  refine C.out.mono ?_
  rintro e w1 ⟨rfl, n, rfl⟩
  clear C
  go_wp2
  go_ret2
  exact ⟨rfl, _, rfl⟩
set_option maxRecDepth 100000 in
theorem popI (h : RnI w F a r (x :: q)) :
    Calls Try.prog 9 #[.pointer (some ⟨a, 0, none⟩)] w fun e w' => e = .returned (.tuple #[.int .i64 x, .bool true]) ∧ RnI w' F a r q ∧ Mv8 w F w' F := by
  have C := Lib.hid (front_someI h)
  obtain ⟨f, m, v, ps, g, hq, hF⟩ := h
  obtain ⟨h1, h2⟩ := hq.first
  have hm : 0 < m := by have := hq.len; simp at this; omega
  have hf := hq.hf
  have hr := hq.r1
  have hmr := hq.hm
  have HQ := Lib.hid (hq.pop 0)
  have HF := Lib.hid hF
  have y1 : ¬ (r : Int) = 0 := by omega
  have y2 : ((f : Int) + 1).tmod (r : Int) = (((f + 1) % r : Nat) : Int) := by rw [Int.tmod_eq_emod_of_nonneg (by omega), Int.natCast_emod, Int.natCast_add]; rfl
  generalize (f + 1) % r = p at *
  obtain ⟨gb, cap, hv, k1, k2⟩ := g.at h1
  subst hv
  have hga := (g.place neI rfl f 0).2.2
  have hga' : gb ≠ a := fun e => hga e.symm
  have h2' : (f : Int) < (ps.length : Int) := by omega
  have G := Lib.hid g
  clear g hq hF h1
  unfold encI at k1
  generalize hN : ps.length = N at *
  go_enter Try.func9, Try.ntmps9
  go_wp2_with fail
  refine C.out.mono ?_
  rintro e w1 ⟨rfl, n, e⟩
  have g1 := G.out.drewN n
  rw [← e] at g1
  have K1 := (Keeps.refl F w).drewN n
  rw [← e] at K1
  have K1 := Lib.hid K1
  have c1 := g1.c1
  have c3 := g1.c3
  have k1 : w1.cell? ⟨gb, f, none⟩ = some (.int .i64 x) := by rw [e]; exact k1
  have k2 : w1.frozen? ⟨gb, f, none⟩ = false := by rw [e]; exact k2
  have G1 := Lib.hid g1
  clear C e G g1
  go_wp2_with fail
  go_region
  all_goals go_wp2_with fail
  obtain ⟨G2, K2, _⟩ := G1.out.place neI (by rw [hN]) f 0
  have K2 := K1.out.trans (K2.wide (fun g h _ => (HF.out g).2 h)) (fun g h => .inl h)
  unfold encI at G2 K2
  clear k1 k2 c1 c3 G1 K1
  generalize w1.setCell ⟨gb, f, none⟩ (.int .i64 0) = w2 at G2 K2 ⊢
  have d0 := G2.c0
  have d1 := G2.c1
  have d2 := G2.c2
  have e1 := G2.fr 1
  have e2 := G2.fr 2
  have G3 := Lib.hid G2
  have K3 := Lib.hid K2
  clear G2 K2
  go_region
  all_goals go_wp2_with fail
  have G4 := (G3.out.set1 neI p).many neI (m' := m - 1) (z := (m : Int) - 1) (by omega)
  have K4 := (K3.out.set ⟨a, 1, none⟩ (.int .i64 (p : Nat)) (.inl ((HF.out a).2 (.inl rfl)))).set ⟨a, 2, none⟩ (.int .i64 ((m : Int) - 1)) (.inl ((HF.out a).2 (.inl rfl)))
  generalize (w2.setCell ⟨a, 1, none⟩ (.int .i64 (p : Nat))).setCell ⟨a, 2, none⟩ (.int .i64 ((m : Int) - 1)) = w3 at G4 K4 ⊢
  have END : Hid (RnI w3.drew.drew F a r q ∧ Mv8 w F w3.drew.drew F) :=
    Lib.hid ⟨⟨p, m - 1, _, _, G4.drew.drew, HQ.out, HF.out⟩, K4.drew.drew, fun g hg => .inl hg⟩
  clear G3 K3 G4 K4 HQ HF
  go_ret2
  exact ⟨rfl, END.out⟩
end
end Go.Proofs.Ytcpkkgfdgdkogaa
