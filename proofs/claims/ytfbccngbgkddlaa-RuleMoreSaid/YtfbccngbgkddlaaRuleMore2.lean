/-
  Layer 14 (rule): the law RuleMore, walked: where one of the two is an error.
-/
import Derived.Test.YtfbccngbgkddlaaRuleMore
namespace Go.Proofs.Ytfbccngbgkddlaa
open Go.ChangeShapes Go.WideShapes Go.ChangeAt Go.RowKit Go.Deep
set_option linter.unusedVariables false

theorem fewU_parts {l : List Ru} (h : fewU l = true) : l.length ≤ 40 ∧ ∀ p z, (p, z) ∈ l → p.size ≤ 1000 := by
  unfold fewU at h
  simp only [Bool.and_eq_true, decide_eq_true_eq, List.all_eq_true] at h
  exact ⟨h.2, fun p z hm => by have := h.1 _ hm; simpa [fewRu] using this⟩
theorem fit_more {l : List Ru} {p : ByteArray} {z : Int} (h : FitRu l) (hp : p.size ≤ 9223372036854775807) (hz : InZ z) : FitRu (l ++ [(p, z)]) := fun q y hm => by
  rcases List.mem_append.1 hm with hm | hm
  · exact h q y hm
  · simp only [List.mem_singleton, Prod.mk.injEq] at hm
    obtain ⟨rfl, rfl⟩ := hm
    exact ⟨hp, hz⟩

set_option maxRecDepth 100000 in
set_option maxHeartbeats 1000000 in
theorem more_bad (A : Option Addr) (cap : Nat) (l : List Ru) (c : Int) (p : ByteArray) (z : Int) (key : ByteArray) (W : World) (hr : RdRu W A l) (hn : A = none → cap = 0) (hf : FitRu l) (hc : InZ c) (hz : InZ z)
    (hfw : fewU l = true) (hps : p.size ≤ 300) (hks : key.size ≤ 3000) (h : mayR l c = false ∨ mayR (l ++ [(p, z)]) c = false) :
    Calls Try.prog 3 #[.slice A l.length cap, .int .i64 c, .agg #[.string p, .int .i64 z], .string key] W (Holds W) := by
  obtain ⟨hl40, _⟩ := fewU_parts hfw
  have M0 := Lib.hid (Ms.start (W := W) (p := p) (z := z))
  have CU := Lib.hid (up_rule (W.alloc (.cells #[.string p, .int .i64 z] 24)))
  have CF := Lib.hid (fun wx (b : Below W.heap.size W wx) => few_walk A cap l wx (hr.below b) (by omega) hf)
  have CL := Lib.hid (fun wx (b : Below W.heap.size W wx) => class_walk A cap l c key wx (hr.below b) (by omega) hf hc)
  have CL2 := Lib.hid (fun wx (A2 : Option Addr) (c2 : Nat) (h2 : RdRu wx A2 (l ++ [(p, z)])) => class_walk A2 c2 (l ++ [(p, z)]) c key wx h2 (by simp; omega) (fit_more hf (by omega) hz) hc)
  have HSR := Lib.hid (src_of hr hn)
  have y1 : ¬ (300 : Int) < p.size := by omega
  have y2 : ¬ (3000 : Int) < key.size := by omega
  obtain ⟨N, hN⟩ : ∃ N, l.length = N := ⟨_, rfl⟩
  have HN := Lib.hid hN
  have hl2 : (l ++ [(p, z)]).length = N + 1 := by simp [hN]
  rw [hl2] at CL2
  rw [hfw] at CF
  rw [hN] at CF CL hl40 ⊢
  clear hr hf hfw hn hN hl2 hps hks hc hz
  have HV : Hid (∃ v1 e1 v2 e2, clsV l c key = .tuple #[.int .i64 v1, e1] ∧ clsV (l ++ [(p, z)]) c key = .tuple #[.int .i64 v2, e2] ∧ ((e1 = .nilIface ∧ e2 = .iface 32 (.int .i64 1)) ∨ (e1 = .iface 32 (.int .i64 1) ∧ (e2 = .nilIface ∨ e2 = .iface 32 (.int .i64 1))))) := Lib.hid (by
    unfold clsV
    rcases hm1 : mayR l c with _ | _ <;> rcases hm2 : mayR (l ++ [(p, z)]) c with _ | _ <;> rw [hm1, hm2] at h
    · exact ⟨_, _, _, _, rfl, rfl, .inr ⟨rfl, .inr rfl⟩⟩
    · exact ⟨_, _, _, _, rfl, rfl, .inr ⟨rfl, .inl rfl⟩⟩
    · exact ⟨_, _, _, _, rfl, rfl, .inl ⟨rfl, rfl⟩⟩
    · rcases h with h | h <;> cases h)
  clear h
  obtain ⟨v1, e1, v2, e2, g1, g2, ge⟩ := HV.out
  rw [g1] at CL
  rw [g2] at CL2
  clear HV g1 g2
  go_enter Try.func3, Try.ntmps3
  go_wp2_with fail
  refine CU.out.mono ?_
  rintro e w1 ⟨rfl, b1⟩
  have M1 := Lib.hid (M0.out.still b1)
  have C1 := Lib.hid (CF.out _ M1.out.bel)
  have C2 := Lib.hid (CL.out _ M1.out.bel)
  have c0 := M1.out.c0
  clear b1 CU CF M0 CL
  go_wp2_with fail
  refine C1.out.mono ?_
  rintro e w1' ⟨rfl, rfl⟩
  go_wp2_with fail
  refine C2.out.mono ?_
  rintro e w2 ⟨rfl, b2⟩
  have M2 := Lib.hid (M1.out.still b2)
  clear b2 C1 C2 M1 c0
  have MD := Lib.hid (M2.out.still (below_drewR w2))
  obtain ⟨A1, c1, u1, A2, c2, u2, GA⟩ := gruA (HSR.out.still MD.out.bel) HN.out (by omega) (p, z)
  obtain ⟨A3, c3, u3, A4, c4, u4, GB⟩ := gruB (HSR.out.still MD.out.bel) HN.out (by omega) (p, z)
  obtain ⟨A5, c5, u5, A6, c6, u6, GD⟩ := gruC (HSR.out.still MD.out.bel) HN.out (by omega) (p, z)
  unfold oneR noR at GA GB GD
  have GA : GrU w2.drew u1 u2 (w2.alloc (.cells #[] 24)).drew (u1.alloc (.cells #[.string p, .int .i64 z] 24)) A A1 A2 cap c1 c2 w2.heap.size u1.heap.size N l (p, z) := GA
  have GB : GrU w2.drew u3 u4 ((w2.alloc (.cells #[] 24)).alloc (.cells #[.string p, .int .i64 z] 24)).drew u3 A A3 A4 cap c3 c4 w2.heap.size (w2.heap.size + 1) N l (p, z) := GB
  have GD : GrU w2.drew u5 u6 ((w2.alloc (.cells #[.string p, .int .i64 z] 24)).alloc (.cells #[] 24)).drew u5 A A5 A6 cap c5 c6 (w2.heap.size + 1) w2.heap.size N l (p, z) := GD
  have E1 := Lib.hid (MD.out.still GA.b2)
  have C3A := Lib.hid ((CL2.out u2 A2 c2 GA.rd).mono (fun e w' h => (⟨h.1, E1.out.still h.2⟩ : _ ∧ Ms W p z w')))
  have E2 := Lib.hid (MD.out.still GB.b2)
  have C3B := Lib.hid ((CL2.out u4 A4 c4 GB.rd).mono (fun e w' h => (⟨h.1, E2.out.still h.2⟩ : _ ∧ Ms W p z w')))
  have E3 := Lib.hid (MD.out.still GD.b2)
  have C3D := Lib.hid ((CL2.out u6 A6 c6 GD.rd).mono (fun e w' h => (⟨h.1, E3.out.still h.2⟩ : _ ∧ Ms W p z w')))
  have QX : ∀ wx, Below w2.drew.heap.size w2.drew wx → wx.cell? ⟨W.heap.size, 0, none⟩ = some (.string p) ∧ wx.cell? ⟨W.heap.size, 1, none⟩ = some (.int .i64 z) := fun wx b => ⟨(MD.out.still b).c0, (MD.out.still b).c1⟩
  have SQ0 := Lib.hid (QX _ (Below.refl _ _))
  have NO := fun (wx : World) (b : Below w2.drew.heap.size w2.drew wx) (ob : Obj) => QX (wx.alloc ob) (bel_allocR b b.size ob)
  have N2 := fun (ob ob' : Obj) => QX ((w2.drew.alloc ob).alloc ob') (bel_allocR (bel_allocR (Below.refl _ _) (Nat.le_refl _) ob) (by rw [size_newR]; omega) ob')
  have SA1 : Hid ((w2.alloc (.cells #[] 24)).drew.cell? ⟨W.heap.size, 0, none⟩ = some (.string p) ∧ (w2.alloc (.cells #[] 24)).drew.cell? ⟨W.heap.size, 1, none⟩ = some (.int .i64 z)) := Lib.hid (NO w2.drew (Below.refl _ _) _)
  have SA2 : Hid ((w2.alloc (.cells #[.string p, .int .i64 z] 24)).drew.cell? ⟨W.heap.size, 0, none⟩ = some (.string p) ∧ (w2.alloc (.cells #[.string p, .int .i64 z] 24)).drew.cell? ⟨W.heap.size, 1, none⟩ = some (.int .i64 z)) := Lib.hid (NO w2.drew (Below.refl _ _) _)
  have SA3 : Hid (((w2.alloc (.cells #[] 24)).alloc (.cells #[.string p, .int .i64 z] 24)).drew.cell? ⟨W.heap.size, 0, none⟩ = some (.string p) ∧ ((w2.alloc (.cells #[] 24)).alloc (.cells #[.string p, .int .i64 z] 24)).drew.cell? ⟨W.heap.size, 1, none⟩ = some (.int .i64 z)) := Lib.hid (N2 _ _)
  have SA4 : Hid (((w2.alloc (.cells #[.string p, .int .i64 z] 24)).alloc (.cells #[] 24)).drew.cell? ⟨W.heap.size, 0, none⟩ = some (.string p) ∧ ((w2.alloc (.cells #[.string p, .int .i64 z] 24)).alloc (.cells #[] 24)).drew.cell? ⟨W.heap.size, 1, none⟩ = some (.int .i64 z)) := Lib.hid (N2 _ _)
  have SA5 : Hid ((u1.alloc (.cells #[.string p, .int .i64 z] 24)).cell? ⟨W.heap.size, 0, none⟩ = some (.string p) ∧ (u1.alloc (.cells #[.string p, .int .i64 z] 24)).cell? ⟨W.heap.size, 1, none⟩ = some (.int .i64 z)) := Lib.hid (NO u1 GA.b1 _)
  have SQ1 := Lib.hid (QX _ GA.b1)
  have SQ2 := Lib.hid (QX _ GA.b2)
  have SQ3 := Lib.hid (QX _ GB.b1)
  have SQ4 := Lib.hid (QX _ GB.b2)
  have SQ5 := Lib.hid (QX _ GD.b1)
  have SQ6 := Lib.hid (QX _ GD.b2)
  have ra1 := Lib.hid GA.r1
  have ra2 := Lib.hid GA.r2
  have rb1 := Lib.hid GB.r1
  have rb2 := Lib.hid GB.r2
  have rd1 := Lib.hid GD.r1
  have rd2 := Lib.hid GD.r2
  clear GA GB GD QX NO N2 CL2 HSR
  go_wp2_with fail
  go_region_held_law (fun w' => w'.cell? ⟨W.heap.size, 0, none⟩ = some (.string p) ∧ w'.cell? ⟨W.heap.size, 1, none⟩ = some (.int .i64 z))
    (first | with_reducible exact SQ0.out | with_reducible exact SQ1.out | with_reducible exact SQ2.out | with_reducible exact SQ3.out | with_reducible exact SQ4.out | with_reducible exact SQ5.out | with_reducible exact SQ6.out | with_reducible exact SA1.out | with_reducible exact SA2.out | with_reducible exact SA3.out | with_reducible exact SA4.out | with_reducible exact SA5.out | exact ⟨M3.c0, M3.c1⟩ | fail) (first
    | ((with_reducible refine step_append_ru ra1.out (s := .tmp 45) (x := .tmp 46) ?h1 ?h2 ?h3 ?h4 ?h5 ?_); (case h1 => rfl); (case h2 => rfl); (case h3 => rfl); (case h4 => rfl); (case h5 => rfl))
    | ((with_reducible refine step_append_ru rb1.out (s := .tmp 45) (x := .tmp 46) ?h1 ?h2 ?h3 ?h4 ?h5 ?_); (case h1 => rfl); (case h2 => rfl); (case h3 => rfl); (case h4 => rfl); (case h5 => rfl))
    | ((with_reducible refine step_append_ru rd1.out (s := .tmp 45) (x := .tmp 46) ?h1 ?h2 ?h3 ?h4 ?h5 ?_); (case h1 => rfl); (case h2 => rfl); (case h3 => rfl); (case h4 => rfl); (case h5 => rfl))
    | ((with_reducible refine step_append_ru ra2.out (s := .tmp 47) (x := .tmp 49) ?h1 ?h2 ?h3 ?h4 ?h5 ?_); (case h1 => rfl); (case h2 => rfl); (case h3 => rfl); (case h4 => rfl); (case h5 => rfl))
    | ((with_reducible refine step_append_ru rb2.out (s := .tmp 47) (x := .tmp 49) ?h1 ?h2 ?h3 ?h4 ?h5 ?_); (case h1 => rfl); (case h2 => rfl); (case h3 => rfl); (case h4 => rfl); (case h5 => rfl))
    | ((with_reducible refine step_append_ru rd2.out (s := .tmp 47) (x := .tmp 49) ?h1 ?h2 ?h3 ?h4 ?h5 ?_); (case h1 => rfl); (case h2 => rfl); (case h3 => rfl); (case h4 => rfl); (case h5 => rfl))
    | ((go_at_call 6; first | with_reducible refine C3A.out.mono ?_ | with_reducible refine C3B.out.mono ?_ | with_reducible refine C3D.out.mono ?_); rintro e w3 ⟨rfl, M3⟩)
    | fail)
  all_goals
    have M3 := Lib.hid M3
    rcases ge with ⟨rfl, rfl⟩ | ⟨rfl, rfl | rfl⟩
    all_goals
      go_wp2_with fail
      go_ret
      exact ⟨rfl, M3.out.bel⟩
end Go.Proofs.Ytfbccngbgkddlaa
