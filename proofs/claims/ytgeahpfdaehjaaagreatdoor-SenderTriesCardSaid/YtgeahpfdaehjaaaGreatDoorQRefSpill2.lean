/-
  Layer 21, the document's spill: Front, Put.
-/
import Derived.Test.YtgeahpfdaehjaaaGreatDoorQRefSpill
namespace Go.Proofs.YtgeahpfdaehjaaaGreatDoor
open Go.ChangeShapes Go.WideShapes Go.ChangeAt Go.RowKit
set_option linter.unusedVariables false

section
variable {w w' : World} {K : Nat → Prop} {ms mj m rm : Nat} {dn dn' : Bool} {many room head : Int} {L L' : List Pt} {G G2 : List Sg} {b : Bt} {A : Option Addr} {c cc : Nat}
theorem rs_front (h : Rsp w K ms mj m rm false many room head (pts' G)) (ok : GOk rm many G) {k : Nat} {r : Rc} (hk : (recs G)[k]? = some r) (hn : head = fsG G + (k : Nat)) :
    Calls Tryz.prog 38 #[.pointer (some ⟨ms, 0, none⟩)] w fun e w' => e = .returned (.tuple #[.string ⟨r.toArray⟩, .bool true]) ∧ Below w.heap.size w w' := by
  obtain ⟨H, j⟩ := h.jn
  have c0 := h.c0
  have CA := Lib.hid (ref_all j ok)
  have HH := Lib.hid h
  have JJ := Lib.hid j
  have bd := ok.clean.lo
  have bd2 := ok.nx
  have hlt := (List.getElem?_eq_some_iff.1 hk).1
  have hnn := nxG_eq G
  have hw : IntKind.i64.wrap (head - fsG G) = (k : Int) := by rw [show head - fsG G = (k : Int) by omega]; exact IntWalk.i64_in _ (by omega)
  have HK := Lib.hid hk
  have hge : decide (((recs G).length : Int) ≤ (k : Int)) = false := decide_eq_false (by omega)
  have hgen : ¬ (recs G).length ≤ k := by omega
  have hlt2 : (k : Int) < ((recs G).length : Int) := by omega
  clear h j ok hk hn bd bd2 hnn
  obtain ⟨N, hN⟩ : ∃ N, (recs G).length = N := ⟨_, rfl⟩
  rw [hN] at CA hge hgen hlt hlt2
  have HN := Lib.hid hN
  clear hN
  go_enter Tryz.func38, Tryz.ntmps38
  go_wp2_with fail
  refine CA.out.mono ?_
  rintro e w1 ⟨A1, cap1, rfl, o1, b1⟩
  have H1 := HH.out.below b1
  have s0 := H1.c0
  have s2 := H1.c2
  have CF := Lib.hid (fun q : Nat => ref_first ((JJ.out.below b1).below (below_drewN w1 q)))
  obtain ⟨A2, cap2, e2, h1, h2⟩ := os_shape o1
  cases e2
  obtain ⟨ga, hga, hgc⟩ : ∃ ga, A1 = some ⟨ga, 0, none⟩ ∧ w1.cell? ⟨ga, k, none⟩ = some (.string ⟨r.toArray⟩) := by
    cases A1 with
    | none => have h3 := (h1 rfl).2; have := HK.out; rw [h3] at this; cases this
    | some a =>
      obtain ⟨h3, h4⟩ := h2 a rfl
      have h5 := h4 k _ HK.out
      rw [h3, Addr.add_lit, Nat.zero_add] at h5
      exact ⟨a.block, by rw [h3], h5⟩
  subst hga
  have B1 := Lib.hid b1
  clear o1 b1 H1 h1 h2 CA
  generalize fsG G = fs at *
  go_wp2_with fail
  go_quiet ((go_at_call 44; exact Calls.quiet_of_same (CF.out _)))
  all_goals go_wp2
  all_goals go_ret2
  all_goals exact ⟨rfl, B1.out.trans ((below_drewN _ _).mono B1.out.size)⟩
theorem rs_front_none (h : Rsp w K ms mj m rm false many room head (pts' G)) (ok : GOk rm many G) (hn : head = nxG G) :
    Calls Tryz.prog 38 #[.pointer (some ⟨ms, 0, none⟩)] w fun e w' => e = .returned (.tuple #[.string ⟨#[]⟩, .bool false]) ∧ Below w.heap.size w w' := by
  obtain ⟨H, j⟩ := h.jn
  have c0 := h.c0
  have CA := Lib.hid (ref_all j ok)
  have HH := Lib.hid h
  have JJ := Lib.hid j
  have bd := ok.clean.lo
  have bd2 := ok.nx
  have hnn := nxG_eq G
  have hw : IntKind.i64.wrap (head - fsG G) = ((recs G).length : Int) := by rw [show head - fsG G = ((recs G).length : Int) by omega]; exact IntWalk.i64_in _ (by omega)
  have hge : decide (((recs G).length : Int) ≤ ((recs G).length : Int)) = true := decide_eq_true (by omega)
  clear h j ok hn bd bd2 hnn
  generalize hN : (recs G).length = N at *
  clear hN
  go_enter Tryz.func38, Tryz.ntmps38
  go_wp2_with fail
  refine CA.out.mono ?_
  rintro e w1 ⟨A1, cap1, rfl, _, b1⟩
  have H1 := HH.out.below b1
  have s0 := H1.c0
  have s2 := H1.c2
  have CF := Lib.hid (fun q : Nat => ref_first ((JJ.out.below b1).below (below_drewN w1 q)))
  have B1 := Lib.hid b1
  clear b1 H1 CA
  generalize fsG G = fs at *
  go_wp2_with fail
  go_quiet ((go_at_call 44; exact Calls.quiet_of_same (CF.out _)))
  all_goals go_wp2
  all_goals go_ret2
  all_goals exact ⟨rfl, B1.out.trans ((below_drewN _ _).mono B1.out.size)⟩
set_option maxRecDepth 100000 in
theorem rs_put_bad (h : Rsp w K ms mj m rm false many room head (pts' G)) (hr : RdR w A b.rows) (hz : SizedR b.rows) (hm : mayOk b = false) :
    Calls Tryz.prog 14 #[.pointer (some ⟨ms, 0, none⟩), btVal b.seq b.start A b.rows.length c] w fun e w' => e = .returned (.int .i64 1) ∧ Below w.heap.size w w' := by
  have b0 := below_new w (.cells #[.int .i64 b.seq, .int .i64 b.start, .slice A b.rows.length c] 60)
  have C1 := refMayBt b A c (w.alloc (.cells #[.int .i64 b.seq, .int .i64 b.start, .slice A b.rows.length c] 60)) (hr.alloc _) hz
  rw [hm] at C1
  unfold btVal at C1 ⊢
  have C1 := Lib.hid C1
  have B0 := Lib.hid b0
  have HH := Lib.hid h
  clear h hr hz hm b0
  generalize b.rows.length = N at *
  generalize b.seq = q at *
  generalize b.start = st at *
  go_enter Tryz.func14, Tryz.ntmps14
  go_wp2_with fail
  refine C1.out.mono ?_
  rintro e w1 ⟨rfl, b1⟩
  have B1 := Lib.hid (B0.out.trans (b1.mono B0.out.size))
  have c2 := (HH.out.below B1.out).c2
  clear b1 C1 HH
  go_wp2_with fail
  refine wp_region_held_drew (S := fun w' => w'.cell? ⟨ms, 2, none⟩ = some (.int .i64 head)) (by kernel_rfl) (by exact c2) (fun hHeld0 => ?_)
  refine takeWanted 0 10 (v := ?vv0) rfl rfl (by kernel_rfl) (by kernel_rfl) (by kernel_rfl) (fun _ _ _ h => h) (by kernel_rfl) ?hy0 (by assumption) ?rest0
  case hy0 => (intro wq hSw; (try dsimp only at hSw); go_simp <;> with_reducible rfl)
  simp only [Act.put, List.setIfInBounds_toArray, List.set_cons_zero, List.set_cons_succ]
  refine takeWanted 1 11 (v := ?vv1) rfl rfl (by kernel_rfl) (by kernel_rfl) (by kernel_rfl) (fun _ _ _ h => h) (by kernel_rfl) ?hy1 (by assumption) ?rest1
  case hy1 => (intro wq hSw; (try dsimp only at hSw); go_simp <;> with_reducible rfl)
  simp only [Act.put, List.setIfInBounds_toArray, List.set_cons_zero, List.set_cons_succ]
  refine takeWanted 2 12 (v := ?vv2) rfl rfl (by kernel_rfl) (by kernel_rfl) (by kernel_rfl) (fun _ _ _ h => h) (by kernel_rfl) ?hy2 (by assumption) ?rest2
  case hy2 => (intro wq hSw; (try dsimp only at hSw); go_simp <;> with_reducible rfl)
  simp only [Act.put, List.setIfInBounds_toArray, List.set_cons_zero, List.set_cons_succ]
  refine takeSkip 3 13 rfl rfl (by kernel_rfl) (by kernel_rfl) (by kernel_rfl) (fun _ _ _ h => h) (by kernel_rfl) (by assumption) ?_
  simp only [Act.put, List.setIfInBounds_toArray, List.set_cons_zero, List.set_cons_succ]
  refine takeSkip 4 14 rfl rfl (by kernel_rfl) (by kernel_rfl) (by kernel_rfl) (fun _ _ _ h => h) (by kernel_rfl) (by assumption) ?_
  simp only [Act.put, List.setIfInBounds_toArray, List.set_cons_zero, List.set_cons_succ]
  refine takeSkip 5 15 rfl rfl (by kernel_rfl) (by kernel_rfl) (by kernel_rfl) (fun _ _ _ h => h) (by kernel_rfl) (by assumption) ?_
  simp only [Act.put, List.setIfInBounds_toArray, List.set_cons_zero, List.set_cons_succ]
  refine takeSkip 6 16 rfl rfl (by kernel_rfl) (by kernel_rfl) (by kernel_rfl) (fun _ _ _ h => h) (by kernel_rfl) (by assumption) ?_
  simp only [Act.put, List.setIfInBounds_toArray, List.set_cons_zero, List.set_cons_succ]
  refine takeSkip 7 17 rfl rfl (by kernel_rfl) (by kernel_rfl) (by kernel_rfl) (fun _ _ _ h => h) (by kernel_rfl) (by assumption) ?_
  simp only [Act.put, List.setIfInBounds_toArray, List.set_cons_zero, List.set_cons_succ]
  refine takeWanted 8 18 (v := ?vv8) rfl rfl (by kernel_rfl) (by kernel_rfl) (by kernel_rfl) (fun _ _ _ h => h) (by kernel_rfl) ?hy8 (by assumption) ?rest8
  case hy8 => (intro wq hSw; (try dsimp only at hSw); go_simp <;> with_reducible rfl)
  simp only [Act.put, List.setIfInBounds_toArray, List.set_cons_zero, List.set_cons_succ]
  refine wpAnyH_done (by kernel_rfl) ?_ _
  clear hHeld0
  go_wp2_with fail
  go_ret
  exact ⟨rfl, B1.out.trans ⟨rfl, rfl, rfl, Nat.le_refl _, fun _ _ => rfl⟩⟩
set_option maxRecDepth 100000 in
theorem rs_put_seq (h : Rsp w K ms mj m rm false many room head (pts' G)) (ok : GOk rm many G) (hr : RdR w A b.rows) (hz : SizedR b.rows) (hm : mayOk b = true) (hs : b.seq ≠ nxG G) :
    Calls Tryz.prog 14 #[.pointer (some ⟨ms, 0, none⟩), btVal b.seq b.start A b.rows.length c] w fun e w' => e = .returned (.int .i64 1) ∧ Below w.heap.size w w' := by
  have b0 := below_new w (.cells #[.int .i64 b.seq, .int .i64 b.start, .slice A b.rows.length c] 60)
  have C1 := refMayBt b A c (w.alloc (.cells #[.int .i64 b.seq, .int .i64 b.start, .slice A b.rows.length c] 60)) (hr.alloc _) hz
  rw [hm] at C1
  have T0 := Lib.hid (BtB.new w b.seq b.start A b.rows.length c)
  unfold btVal at C1 ⊢
  have C1 := Lib.hid C1
  have B0 := Lib.hid b0
  have HH := Lib.hid h
  have HK := Lib.hid ok
  have hq : (b.seq == nxG G) = false := beq_eq_false_iff_ne.2 hs
  clear h ok hr hz hm b0 hs
  generalize b.rows.length = N at *
  generalize b.seq = q at *
  generalize b.start = st at *
  go_enter Tryz.func14, Tryz.ntmps14
  go_wp2_with fail
  refine C1.out.mono ?_
  rintro e w1 ⟨rfl, b1⟩
  have T1 := T0.out.below b1 (Nat.le_refl _)
  have lt1 := T1.lt
  have HS := Lib.hid T1.c0
  have B1 := Lib.hid (B0.out.trans (b1.mono B0.out.size))
  have CN := Lib.hid (rs_nextB (HH.out.below B1.out) HK.out)
  clear b1 C1 HH HK T1 T0
  generalize nxG G = x at *
  go_wp2_with fail
  go_region_held (fun w' => w'.cell? ⟨w.heap.size, 0, none⟩ = some (.int .i64 q))
    (first | exact HS.out | assumption)
    (first
      | (go_at_call 19; refine (CN.out _ (by exact ⟨rfl, rfl, rfl, Nat.le_refl _, fun _ _ => rfl⟩)).mono ?_; rintro e w3 ⟨rfl, b3, s0, s1, s2⟩; have t3 : w3.cell? ⟨w.heap.size, 0, none⟩ = some (.int .i64 q) := (by rw [World.cell?_of_block (b3.block _ lt1)]; exact HS.out); have B3 := Lib.hid b3; clear b3))
  all_goals go_wp2
  all_goals go_ret
  all_goals exact ⟨rfl, B1.out.trans (B3.out.mono B1.out.size)⟩
end
end Go.Proofs.YtgeahpfdaehjaaaGreatDoor
