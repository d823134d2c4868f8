/-
  Layer 21, the document's spill: Next, Front, Ack, Put, Open.
-/
import Derived.Test.YtgeahpfdaehjaaaGreatDoorQRefOpen
import Derived.Test.YtgeahpfdaehjaaaGreatDoorGrpL
import Derived.Test.YtgeahpfdaehjaaaGreatDoorQBatchPuts
import Derived.Test.YtgeahpfdaehjaaaGreatDoorQBatchGets
import Derived.Test.YtgeahpfdaehjaaaGreatDoorQBatchRefMay
namespace Go.Proofs.YtgeahpfdaehjaaaGreatDoor
open Go.ChangeShapes Go.WideShapes Go.ChangeAt Go.RowKit
set_option linter.unusedVariables false

def rsCells (mj : Nat) (room head : Int) : Array Value := #[.pointer (some ⟨mj, 0, none⟩), .int .i64 room, .int .i64 head]
/-- The document's spill in block ms, over its journal, over its disk; its blocks are K. -/
structure Rsp (w : World) (K : Nat → Prop) (ms mj m rm : Nat) (dn : Bool) (many room head : Int) (L : List Pt) : Prop where
  sb : w.heap[ms]? = some (.cells (rsCells mj room head) 51 (0, 0))
  ex : ∃ H, Rjn w H mj m rm dn many L ∧ ¬ H ms ∧ ms ≠ mj ∧ ∀ g, K g ↔ H g ∨ g = mj ∨ g = ms
section
variable {w w' : World} {K : Nat → Prop} {ms mj m rm : Nat} {dn dn' : Bool} {many room head : Int} {L L' : List Pt} {G G2 : List Sg}
theorem Rsp.c0 (h : Rsp w K ms mj m rm dn many room head L) : w.cell? ⟨ms, 0, none⟩ = some (.pointer (some ⟨mj, 0, none⟩)) := cell_of_block h.sb
theorem Rsp.c1 (h : Rsp w K ms mj m rm dn many room head L) : w.cell? ⟨ms, 1, none⟩ = some (.int .i64 room) := cell_of_block h.sb
theorem Rsp.c2 (h : Rsp w K ms mj m rm dn many room head L) : w.cell? ⟨ms, 2, none⟩ = some (.int .i64 head) := cell_of_block h.sb
theorem Rsp.f (h : Rsp w K ms mj m rm dn many room head L) (o : Nat) : w.frozen? ⟨ms, o, none⟩ = false := frozen_of_block h.sb
theorem Rsp.slt (h : Rsp w K ms mj m rm dn many room head L) : ms < w.heap.size := lt_of_block h.sb
theorem Rsp.jn (h : Rsp w K ms mj m rm dn many room head L) : ∃ H, Rjn w H mj m rm dn many L := by
  obtain ⟨H, h1, _⟩ := h.ex
  exact ⟨H, h1⟩
theorem Rsp.below (h : Rsp w K ms mj m rm dn many room head L) (hb : Below w.heap.size w w') : Rsp w' K ms mj m rm dn many room head L := by
  obtain ⟨h1, H, h2, h3⟩ := h
  exact ⟨by rw [hb.block _ (lt_of_block h1)]; exact h1, H, h2.below hb, h3⟩
theorem Rsp.lt (h : Rsp w K ms mj m rm dn many room head L) {g : Nat} (hg : K g) : g < w.heap.size := by
  obtain ⟨h1, H, h2, h3, h4, h5⟩ := h
  rcases (h5 g).1 hg with e | rfl | rfl
  · exact h2.rf.lt e
  · exact h2.lt
  · exact lt_of_block h1
theorem Rsp.keeps {F : Nat → Prop} (h : Rsp w K ms mj m rm dn many room head L) (k : Keeps F w w') (hF : ∀ g, K g → ¬ F g) : Rsp w' K ms mj m rm dn many room head L := by
  obtain ⟨h1, H, h2, h3, h4, h5⟩ := h
  exact ⟨keeps_out k h1 (hF ms ((h5 ms).2 (.inr (.inr rfl)))), H, h2.keeps k (hF mj ((h5 mj).2 (.inr (.inl rfl)))) (fun g hg => hF g ((h5 g).2 (.inl hg))), h3, h4, h5⟩
/-- A call on its journal. -/
theorem Rsp.call (h : Rsp w K ms mj m rm dn many room head L) {f : FuncId} {args : Array Value} {E : Ending → Prop}
    (hc : ∀ H, Rjn w H mj m rm dn many L → Calls Tryz.prog f args w fun e w' => E e ∧ ∃ H', Rjn w' H' mj m rm dn' many L' ∧ Mv8 w H w' H') :
    Calls Tryz.prog f args w fun e w' => E e ∧ ∃ K', Rsp w' K' ms mj m rm dn' many room head L' ∧ Mv8 w K w' K' := by
  obtain ⟨h1, H, h2, h3, h4, h5⟩ := h
  refine (hc H h2).mono ?_
  rintro e w' ⟨he, H', j, mv⟩
  have hl := lt_of_block h1
  refine ⟨he, fun g => H' g ∨ g = mj ∨ g = ms, ⟨keeps_out mv.keeps h1 h3, H', j, fun e => ?_, h4, fun g => Iff.rfl⟩, mv.keeps.wide (fun g hg _ => (h5 g).2 (.inl hg)), fun g hg => ?_⟩
  · rcases mv.own ms e with e | e
    · exact h3 e
    · omega
  · rcases hg with e | rfl | rfl
    · rcases mv.own g e with e | e
      · exact .inl ((h5 g).2 (.inl e))
      · exact .inr e
    · exact .inl ((h5 g).2 (.inr (.inl rfl)))
    · exact .inl ((h5 g).2 (.inr (.inr rfl)))
theorem Rsp.set2 (h : Rsp w K ms mj m rm dn many room head L) (x : Int) : Rsp (w.setCell ⟨ms, 2, none⟩ (.int .i64 x)) K ms mj m rm dn many room x L ∧ Mv8 w K (w.setCell ⟨ms, 2, none⟩ (.int .i64 x)) K := by
  obtain ⟨h1, H, h2, h3, h4, h5⟩ := h
  have k : Keeps (fun g => g = ms) w (w.setCell ⟨ms, 2, none⟩ (.int .i64 x)) := (Keeps.refl _ w).set _ _ (.inl rfl)
  exact ⟨⟨by rw [heap_set_same h1]; rfl, H, h2.keeps k (fun e => h4 e.symm) (fun g hg e => h3 (by rw [← e]; exact hg)), h3, h4, h5⟩, k.wide (fun g hg _ => (h5 g).2 (.inr (.inr hg))), fun g hg => .inl hg⟩
theorem rs_next (h : Rsp w K ms mj m rm false many room head (pts' G)) (ok : GOk rm many G) :
    Calls Tryz.prog 19 #[.pointer (some ⟨ms, 0, none⟩)] w fun e w' => e = .returned (.int .i64 (nxG G)) ∧ Below w.heap.size w w' := by
  have c0 := h.c0
  obtain ⟨H, j⟩ := h.jn
  have C1 := Lib.hid (fun wx (hx : Below w.heap.size w wx) => ref_first (j.below hx))
  have C2 := Lib.hid (fun wx (hx : Below w.heap.size w wx) => ref_all (j.below hx) ok)
  have bd := ok.clean.lo
  have bd2 := ok.nx
  have hnx0 := nx_lo ok.clean
  have hnx : IntKind.i64.wrap (fsG G + ((recs G).length : Int)) = nxG G := by
    rw [show fsG G + ((recs G).length : Int) = nxG G from (nxG_eq G).symm]
    exact IntWalk.i64_in _ (by omega)
  have lms := h.slt
  clear h j ok bd bd2 hnx0
  generalize nxG G = x at *
  generalize hNR : (recs G).length = NR at *
  clear hNR
  generalize fsG G = fs at *
  go_enter Tryz.func19, Tryz.ntmps19
  go_wp2_with fail
  have HS := Lib.hid c0
  go_region_held (fun w' => w'.cell? ⟨ms, 0, none⟩ = some (.pointer (some ⟨mj, 0, none⟩)))
    (first | exact HS.out | assumption)
    (first
      | (go_at_call 44; first
          | (refine (C1.out _ (by assumption)).mono ?_; rintro e w3 ⟨rfl, rfl⟩)
          | (refine (C1.out _ (by exact ⟨rfl, rfl, rfl, Nat.le_refl _, fun _ _ => rfl⟩)).mono ?_; rintro e w3 ⟨rfl, hw3⟩; have b3 : Below w.heap.size w w3 := (by rw [hw3]; exact ⟨rfl, rfl, rfl, Nat.le_refl _, fun _ _ => rfl⟩); have s3 : w3.cell? ⟨ms, 0, none⟩ = some (.pointer (some ⟨mj, 0, none⟩)) := (by rw [hw3]; exact HS.out); clear hw3))
      | (go_at_call 45; first
          | (refine (C2.out _ (by assumption)).mono ?_; rintro e w4 ⟨A4, cap4, rfl, _, q4⟩; have b4 : Below w.heap.size w w4 := b3.trans (q4.mono b3.size); have s4 : w4.cell? ⟨ms, 0, none⟩ = some (.pointer (some ⟨mj, 0, none⟩)) := (by rw [World.cell?_of_block (b4.block _ lms)]; exact HS.out))
          | (refine (C2.out _ (by exact ⟨rfl, rfl, rfl, Nat.le_refl _, fun _ _ => rfl⟩)).mono ?_; rintro e w4 ⟨A4, cap4, rfl, _, q4⟩; have b4 : Below w.heap.size w w4 := Below.undraw (m := 0) q4; have s4 : w4.cell? ⟨ms, 0, none⟩ = some (.pointer (some ⟨mj, 0, none⟩)) := (by rw [World.cell?_of_block (b4.block _ lms)]; exact HS.out))))
  all_goals go_wp2
  all_goals go_ret
  all_goals exact ⟨rfl, by assumption⟩
/-- Next, and the spill is as it was. -/
theorem rs_nextB (h : Rsp w K ms mj m rm false many room head (pts' G)) (ok : GOk rm many G) : ∀ wx, Below w.heap.size w wx →
    Calls Tryz.prog 19 #[.pointer (some ⟨ms, 0, none⟩)] wx fun e w' => e = .returned (.int .i64 (nxG G)) ∧ Below w.heap.size w w' ∧ w'.cell? ⟨ms, 0, none⟩ = some (.pointer (some ⟨mj, 0, none⟩)) ∧ w'.cell? ⟨ms, 1, none⟩ = some (.int .i64 room) ∧ w'.cell? ⟨ms, 2, none⟩ = some (.int .i64 head) := fun wx hx =>
  (rs_next (h.below hx) ok).mono fun e w' ⟨h1, h2⟩ => by
    have hb := hx.trans (h2.mono hx.size)
    exact ⟨h1, hb, (h.below hb).c0, (h.below hb).c1, (h.below hb).c2⟩
set_option maxRecDepth 100000 in
theorem rs_ack_none (h : Rsp w K ms mj m rm false many room head (pts' G)) (ok : GOk rm many G) (n : Int) (hn : head = nxG G) :
    Calls Tryz.prog 41 #[.pointer (some ⟨ms, 0, none⟩), .int .i64 n] w fun e w' => e = .returned (.int .i64 7) ∧ Below w.heap.size w w' := by
  have CN := Lib.hid (rs_nextB h ok)
  have c2 := h.c2
  rw [← hn] at CN
  clear h ok hn
  go_enter Tryz.func41, Tryz.ntmps41
  go_wp2_with fail
  refine wp_region_held_drew (S := fun w' => w'.cell? ⟨ms, 2, none⟩ = some (.int .i64 head)) (by kernel_rfl) (by exact c2) (fun hHeld0 => ?_)
  refine takeWanted 0 5 (v := ?vv0) rfl rfl (by kernel_rfl) (by kernel_rfl) (by kernel_rfl) (fun _ _ _ h => h) (by kernel_rfl) ?hy0 (by assumption) ?rest0
  case hy0 => (intro wq hSw; (try dsimp only at hSw); go_simp <;> with_reducible rfl)
  simp only [Act.put, List.setIfInBounds_toArray, List.set_cons_zero, List.set_cons_succ]
  refine takeWanted 1 6 (v := ?vv1) rfl rfl (by kernel_rfl) (by kernel_rfl) (by kernel_rfl) (fun _ _ _ h => h) (by kernel_rfl) ?hy1 (by assumption) ?rest1
  case hy1 => (intro wq hSw; (try dsimp only at hSw); go_simp <;> with_reducible rfl)
  simp only [Act.put, List.setIfInBounds_toArray, List.set_cons_zero, List.set_cons_succ]
  refine takeWanted 2 7 (v := ?vv2) rfl rfl (by kernel_rfl) (by kernel_rfl) (by kernel_rfl) (fun _ _ _ h => h) (by kernel_rfl) ?hy2 (by assumption) ?rest2
  case hy2 => (intro wq hSw; (try dsimp only at hSw); go_simp <;> with_reducible rfl)
  simp only [Act.put, List.setIfInBounds_toArray, List.set_cons_zero, List.set_cons_succ]
  refine takeWanted 3 8 (v := ?vv3) rfl rfl (by kernel_rfl) (by kernel_rfl) (by kernel_rfl) (fun _ _ _ h => h) (by kernel_rfl) ?hy3 (by assumption) ?rest3
  case hy3 => (intro wq hSw; (try dsimp only at hSw); go_simp <;> with_reducible rfl)
  simp only [Act.put, List.setIfInBounds_toArray, List.set_cons_zero, List.set_cons_succ]
  refine takeWanted 4 9 (v := ?vv4) rfl rfl (by kernel_rfl) (by kernel_rfl) (by kernel_rfl) (fun _ _ _ h => h) (by kernel_rfl) ?hy4 (by assumption) ?rest4
  case hy4 => (intro wq hSw; (try dsimp only at hSw); go_simp <;> with_reducible rfl)
  simp only [Act.put, List.setIfInBounds_toArray, List.set_cons_zero, List.set_cons_succ]
  refine wpAnyH_ready (rs := [5]) (by kernel_rfl) (by simp) ?_
  refine AllReadyH.cons rfl (fun K hK => ?_) AllReadyH.nil
  go_simp
  go_wp2_with ((go_at_call 19; refine (CN.out _ (by exact ⟨rfl, rfl, rfl, Nat.le_refl _, fun _ _ => rfl⟩)).mono ?_); rintro e w3 ⟨rfl, b3, s0, s1, s2⟩)
  refine hK.out _ _ (by exact s2) (fun hHeld => ?_)
  clear hK K hHeld0
  have B3 := Lib.hid b3
  have zz : decide (head ≤ head) = true := by simp
  refine takeWanted 6 11 (v := ?vv6) rfl rfl (by kernel_rfl) (by kernel_rfl) (by kernel_rfl) (fun _ _ _ h => h) (by kernel_rfl) ?hy6 (by assumption) ?rest6
  case hy6 => (intro wq hSw; (try dsimp only at hSw); go_simp <;> with_reducible rfl)
  simp only [Act.put, List.setIfInBounds_toArray, List.set_cons_zero, List.set_cons_succ]
  refine takeWanted 7 12 (v := ?vv7) rfl rfl (by kernel_rfl) (by kernel_rfl) (by kernel_rfl) (fun _ _ _ h => h) (by kernel_rfl) ?hy7 (by assumption) ?rest7
  case hy7 => (intro wq hSw; (try dsimp only at hSw); go_simp <;> with_reducible rfl)
  simp only [Act.put, List.setIfInBounds_toArray, List.set_cons_zero, List.set_cons_succ]
  refine takeSkip 8 13 rfl rfl (by kernel_rfl) (by kernel_rfl) (by kernel_rfl) (fun _ _ _ h => h) (by kernel_rfl) (by assumption) ?_
  simp only [Act.put, List.setIfInBounds_toArray, List.set_cons_zero, List.set_cons_succ]
  refine takeSkip 9 14 rfl rfl (by kernel_rfl) (by kernel_rfl) (by kernel_rfl) (fun _ _ _ h => h) (by kernel_rfl) (by assumption) ?_
  simp only [Act.put, List.setIfInBounds_toArray, List.set_cons_zero, List.set_cons_succ]
  refine takeSkip 10 15 rfl rfl (by kernel_rfl) (by kernel_rfl) (by kernel_rfl) (fun _ _ _ h => h) (by kernel_rfl) (by assumption) ?_
  simp only [Act.put, List.setIfInBounds_toArray, List.set_cons_zero, List.set_cons_succ]
  refine takeSkip 11 16 rfl rfl (by kernel_rfl) (by kernel_rfl) (by kernel_rfl) (fun _ _ _ h => h) (by kernel_rfl) (by assumption) ?_
  simp only [Act.put, List.setIfInBounds_toArray, List.set_cons_zero, List.set_cons_succ]
  refine takeSkip 12 17 rfl rfl (by kernel_rfl) (by kernel_rfl) (by kernel_rfl) (fun _ _ _ h => h) (by kernel_rfl) (by assumption) ?_
  simp only [Act.put, List.setIfInBounds_toArray, List.set_cons_zero, List.set_cons_succ]
  refine takeSkip 13 18 rfl rfl (by kernel_rfl) (by kernel_rfl) (by kernel_rfl) (fun _ _ _ h => h) (by kernel_rfl) (by assumption) ?_
  simp only [Act.put, List.setIfInBounds_toArray, List.set_cons_zero, List.set_cons_succ]
  refine takeWanted 14 19 (v := ?vv14) rfl rfl (by kernel_rfl) (by kernel_rfl) (by kernel_rfl) (fun _ _ _ h => h) (by kernel_rfl) ?hy14 (by assumption) ?rest14
  case hy14 => (intro wq hSw; (try dsimp only at hSw); go_simp <;> with_reducible rfl)
  simp only [Act.put, List.setIfInBounds_toArray, List.set_cons_zero, List.set_cons_succ]
  refine wpAnyH_done (by kernel_rfl) ?_ _
  clear hHeld
  clear b3 CN
  go_wp2_with fail
  go_ret
  exact ⟨rfl, B3.out⟩
set_option maxRecDepth 100000 in
theorem rs_ack_other (h : Rsp w K ms mj m rm false many room head (pts' G)) (ok : GOk rm many G) (n : Int) (hl : head < nxG G) (hn : n ≠ head) :
    Calls Tryz.prog 41 #[.pointer (some ⟨ms, 0, none⟩), .int .i64 n] w fun e w' => e = .returned (.int .i64 7) ∧ Below w.heap.size w w' := by
  have CN := Lib.hid (rs_nextB h ok)
  have c2 := h.c2
  have h1 : decide (nxG G ≤ head) = false := decide_eq_false (by omega)
  have h1n : ¬ nxG G ≤ head := by omega
  have h2 : (n == head) = false := beq_eq_false_iff_ne.2 hn
  clear h ok hn hl
  generalize nxG G = x at *
  go_enter Tryz.func41, Tryz.ntmps41
  go_wp2_with fail
  have HS := Lib.hid c2
  go_region_held (fun w' => w'.cell? ⟨ms, 2, none⟩ = some (.int .i64 head))
    (first | exact HS.out | assumption)
    (first
      | (go_at_call 19; refine (CN.out _ (by exact ⟨rfl, rfl, rfl, Nat.le_refl _, fun _ _ => rfl⟩)).mono ?_; rintro e w3 ⟨rfl, b3, s0, s1, s2⟩; have B3 := Lib.hid b3; clear b3))
  all_goals go_wp2
  all_goals go_ret
  all_goals exact ⟨rfl, B3.out⟩
set_option maxRecDepth 100000 in
theorem rs_ack_ok (h : Rsp w K ms mj m rm false many room head (pts' G)) (ok : GOk rm many G) (hl : head < nxG G) (h0 : 0 ≤ head) :
    Calls Tryz.prog 41 #[.pointer (some ⟨ms, 0, none⟩), .int .i64 head] w fun e w' => e = .returned (.int .i64 0) ∧ ∃ K', Rsp w' K' ms mj m rm false many room (head + 1) (pts' (trimG G (head + 1))) ∧ Mv8 w K w' K' := by
  have CN := Lib.hid (rs_nextB h ok)
  have c2 := h.c2
  have h1 : decide (nxG G ≤ head) = false := decide_eq_false (by omega)
  have h1n : ¬ nxG G ≤ head := by omega
  have bd := ok.nx
  have hw : IntKind.i64.wrap (head + 1) = head + 1 := IntWalk.i64_in _ (by omega)
  have CT : Hid (∀ wx, Below w.heap.size w wx → ∀ q : Nat, Calls Tryz.prog 71 #[.pointer (some ⟨mj, 0, none⟩), .int .i64 (head + 1)] ((wx.setCell ⟨ms, 2, none⟩ (.int .i64 (head + 1))).drewN q) fun e w' => e = .returned (.int .i64 0) ∧ ∃ K', Rsp w' K' ms mj m rm false many room (head + 1) (pts' (trimG G (head + 1))) ∧ Mv8 w K w' K') := Lib.hid (fun wx hx q => by
    obtain ⟨s1, m1⟩ := (h.below hx).set2 (head + 1)
    exact ((s1.below (below_drewN _ q)).call (L' := pts' (trimG G (head + 1))) (dn' := false) (fun H j => ref_jtrim j ok.clean ok.inv (by have := ok.len; omega))).mono fun e w' ⟨h1, K', h2, h3⟩ => ⟨h1, K', h2, (Mv8.still hx).trans (m1.trans ((Mv8.still (below_drewN _ q)).trans h3))⟩)
  have FF : Hid (∀ wx, Below w.heap.size w wx → wx.frozen? ⟨ms, 2, none⟩ = false) := Lib.hid (fun wx hx => (h.below hx).f 2)
  have LT : Hid (∀ wx, Below w.heap.size w wx → ms < wx.heap.size) := Lib.hid (fun wx hx => (h.below hx).slt)
  clear h ok hl h0 bd
  generalize nxG G = x at *
  go_enter Tryz.func41, Tryz.ntmps41
  go_wp2_with fail
  have HS := Lib.hid c2
  go_region_held (fun w' => w'.cell? ⟨ms, 2, none⟩ = some (.int .i64 head))
    (first | exact HS.out | assumption)
    (first
      | (go_at_call 19; refine (CN.out _ (by exact ⟨rfl, rfl, rfl, Nat.le_refl _, fun _ _ => rfl⟩)).mono ?_; rintro e w3 ⟨rfl, b3, s0, s1, s2⟩; have f3 := FF.out w3 b3; have l3 := LT.out w3 b3; have K3 := Lib.hid (CT.out w3 b3); clear b3))
  all_goals
    clear CN CT FF LT
    go_wp2_with fail
    go_region_with ((go_at_call 71; refine (K3.out _).mono ?_; rintro e w4 ⟨rfl, hK⟩; have HK := Lib.hid hK; clear hK))
    all_goals go_wp2
    all_goals go_ret
    all_goals exact ⟨rfl, HK.out⟩
end
end Go.Proofs.YtgeahpfdaehjaaaGreatDoor
