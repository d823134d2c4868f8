/-
  Layer 21, the document's spill: Open.
-/
import Derived.Test.YtgnkkcnmepafpaaGreatDoorQRefSpill3
namespace Go.Proofs.YtgnkkcnmepafpaaGreatDoor
open Go.ChangeShapes Go.WideShapes Go.ChangeAt Go.RowKit
set_option linter.unusedVariables false

section
variable {w w' : World} {K : Nat → Prop} {ms mj m rm : Nat} {dn : Bool} {many room head : Int} {G : List Sg}
theorem cut_fs (G : List Sg) : fsG (cutG G) = fsG G := by unfold fsG; rw [show (cutG G).map (·.n) = ns (cutG G) from rfl, cut_ns]
theorem cut_good (hs : Segs G) : ∀ g ∈ cutG G, g.Good := fun g hg => by
  unfold cutG at hg
  obtain ⟨f, hf, rfl⟩ := List.mem_map.1 hg
  exact ⟨(hs.good f hf).good, torn_nil⟩
theorem cut_used (hi : Inv rm (G.map Sg.pt)) : used (pts' (cutG G)) ≤ 65536 := by
  have h1 : used (pts' (cutG G)) ≤ used (G.map Sg.pt) := by
    rw [cut_pts]
    clear hi
    induction G with
    | nil => exact Nat.le_refl _
    | cons g G ih =>
      rw [List.map_cons, List.map_cons, used_cons, used_cons]
      have e : g.cut.b.length ≤ g.pt.b.length := by show (flat g.rs).length ≤ (flat g.rs ++ g.t).length; rw [List.length_append]; omega
      omega
  have := hi.fits
  have := hi.room
  omega
set_option maxHeartbeats 2000000 in
set_option maxRecDepth 100000 in
theorem rs_open (h : Rsp w K ms mj m rm dn many room head (G.map Sg.pt)) (hs : Segs G) (hi : Inv rm (G.map Sg.pt)) (hlo : 0 ≤ fsG G ∧ fsG G ≤ 1000000) :
    Calls Tryz.prog 10 #[.pointer (some ⟨ms, 0, none⟩)] w fun e w' => e = .returned (.bool (recOk (fsG G) (recs G))) ∧ ∃ K', Rsp w' K' ms mj m rm false many room (fsG G) (pts' (cutG G)) ∧ Mv8 w K w' K' := by
  have c0 := h.c0
  have CO := Lib.hid (h.call (dn' := false) (L' := G.map Sg.cut) (E := fun e => e = .returned (.tuple #[])) (fun H j => ref_jopen j hs hi))
  have HS := Lib.hid hs
  have HI := Lib.hid hi
  have hrl := hs.rl
  have hgr : Hid (∀ r ∈ recs G, r.length ≤ 4096) := Lib.hid (fun r hr => by
    unfold recs at hr
    obtain ⟨rs, hrs, hr⟩ := List.mem_flatten.1 hr
    obtain ⟨f, hf, rfl⟩ := List.mem_map.1 hrs
    exact ((hs.good f hf).good r hr).2)
  clear h hs hi
  obtain ⟨N, hN⟩ : ∃ N, (recs G).length = N := ⟨_, rfl⟩
  have HN := Lib.hid hN
  rw [hN] at hrl
  clear hN
  go_enter Tryz.func10, Tryz.ntmps10
  go_wp2_with fail
  refine CO.out.mono ?_
  rintro e w1 ⟨rfl, K1, R1, M1⟩
  rw [← cut_pts] at R1
  have d0 := R1.c0
  have df := R1.f 2
  have d2 := R1.c2
  have dl := R1.slt
  obtain ⟨H1, j1⟩ := R1.jn
  have CF := ref_first j1
  rw [cut_fs] at CF
  have CF := Lib.hid CF
  have RS := Lib.hid (R1.set2 (fsG G))
  have M1 := Lib.hid M1
  clear R1 j1 CO
  go_wp2_with fail
  refine CF.out.mono ?_
  rintro e w2 ⟨rfl, rfl⟩
  clear CF
  obtain ⟨R2, M2⟩ := RS.out
  have e0 := R2.c0
  obtain ⟨H2, j2⟩ := R2.jn
  have CA := ref_jall j2 (cut_good HS.out) (by unfold cutG; rw [List.length_map]; exact HS.out.len) (cut_used HI.out) (by rw [cut_recs]; exact HS.out.rl)
  rw [cut_recs, HN.out] at CA
  have CA := Lib.hid CA
  have R2 := Lib.hid R2
  have M2 := Lib.hid (M1.out.trans M2)
  clear j2 RS M1
  go_wp2_with fail
  refine CA.out.mono ?_
  rintro e w3 ⟨A3, cap3, rfl, o3, b3⟩
  have R3 := Lib.hid (R2.out.below b3)
  have M3 := Lib.hid (M2.out.trans (Mv8.still b3))
  obtain ⟨A4, cap4, e4, h1, h2⟩ := os_shape o3
  rw [HN.out] at e4
  cases e4
  have HC : Hid (∀ i r, (recs G)[i]? = some r → ∃ ga, A3 = some ⟨ga, 0, none⟩ ∧ ∀ wx, Below w3.heap.size w3 wx → wx.cell? ⟨ga, i, none⟩ = some (.string ⟨r.toArray⟩)) := Lib.hid (fun i r hr => by
    cases A3 with
    | none => rw [(h1 rfl).2] at hr; cases hr
    | some a =>
      obtain ⟨h3, h4⟩ := h2 a rfl
      have h5 := h4 i r hr
      rw [h3, Addr.add_lit, Nat.zero_add] at h5
      exact ⟨a.block, by rw [h3], fun wx hx => by
        have hl := World.block_lt_of_cell? w3 _ h5
        rw [World.cell?_of_block (hx.block _ hl)]
        exact h5⟩)
  clear CA o3 b3 h1 h2 R2 M2 d0 df d2 e0 c0 dl
  go_wp2_with fail
  go_loopg [4] N (fun g s4 wx => ∃ k, k + g = N ∧ s4 = .int .i64 (k : Nat) ∧ Hid (Below w3.heap.size w3 wx) ∧ Hid (recOk (fsG G + (k : Nat)) ((recs G).drop k) = recOk (fsG G) (recs G)))
  case atStart => exact ⟨0, by omega, rfl, Lib.hid (Below.refl _ _), Lib.hid (by simp)⟩
  case round =>
    obtain ⟨k, hk, rfl, HB, HQ⟩ := hrel
    have FIN : Hid (∀ wx, Below wr.heap.size wr wx → ∃ K', Rsp wx K' ms mj m rm false many room (fsG G) (pts' (cutG G)) ∧ Mv8 w K wx K') := Lib.hid (fun wx hx => by
      have hb := HB.out.trans (hx.mono HB.out.size)
      exact ⟨K1, R3.out.below hb, M3.out.trans (Mv8.still hb)⟩)
    have s2 := (R3.out.below HB.out).c2
    cases gk with
    | zero =>
      have x1 : decide ((k : Int) < (N : Int)) = false := decide_eq_false (by omega)
      have x2 : ¬ k < N := by omega
      have FQ : Hid (recOk (fsG G) (recs G) = true) := Lib.hid (by
        rw [← HQ.out, List.drop_eq_nil_of_le (by rw [HN.out]; omega)]
        rfl)
      clear hk
      go_wp2_with fail
      go_ret
      exact ⟨by rw [FQ.out]; rfl, FIN.out wr (Below.refl _ _)⟩
    | succ g =>
      have x1 : decide ((k : Int) < (N : Int)) = true := decide_eq_true (by omega)
      have x2 : k < N := by omega
      obtain ⟨r, hr⟩ : ∃ r, (recs G)[k]? = some r := ⟨(recs G)[k]'(by rw [HN.out]; omega), List.getElem?_eq_getElem _⟩
      have hr4 := hgr.out r (List.mem_of_getElem? hr)
      obtain ⟨ga, rfl, hc⟩ := HC.out k r hr
      have cr := hc wr HB.out
      have hstep := recOk_drop (fsG G) hr
      rw [HQ.out] at hstep
      obtain ⟨cap5, w5, cv5, rd5, b5⟩ := str_rowR wr r (by omega)
      have CG := refGet (some ⟨wr.heap.size, 0, none⟩) cap5 r w5 rd5 (by omega)
      have B5 := Lib.hid b5
      have s5 : w5.cell? ⟨ms, 2, none⟩ = some (.int .i64 (fsG G)) := (R3.out.below (HB.out.trans (b5.mono HB.out.size))).c2
      have hw : IntKind.i64.wrap (fsG G + (k : Int)) = fsG G + (k : Int) := IntWalk.i64_in _ (by omega)
      have lms : ms < w5.heap.size := Nat.lt_of_lt_of_le (R3.out.below HB.out).slt b5.size
      have HSt := Lib.hid hstep
      have HB2 : Hid (∀ wx, Below w5.heap.size w5 wx → Below w3.heap.size w3 wx) := Lib.hid (fun wx hx => HB.out.trans ((b5.trans (hx.mono b5.size)).mono HB.out.size))
      clear hc hr rd5 b5 hstep HC HQ
      generalize r.length = NR at *
      cases hg : getF r with
      | none =>
        rw [hg] at CG
        have CG : Hid (Calls Tryz.prog 34 #[.slice (some ⟨wr.heap.size, 0, none⟩) NR cap5] w5 (FgBad w5)) := Lib.hid CG
        have FQ : Hid (recOk (fsG G) (recs G) = false) := Lib.hid (by rw [HSt.out]; unfold batG; rw [hg]; rfl)
        unfold FgBad btVal at CG
        clear hg HSt
        have g1 := below_new w5 (.cells #[.int .i64 0, .int .i64 0, .slice none 0 0] 48)
        go_wp2_with fail
        refine CG.out.mono ?_
        rintro e w6 ⟨rfl, b6⟩
        have B7 := Lib.hid (B5.out.trans ((b6.alloc b6.size (.cells #[.int .i64 0, .int .i64 0, .slice none 0 0] 48)).mono B5.out.size))
        have s7 : (w6.alloc (.cells #[.int .i64 0, .int .i64 0, .slice none 0 0] 48)).cell? ⟨ms, 2, none⟩ = some (.int .i64 (fsG G)) := by
          rw [World.cell?_of_block ((b6.alloc b6.size (.cells #[.int .i64 0, .int .i64 0, .slice none 0 0] 48)).block _ lms)]
          exact s5
        clear CG b6 cv5 cr s2 s5 g1
        go_wp2_with fail
        generalize w6.alloc (.cells #[.int .i64 0, .int .i64 0, .slice none 0 0] 48) = X7 at *
        go_quiet (fail)
        all_goals go_wp2
        all_goals go_ret
        all_goals exact ⟨by rw [FQ.out]; rfl, FIN.out _ (B7.out.trans ⟨rfl, rfl, rfl, Nat.le_refl _, fun _ _ => rfl⟩)⟩
      | some b =>
        rw [hg] at CG
        have CG : Hid (Calls Tryz.prog 34 #[.slice (some ⟨wr.heap.size, 0, none⟩) NR cap5] w5 (FgGood w5 b)) := Lib.hid CG
        unfold FgGood btVal at CG
        by_cases hsq : b.seq = fsG G + (k : Nat)
        · have hbt : batG (fsG G + (k : Nat)) r = true := by unfold batG; rw [hg]; simp [hsq]
          have HQ2 : Hid (recOk (fsG G + ((k + 1 : Nat) : Int)) ((recs G).drop (k + 1)) = recOk (fsG G) (recs G)) := Lib.hid (by rw [HSt.out, hbt, Bool.true_and])
          have hq : (b.seq == fsG G + (k : Int)) = true := beq_iff_eq.2 hsq
          clear HSt hbt hsq
          generalize hNB : b.rows.length = NB at *
          clear hNB
          go_wp2_with fail
          refine CG.out.mono ?_
          rintro e w6 ⟨B6, c6, rfl, _, b6⟩
          have B7 := Lib.hid (B5.out.trans ((b6.alloc b6.size (.cells #[.int .i64 b.seq, .int .i64 b.start, .slice B6 NB c6] 48)).mono B5.out.size))
          have B8 := Lib.hid (HB2.out _ (b6.alloc b6.size (.cells #[.int .i64 b.seq, .int .i64 b.start, .slice B6 NB c6] 48)))
          have s7 : (w6.alloc (.cells #[.int .i64 b.seq, .int .i64 b.start, .slice B6 NB c6] 48)).cell? ⟨ms, 2, none⟩ = some (.int .i64 (fsG G)) := by
            rw [World.cell?_of_block ((b6.alloc b6.size (.cells #[.int .i64 b.seq, .int .i64 b.start, .slice B6 NB c6] 48)).block _ lms)]
            exact s5
          have t7 : (w6.alloc (.cells #[.int .i64 b.seq, .int .i64 b.start, .slice B6 NB c6] 48)).cell? ⟨w6.heap.size, 0, none⟩ = some (.int .i64 b.seq) := cell_of_block (heap_alloc_new w6 _)
          clear CG b6 cv5 cr s2 s5 hg
          go_wp2_with fail
          generalize w6.alloc (.cells #[.int .i64 b.seq, .int .i64 b.start, .slice B6 NB c6] 48) = X7 at *
          go_quiet (fail)
          all_goals go_wp2
          all_goals
            go_roundg g
            case rel => exact ⟨k + 1, by omega, by go_num, Lib.hid (B8.out.trans ⟨rfl, rfl, rfl, Nat.le_refl _, fun _ _ => rfl⟩), HQ2⟩
            case measure => omega
        · have hq : (b.seq == fsG G + (k : Int)) = false := beq_eq_false_iff_ne.2 hsq
          have FQ : Hid (recOk (fsG G) (recs G) = false) := Lib.hid (by rw [HSt.out]; unfold batG; rw [hg]; simp only; rw [hq]; rfl)
          clear HSt hsq
          generalize hNB : b.rows.length = NB at *
          clear hNB
          go_wp2_with fail
          refine CG.out.mono ?_
          rintro e w6 ⟨B6, c6, rfl, _, b6⟩
          have B7 := Lib.hid (B5.out.trans ((b6.alloc b6.size (.cells #[.int .i64 b.seq, .int .i64 b.start, .slice B6 NB c6] 48)).mono B5.out.size))
          have B8 := Lib.hid (HB2.out _ (b6.alloc b6.size (.cells #[.int .i64 b.seq, .int .i64 b.start, .slice B6 NB c6] 48)))
          have s7 : (w6.alloc (.cells #[.int .i64 b.seq, .int .i64 b.start, .slice B6 NB c6] 48)).cell? ⟨ms, 2, none⟩ = some (.int .i64 (fsG G)) := by
            rw [World.cell?_of_block ((b6.alloc b6.size (.cells #[.int .i64 b.seq, .int .i64 b.start, .slice B6 NB c6] 48)).block _ lms)]
            exact s5
          have t7 : (w6.alloc (.cells #[.int .i64 b.seq, .int .i64 b.start, .slice B6 NB c6] 48)).cell? ⟨w6.heap.size, 0, none⟩ = some (.int .i64 b.seq) := cell_of_block (heap_alloc_new w6 _)
          clear CG b6 cv5 cr s2 s5 hg
          go_wp2_with fail
          generalize w6.alloc (.cells #[.int .i64 b.seq, .int .i64 b.start, .slice B6 NB c6] 48) = X7 at *
          go_quiet (fail)
          all_goals go_wp2
          all_goals go_ret
          all_goals exact ⟨by rw [FQ.out]; rfl, FIN.out _ (B7.out.trans ⟨rfl, rfl, rfl, Nat.le_refl _, fun _ _ => rfl⟩)⟩
end
end Go.Proofs.YtgnkkcnmepafpaaGreatDoor
