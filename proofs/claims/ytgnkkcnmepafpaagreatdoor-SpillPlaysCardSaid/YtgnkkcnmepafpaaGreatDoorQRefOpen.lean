/-
  Layer 9, the document's journal: Open.
-/
import Derived.Test.YtgnkkcnmepafpaaGreatDoorQRefApp
import Derived.Deep.RegionLaw
namespace Go.Proofs.YtgnkkcnmepafpaaGreatDoor
open Go.ChangeShapes Go.WideShapes Go.ChangeAt Go.RowKit
set_option linter.unusedVariables false

section
variable {w : World} {H : Nat → Prop} {mj m rm : Nat} {dn : Bool} {many : Int} {G : List Sg}
/-- The number of the next record behind the first k parts. -/
def nextAt (G : List Sg) (k : Nat) : Int := match G[k - 1]? with | some g => if k = 0 then 0 else g.n + (g.rs.length : Nat) | none => 0
theorem nextAt_zero (G : List Sg) : nextAt G 0 = 0 := by unfold nextAt; split <;> simp
theorem nextAt_succ {k : Nat} {g : Sg} (h : G[k]? = some g) : nextAt G (k + 1) = g.n + (g.rs.length : Nat) := by unfold nextAt; rw [Nat.add_sub_cancel, h]; simp
theorem nextAt_chain {k : Nat} {g : Sg} (hc : ∃ n, Chain n G) (hk : 0 < k) (h : G[k]? = some g) : g.n = nextAt G k := by
  obtain ⟨n, hc⟩ := hc
  obtain ⟨j, rfl⟩ : ∃ j, k = j + 1 := ⟨k - 1, by omega⟩
  have hj : j < G.length := by have := (List.getElem?_eq_some_iff.1 h).1; omega
  have hf : G[j]? = some G[j] := List.getElem?_eq_getElem hj
  rw [nextAt_succ hf]
  have e1 : G = G.take j ++ G[j] :: G.drop (j + 1) := by rw [← List.drop_eq_getElem_cons hj, List.take_append_drop]
  have e2 : G.drop (j + 1) = g :: G.drop (j + 1 + 1) := by
    have hl := (List.getElem?_eq_some_iff.1 h).1
    rw [List.drop_eq_getElem_cons hl]
    congr 1
    exact (List.getElem?_eq_some_iff.1 h).2
  have h1 := hc
  rw [e1] at h1
  have a1 := chain_at _ n h1
  have h2 := hc
  rw [e1, e2, show G.take j ++ G[j] :: g :: G.drop (j + 1 + 1) = (G.take j ++ [G[j]]) ++ g :: G.drop (j + 1 + 1) by rw [List.append_assoc]; rfl] at h2
  have a2 := chain_at _ n h2
  rw [recs_snoc, List.length_append] at a2
  omega
theorem take_map_succ {α β : Type} (f : α → β) {l : List α} {k : Nat} {x : α} (h : l[k]? = some x) : (l.take (k + 1)).map f = (l.take k).map f ++ [f x] := by rw [List.take_add_one, h, Option.toList_some, List.map_append]; rfl
set_option maxHeartbeats 4000000 in
set_option maxRecDepth 100000 in
theorem ref_jopen (h : Rjn w H mj m rm dn many (G.map Sg.pt)) (hs : Segs G) (hi : Inv rm (G.map Sg.pt)) :
    Calls Tryz.prog 31 #[.pointer (some ⟨mj, 0, none⟩)] w fun e w' => e = .returned (.tuple #[]) ∧ ∃ H', Rjn w' H' mj m rm false many (G.map Sg.cut) ∧ Mv8 w H w' H' := by
  have c0 := h.c0
  obtain ⟨A, cap, hb, hG⟩ := h.ref
  have f2 := hb.f 2
  have c2 := hb.c2
  have lm := hb.lt
  have hmj : mj ≠ m := fun e => h.notH (by rw [e]; exact (hG m).2 (.inl rfl))
  have J0 : Hid (Rjn (w.setCell ⟨m, 2, none⟩ (.bool false)) H mj m rm false many (G.map Sg.pt) ∧ Mv8 w H (w.setCell ⟨m, 2, none⟩ (.bool false)) H) := Lib.hid
    ⟨⟨by rw [heap_set_other (fun e => hmj e)]; exact h.jb, A, cap, hb.setD false, hG⟩, (Keeps.refl H w).set _ _ (.inl ((hG m).2 (.inl rfl))), fun g hg => .inl hg⟩
  have HS := Lib.hid hs
  have hu : used (G.map Sg.pt) ≤ 65536 := by have := hi.fits; have := hi.room; omega
  have HU := Lib.hid hu
  have HF : Hid (∀ wx, Below w.heap.size (w.setCell ⟨m, 2, none⟩ (.bool false)) wx → ∀ B cb, OwnP wx w.heap.size (.slice B G.length cb) (G.map Sg.cut) → ∃ H', Rjn (wx.setCell ⟨m, 1, none⟩ (.slice B G.length cb)) H' mj m rm false many (G.map Sg.cut) ∧ Mv8 w H (wx.setCell ⟨m, 1, none⟩ (.slice B G.length cb)) H') := Lib.hid (fun wx hx B cb ho => by
    obtain ⟨j1, j2⟩ := J0.out
    have hsz : (w.setCell ⟨m, 2, none⟩ (.bool false)).heap.size = w.heap.size := World.size_setCell _ _ _
    have hx' : Below (w.setCell ⟨m, 2, none⟩ (.bool false)).heap.size (w.setCell ⟨m, 2, none⟩ (.bool false)) wx := by rw [hsz]; exact hx
    have j3 := j1.below hx'
    have hb3 := (hb.setD false).below hx'
    have hl : (G.map Sg.cut).length = G.length := by simp
    have hr := RfB.setL (L' := G.map Sg.cut) (A' := B) (cap' := cb) hb3.blk (by rw [hl]; exact ho.mono (Nat.zero_le _))
    rw [hl] at hr
    refine ⟨footR m B, ⟨by rw [heap_set_other (fun e => hmj e)]; exact j3.jb, B, cb, hr, fun g => Iff.rfl⟩, (j2.keeps.trans (Keeps.of_below hx (by rw [hsz]; exact Nat.le_refl _) (fun _ => False)) (fun g e => e.elim)).set _ _ (.inl ((hG m).2 (.inl rfl))), fun g hg => ?_⟩
    rcases hg with e | ⟨ad, ha, e⟩
    · exact .inl ((hG g).2 (.inl e))
    · subst ha
      rw [← e]
      exact .inr (World.ownsRow.lt ho ad.block rfl).1)
  clear h hb hs hi hu
  go_enter Tryz.func31, Tryz.ntmps31
  go_wp2_with fail
  go_loopg [2, 3, 4] (G.length) (fun g s2 s3 s4 wx => ∃ (k : Nat) (B : Option Addr) (cb : Nat), k + g = G.length ∧ s4 = .int .i64 (k : Nat) ∧ s3 = .int .i64 (nextAt G k) ∧ s2 = .slice B k cb ∧ Hid (Below w.heap.size (w.setCell ⟨m, 2, none⟩ (.bool false)) wx) ∧ Hid (OwnP wx w.heap.size (.slice B k cb) ((G.take k).map Sg.cut)))
  case atStart => exact ⟨0, none, 0, by omega, rfl, by rw [nextAt_zero], rfl, Lib.hid (Below.refl _ _), Lib.hid (World.ownsRow_nil _ _ _ _)⟩
  case round =>
    obtain ⟨k, B, cb, hk, rfl, rfl, rfl, HB, HO⟩ := hrel
    have hsz : (w.setCell ⟨m, 2, none⟩ (.bool false)).heap.size = w.heap.size := World.size_setCell _ _ _
    have JB := J0.out.1.below (w' := wr) (by rw [hsz]; exact HB.out)
    have c0 := JB.c0
    obtain ⟨A1, cap1, hb1, _⟩ := JB.ref
    have c1 := hb1.c1
    rw [List.length_map] at c1
    rcases Nat.eq_zero_or_pos gk with rfl | hpos
    · have x1 : decide ((k : Int) < (G.length : Int)) = false := decide_eq_false (by omega)
      have x2 : ¬ k < G.length := by omega
      have hkG : k = G.length := by omega
      obtain ⟨H', h1, h2⟩ := HF.out wr HB.out B cb (by have := HO.out; rw [hkG, List.take_length] at this; exact this)
      have h1 := Lib.hid h1
      have h2 := Lib.hid h2
      have f1 := hb1.f 1
      have lm1 := hb1.lt
      rw [← hkG] at h1 h2
      clear JB hb1 HO HB HF J0 HS HU hkG hk
      go_wp2_with fail
      go_end0
      exact ⟨rfl, H', h1.out, h2.out⟩
    · obtain ⟨g, rfl⟩ : ∃ g, gk = g + 1 := ⟨gk - 1, by omega⟩
      have hkl : k < G.length := by omega
      have x1 : decide ((k : Int) < (G.length : Int)) = true := decide_eq_true (by omega)
      obtain ⟨q, hq⟩ : ∃ q, G[k]? = some q := ⟨G[k], List.getElem?_eq_getElem hkl⟩
      obtain ⟨ga, rfl, e0, e1, e2, _⟩ := hb1.idx (k := k) (p := q.pt) (by rw [List.getElem?_map, hq]; rfl)
      have d0 : wr.cell? ⟨ga, k * 3, none⟩ = some (.int .i64 q.n) := e0
      have d1 : wr.cell? ⟨ga, k * 3 + 1, none⟩ = some (.string ⟨(flat q.rs ++ q.t).toArray⟩) := e1
      have d2 : wr.cell? ⟨ga, k * 3 + 2, none⟩ = some (.int .i64 (q.s : Nat)) := e2
      have hqm := List.mem_of_getElem? hq
      have hgd := HS.out.good q hqm
      have hlo := HS.out.lo q hqm
      have hql : (flat q.rs ++ q.t).length ≤ 65536 := by
        have h1 := used_mem (p := q.pt) (l := G.map Sg.pt) (List.mem_map.2 ⟨q, hqm, rfl⟩)
        have h2 := HU.out
        have e : q.pt.b = flat q.rs ++ q.t := rfl
        rw [e] at h1
        omega
      have hrl := flat_countR q.rs
      have hGl := HS.out.len
      have hfl : (flat q.rs).length ≤ (flat q.rs ++ q.t).length := by rw [List.length_append]; omega
      have CR := Lib.hid (ref_records (wr.alloc (.cells #[.int .i64 q.n, .string ⟨(flat q.rs ++ q.t).toArray⟩, .int .i64 (q.s : Nat)] 73)) q.rs q.t hgd.good hgd.torn hql)
      have hst : ∀ w, (Instr.slice 9 (.string ⟨(flat q.rs ++ q.t).toArray⟩) none (some (.int .i64 ((flat q.rs).length : Nat))) none).run Tryz.prog w = .ok (.string ⟨(flat q.rs).toArray⟩) w := fun w => by
        have := str_take (flat q.rs ++ q.t) (flat q.rs).length hfl w
        rw [List.take_left] at this
        exact this
      have hnx := nextAt_succ hq
      have hw : IntKind.i64.wrap (q.n + (q.rs.length : Int)) = nextAt G (k + 1) := by rw [hnx]; exact IntWalk.i64_in _ (by omega)
      have hch : 0 < k → (q.n == nextAt G k) = true := fun h0 => beq_iff_eq.2 (nextAt_chain HS.out.chain h0 hq)
      have HT := Lib.hid (take_map_succ Sg.cut hq)
      have HOK : Hid (∀ wx, Below wr.heap.size wr wx → ∃ A3 cap3 w3, (Builtin.append_ #[33, 33] 33 #[.slice B k cb, .slice (some ⟨wx.heap.size, 0, none⟩) 1 1]).run Tryz.prog (wx.alloc (.cells #[.int .i64 q.n, .string ⟨(flat q.rs).toArray⟩, .int .i64 ((flat q.rs).length : Nat)] 73)) = .ok (.slice A3 (k + 1) cap3) w3 ∧ OwnP w3 w.heap.size (.slice A3 (k + 1) cap3) ((G.take (k + 1)).map Sg.cut) ∧ Below w.heap.size (w.setCell ⟨m, 2, none⟩ (.bool false)) w3 ∧ ∀ b, wr.heap.size ≤ b → b < wx.heap.size → w3.heap[b]? = wx.heap[b]?) := Lib.hid (fun wx hx => by
        have hwr : w.heap.size ≤ wr.heap.size := by have := HB.out.size; rw [hsz] at this; exact this
        have o1 : OwnP wx w.heap.size (.slice B k cb) ((G.take k).map Sg.cut) := owns_keeps HO.out (Keeps.of_below hx (Nat.le_refl _) (fun _ => False)) (fun _ _ e => e)
        have o2 : OwnP (wx.alloc (.cells #[.int .i64 q.n, .string ⟨(flat q.rs).toArray⟩, .int .i64 ((flat q.rs).length : Nat)] 73)) w.heap.size (.slice B k cb) ((G.take k).map Sg.cut) := World.ownsRow.alloc o1 _
        have hlen : ((G.take k).map Sg.cut).length = k := by rw [List.length_map, List.length_take]; omega
        have hl9 := HS.out.len
        obtain ⟨v3, w3, r3, p3, g3, _⟩ := ownP_app o2 (srcP_one wx q.cut) (by rw [hlen]; simp; omega) (by have := hx.size; simp; omega)
        obtain ⟨A3, cap3, e3, _, _⟩ := p3.src
        rw [List.length_append, hlen, List.length_singleton] at e3
        subst e3
        refine ⟨A3, cap3, w3, r3, by rw [HT.out]; exact p3, ?_⟩
        have hbx : Below w.heap.size (w.setCell ⟨m, 2, none⟩ (.bool false)) (wx.alloc (.cells #[.int .i64 q.n, .string ⟨(flat q.rs).toArray⟩, .int .i64 ((flat q.rs).length : Nat)] 73)) := (HB.out.trans (hx.mono hwr)).alloc (Nat.le_trans hwr hx.size) _
        refine ⟨hbx.grown g3 (by have := hbx.size; rw [hsz] at this; exact this) (fun b hb => (World.ownsRow.lt o2 b hb).1), fun b h1 h2 => ?_⟩
        rw [g3.block b (by simp; omega) (fun e => by have := (World.ownsRow.lt HO.out b e.symm).2; omega), (World.grownBy_alloc wx _ none).block b h2 (by simp)])
      clear JB hb1 HO HF HS HU J0 e0 e1 e2 hqm hgd hlo hql hrl hfl hnx hq hpos
      unfold RecsP at CR
      generalize flat q.rs ++ q.t = FB at *
      generalize hFR : flat q.rs = FR at *
      clear hFR
      generalize q.n = qn at *
      generalize q.s = qs at *
      generalize q.rs.length = NR at *
      rcases Nat.eq_zero_or_pos k with rfl | h0
      · have x3 : ¬ 0 < 0 := by omega
        clear hch
        go_wp2_with fail
        refine CR.out.mono ?_
        rintro e w2 ⟨A2, cap2, rfl, o2, b2⟩
        have p0 : w2.cell? ⟨wr.heap.size, 0, none⟩ = some (.int .i64 qn) := by rw [World.cell?_of_block (b2.block _ (by simp))]; exact cell_of_block (heap_alloc_new wr _)
        have p1 : w2.cell? ⟨wr.heap.size, 1, none⟩ = some (.string ⟨FB.toArray⟩) := by rw [World.cell?_of_block (b2.block _ (by simp))]; exact cell_of_block (heap_alloc_new wr _)
        have p2 : wr.heap.size < w2.heap.size := Nat.lt_of_lt_of_le (by simp) b2.size
        have b3 : Below wr.heap.size wr w2.drew := ((Below.refl wr.heap.size wr).alloc (Nat.le_refl _) _).trans ((b2.trans ((below_drew w2).mono b2.size)).mono (by simp))
        obtain ⟨A9, cap9, w9, r9, o9, b9, k9⟩ := HOK.out w2.drew b3
        have p9 : w9.cell? ⟨wr.heap.size, 0, none⟩ = some (.int .i64 qn) := by rw [World.cell?_of_block (k9 wr.heap.size (Nat.le_refl _) p2)]; exact p0
        have R9 := Lib.hid r9
        have O9 := Lib.hid o9
        have B9 := Lib.hid b9
        clear o2 b2 b3 r9 o9 b9 k9 CR HOK
        go_wp2_with fail
        go_region_law (first
          | (refine step_append_at8 rfl (.tmp 50) (.tmp 59) 33 rfl _ _ _ rfl rfl R9.out ?_)
          | fail)
        all_goals go_wp2_with fail
        all_goals
          go_roundg g
          case rel => exact ⟨1, A9, cap9, by omega, rfl, by first | rfl | go_num, rfl, B9, O9⟩
          case measure => omega
      · have hch := hch h0
        have x4 : decide ((0 : Int) < (k : Int)) = true := decide_eq_true (by omega)
        go_wp2_with fail
        refine CR.out.mono ?_
        rintro e w2 ⟨A2, cap2, rfl, o2, b2⟩
        have p0 : w2.cell? ⟨wr.heap.size, 0, none⟩ = some (.int .i64 qn) := by rw [World.cell?_of_block (b2.block _ (by simp))]; exact cell_of_block (heap_alloc_new wr _)
        have p1 : w2.cell? ⟨wr.heap.size, 1, none⟩ = some (.string ⟨FB.toArray⟩) := by rw [World.cell?_of_block (b2.block _ (by simp))]; exact cell_of_block (heap_alloc_new wr _)
        have p2 : wr.heap.size < w2.heap.size := Nat.lt_of_lt_of_le (by simp) b2.size
        have b3 : Below wr.heap.size wr w2.drew := ((Below.refl wr.heap.size wr).alloc (Nat.le_refl _) _).trans ((b2.trans ((below_drew w2).mono b2.size)).mono (by simp))
        obtain ⟨A9, cap9, w9, r9, o9, b9, k9⟩ := HOK.out w2.drew b3
        have p9 : w9.cell? ⟨wr.heap.size, 0, none⟩ = some (.int .i64 qn) := by rw [World.cell?_of_block (k9 wr.heap.size (Nat.le_refl _) p2)]; exact p0
        have R9 := Lib.hid r9
        have O9 := Lib.hid o9
        have B9 := Lib.hid b9
        clear o2 b2 b3 r9 o9 b9 k9 CR HOK
        go_wp2_with fail
        go_region_law (first
          | (refine step_append_at8 rfl (.tmp 50) (.tmp 59) 33 rfl _ _ _ rfl rfl R9.out ?_)
          | fail)
        all_goals go_wp2_with fail
        all_goals
          go_roundg g
          case rel => exact ⟨k + 1, A9, cap9, by omega, by go_num, by first | rfl | go_num, rfl, B9, O9⟩
          case measure => omega
end
end Go.Proofs.YtgnkkcnmepafpaaGreatDoor
