/-
  Layer 9, the document's journal behind a pointer, over its own disk: First, All, Sync.
-/
import Derived.Test.YtgeahpfdaehjaaaGreatDoorQRefRecords
import Derived.Test.YtgeahpfdaehjaaaGreatDoorQDiskRef4
import Derived.Test.YtgeahpfdaehjaaaGreatDoorGrpD
import Derived.Test.YtgeahpfdaehjaaaGreatDoorQRefFix
import Derived.Deep.RegionHeld3
namespace Go.Proofs.YtgeahpfdaehjaaaGreatDoor
open Go.ChangeShapes Go.WideShapes Go.ChangeAt Go.RowKit
set_option linter.unusedVariables false

def rjObj (m : Nat) (many : Int) : Obj := .cells #[.pointer (some ⟨m, 0, none⟩), .int .i64 many] 49 (0, 0)
/-- The document's journal in block mj, over its disk in block m. -/
structure Rjn (w : World) (H : Nat → Prop) (mj m rm : Nat) (dn : Bool) (many : Int) (L : List Pt) : Prop where
  jb : w.heap[mj]? = some (rjObj m many)
  rf : Rfd w H m rm dn L
section
variable {w w' : World} {H H' : Nat → Prop} {mj m rm : Nat} {dn dn' : Bool} {many : Int} {L L' : List Pt}
theorem Rjn.c0 (h : Rjn w H mj m rm dn many L) : w.cell? ⟨mj, 0, none⟩ = some (.pointer (some ⟨m, 0, none⟩)) := cell_of_block h.jb
theorem Rjn.c1 (h : Rjn w H mj m rm dn many L) : w.cell? ⟨mj, 1, none⟩ = some (.int .i64 many) := cell_of_block h.jb
theorem Rjn.lt (h : Rjn w H mj m rm dn many L) : mj < w.heap.size := lt_of_block h.jb
theorem Rfd.kind (h : Rfd w H m rm dn L) {g : Nat} (hg : H g) : ∃ c f t, w.heap[g]? = some (.cells c t f) ∧ (t = 47 ∨ t = 132) := by
  obtain ⟨A, cap, hb, hG⟩ := h
  rcases (hG g).1 hg with rfl | ⟨ad, ha, e⟩
  · exact ⟨_, _, _, hb.blk, .inl rfl⟩
  · have ho := hb.own
    unfold OwnP at ho
    rcases ho.2 with ⟨e1, _⟩ | ⟨g', c', cur, e1, _, hc, _⟩
    · subst ha; cases e1
    · subst ha
      cases e1
      subst e
      exact ⟨_, _, _, hc, .inr rfl⟩
theorem Rjn.notH (h : Rjn w H mj m rm dn many L) : ¬ H mj := fun hg => by
  obtain ⟨c, f, t, h1, h2⟩ := h.rf.kind hg
  have := h.jb
  unfold rjObj at this
  rw [h1] at this
  cases this
  rcases h2 with e | e <;> exact absurd e (by decide)
theorem Rjn.below (h : Rjn w H mj m rm dn many L) (k : Below w.heap.size w w') : Rjn w' H mj m rm dn many L := ⟨by rw [k.block _ h.lt]; exact h.jb, h.rf.below k⟩
theorem Rjn.keeps {F : Nat → Prop} (h : Rjn w H mj m rm dn many L) (k : Keeps F w w') (h1 : ¬ F mj) (h2 : ∀ g, H g → ¬ F g) : Rjn w' H mj m rm dn many L := ⟨keeps_out k h.jb h1, h.rf.keeps k h2⟩
theorem Rjn.step (h : Rjn w H mj m rm dn many L) (hd : Rfd w' H' m rm dn' L') (hm : Mv8 w H w' H') : Rjn w' H' mj m rm dn' many L' := ⟨keeps_out hm.keeps h.jb h.notH, hd⟩
theorem Rjn.ref (h : Rjn w H mj m rm dn many L) : ∃ A cap, RfB w m rm dn A cap L ∧ ∀ g, H g ↔ footR m A g := h.rf
def RjOps (w : World) (H : Nat → Prop) (mj m rm : Nat) (dn : Bool) (many : Int) (r : Nat × List Pt) (e : Ending) (w' : World) : Prop :=
  e = .returned (.int .i64 (r.1 : Nat)) ∧ ∃ H', Rjn w' H' mj m rm dn many r.2 ∧ Mv8 w H w' H'
theorem ref_jfirst (h : Rjn w H mj m rm dn many L) :
    Calls Tryz.prog 44 #[.pointer (some ⟨mj, 0, none⟩)] w fun e w' => e = .returned (.int .i64 (jFirst (L.map (·.n)))) ∧ w' = w := by
  have c0 := h.c0
  obtain ⟨A, cap, hb, _⟩ := h.ref
  have c1 := hb.c1
  cases L with
  | nil =>
    clear h hb
    go_enter Tryz.func44, Tryz.ntmps44
    go_wp2
    go_ret
    exact ⟨rfl, rfl⟩
  | cons p L =>
    obtain ⟨g, rfl, d0, _⟩ := hb.at (x := [])
    simp only [List.length_nil, Nat.zero_mul] at d0
    have h0 : 0 < (p :: L).length := by simp
    have hj : jFirst ((p :: L).map (·.n)) = p.n := rfl
    rw [hj]
    clear h hb hj
    generalize (p :: L).length = N at c1 h0
    have hb : ((N : Int) == 0) = false := beq_eq_false_iff_ne.2 (by omega)
    have hb' : ¬ N = 0 := by omega
    go_enter Tryz.func44, Tryz.ntmps44
    go_wp2
    go_ret
    exact ⟨rfl, rfl⟩
theorem recs_next {G : List Sg} {k : Nat} {g : Sg} (h : G[k]? = some g) : recs (G.take (k + 1)) = recs (G.take k) ++ g.rs := by
  rw [List.take_add_one, h, Option.toList_some, recs_app, recs_cons, recs_nil, List.append_nil]
set_option maxHeartbeats 2000000 in
set_option maxRecDepth 100000 in
theorem ref_jall {G : List Sg} (h : Rjn w H mj m rm dn many (G.map Sg.pt)) (hg : ∀ g ∈ G, g.Good) (hl : G.length ≤ 1000) (hu : used (G.map Sg.pt) ≤ 65536) (hr : (recs G).length ≤ 100000) :
    Calls Tryz.prog 45 #[.pointer (some ⟨mj, 0, none⟩)] w fun e w' => ∃ A cap, e = .returned (.slice A (recs G).length cap) ∧ OS w' w.heap.size (.slice A (recs G).length cap) (recs G) ∧ Below w.heap.size w w' := by
  have HJ := Lib.hid h
  have HG := Lib.hid hg
  have HU := Lib.hid hu
  have HR := Lib.hid hr
  clear h hg hu hr
  go_enter Tryz.func45, Tryz.ntmps45
  go_wp2_with fail
  go_loopg [3, 4] (G.length) (fun g s3 s4 wx => ∃ (k : Nat) (B : Option Addr) (cb : Nat), k + g = G.length ∧ s4 = .int .i64 (k : Nat) ∧ s3 = .slice B (recs (G.take k)).length cb ∧ Hid (OS wx w.heap.size s3 (recs (G.take k))) ∧ Hid (Below w.heap.size w wx))
  case atStart => exact ⟨0, none, 0, by omega, rfl, rfl, Lib.hid (World.ownsRow_nil _ _ _ _), Lib.hid (Below.refl _ _)⟩
  case round =>
    obtain ⟨k, B, cb, hk, rfl, rfl, HO, HB⟩ := hrel
    have J1 := HJ.out.below HB.out
    have c0 := J1.c0
    obtain ⟨A, cap, hb, _⟩ := J1.ref
    have c1 := hb.c1
    rw [List.length_map] at c1
    rcases Nat.eq_zero_or_pos gk with rfl | hpos
    · have x1 : decide ((k : Int) < (G.length : Int)) = false := decide_eq_false (by omega)
      have hkG : k = G.length := by omega
      have FIN : Hid (OS wr w.heap.size (.slice B (recs G).length cb) (recs G)) := Lib.hid (by
        have := HO.out
        rw [hkG, List.take_length] at this
        exact this)
      rw [hkG, List.take_length]
      clear J1 hb HO HJ
      subst hkG
      go_wp2_with fail
      go_ret
      exact ⟨B, cb, rfl, FIN.out, HB.out⟩
    · obtain ⟨g, rfl⟩ : ∃ g, gk = g + 1 := ⟨gk - 1, by omega⟩
      have hkl : k < G.length := by omega
      have x1 : decide ((k : Int) < (G.length : Int)) = true := decide_eq_true (by omega)
      obtain ⟨q, hq⟩ : ∃ q, G[k]? = some q := ⟨G[k], List.getElem?_eq_getElem hkl⟩
      obtain ⟨ga, rfl, _, d1, _, _⟩ := hb.idx (k := k) (p := q.pt) (by rw [List.getElem?_map, hq]; rfl)
      have hqm := List.mem_of_getElem? hq
      have hgd := HG.out q hqm
      have hqu := used_mem (p := q.pt) (l := G.map Sg.pt) (List.mem_map.2 ⟨q, hqm, rfl⟩)
      have hql : (flat q.rs ++ q.t).length ≤ 65536 := by
        have := HU.out
        have e : q.pt.b = flat q.rs ++ q.t := rfl
        rw [e] at hqu
        omega
      have hpb : q.pt.b = flat q.rs ++ q.t := rfl
      rw [hpb] at d1
      have CR := Lib.hid (fun wx => ref_records wx q.rs q.t hgd.good hgd.torn hql)
      have HN := Lib.hid (recs_next hq)
      have hrl : (recs (G.take k)).length + q.rs.length ≤ 100000 := by
        have h1 := HR.out
        have h2 := recs_app (G.take (k + 1)) (G.drop (k + 1))
        rw [List.take_append_drop, HN.out] at h2
        rw [h2, List.length_append, List.length_append] at h1
        omega
      have LT := HB.out.size
      clear J1 hb hq hqm hgd hqu hql hpb HJ HG HU HR hpos hkl
      unfold RecsP at CR
      obtain ⟨M, hM⟩ : ∃ M, (recs (G.take k)).length = M := ⟨_, rfl⟩
      obtain ⟨K, hK⟩ : ∃ K, q.rs.length = K := ⟨_, rfl⟩
      rw [hM] at HO ⊢
      have CR2 : Hid (∀ wx, Below wr.heap.size wr wx → Calls Tryz.prog 72 #[.string ⟨(flat q.rs ++ q.t).toArray⟩] wx fun e w' => ∃ A2 cap2, e = .returned (.tuple #[.slice A2 K cap2, .int .i64 ((flat q.rs).length : Nat)]) ∧ ∃ A4 cap4 w4, (Builtin.append_ #[107, 107] 107 #[.slice B M cb, .slice A2 K cap2]).run Tryz.prog w' = .ok (.slice A4 (M + K) cap4) w4 ∧ OS w4 w.heap.size (.slice A4 (M + K) cap4) (recs (G.take k) ++ q.rs) ∧ Below w.heap.size w w4) := Lib.hid (fun wx hx => (CR.out wx).mono (by
        rintro e w2 ⟨A2, cap2, rfl, o2, b2⟩
        have hb2 : Below wr.heap.size wr w2 := hx.trans (b2.mono hx.size)
        have h1 : OS w2 w.heap.size (.slice B M cb) (recs (G.take k)) := owns_keeps HO.out (Keeps.of_below hb2 (Nat.le_refl _) (fun _ => False)) (fun _ _ e => e)
        obtain ⟨v4, w4, h4, h5, h6⟩ := add_strs h1 o2 (by omega) (Nat.le_trans LT hb2.size)
        obtain ⟨A4, cap4, e4, _⟩ := os_shape h5
        rw [List.length_append, hM, hK] at e4
        subst e4
        have hb4 : Below w.heap.size w w4 := HB.out.trans ((hb2.mono LT).trans (below_grR (Nat.le_trans LT hb2.size) h6 (fun q hq => (owns_block h1 hq).1)))
        rw [hK] at h4 ⊢
        exact ⟨A2, cap2, rfl, A4, cap4, w4, h4, h5, hb4⟩))
      have HMK : Hid ((recs (G.take (k + 1))).length = M + K) := Lib.hid (by rw [HN.out, List.length_append, hM, hK])
      clear CR HO hM hK hrl
      go_wp2_with (first
        | (go_at_call 72; refine (CR2.out _ (by first | exact Below.refl _ _ | exact below_drewN _ _ | exact Below.alloc (Below.refl _ _) (Nat.le_refl _) _)).mono ?_; rintro e w2 ⟨A2, cap2, rfl, A4, cap4, w4, h4, h5, b4⟩; have R4 := Lib.hid h4; have H5 := Lib.hid h5; have B4 := Lib.hid b4; clear h4 h5 b4 CR2)
        | (at_builtin; refine wpList_append_two rfl (.tmp 34) (.tmp 35) 107 107 rfl _ _ _ rfl rfl R4.out ?_)
        | fail)
      go_roundg g
      case rel => exact ⟨k + 1, A4, cap4, by omega, by go_num, by rw [HMK.out], by rw [HN.out]; exact H5, B4⟩
      case measure => omega
/-- What the document's journal's last part is, while its row stays where it is. -/
def LastAt (w : World) (mj m : Nat) (ga N cap o : Nat) (x : Int) : Prop :=
  w.cell? ⟨mj, 0, none⟩ = some (.pointer (some ⟨m, 0, none⟩)) ∧ w.cell? ⟨m, 1, none⟩ = some (.slice (some ⟨ga, 0, none⟩) N cap) ∧ w.cell? ⟨ga, o, none⟩ = some (.int .i64 x)
theorem Rjn.held {w w' : World} {H : Nat → Prop} {mj m rm : Nat} {many : Int} {A : Option Addr} {cap : Nat} {L L' : List Pt} (h : Rjn w H mj m rm false many L) (hG : ∀ g, H g ↔ footR m A g) (hb : RfB w' m rm false A cap L') (k : Keeps (footR m A) w w') : Rjn w' H mj m rm false many L' ∧ Mv8 w H w' H :=
  ⟨⟨keeps_out k h.jb (fun e => h.notH ((hG mj).2 e)), A, cap, hb, hG⟩, k.wide (fun g hg _ => (hG g).2 hg), fun g hg => .inl hg⟩
theorem snoc_last {L : List Pt} (hL : L ≠ []) : ∃ x q, L = x ++ [q] := by
  rcases List.eq_nil_or_concat L with e | ⟨x, q, e⟩
  · exact absurd e hL
  · exact ⟨x, q, by rw [e, List.concat_eq_append]⟩
theorem jLast_pt (x : List Pt) (q : Pt) : jLast ((x ++ [q]).map (·.n)) = q.n := by unfold jLast; rw [List.map_append]; simp
set_option maxHeartbeats 2000000 in
set_option maxRecDepth 100000 in
theorem ref_jsync (h : Rjn w H mj m rm false many L) (hi : Inv rm L) (hl : L.length ≤ 1000) :
    Calls Tryz.prog 32 #[.pointer (some ⟨mj, 0, none⟩)] w (RjOps w H mj m rm false many (jSync false L (L.map (·.n)))) := by
  have c0 := h.c0
  obtain ⟨A, cap, hb, hG⟩ := h.ref
  have c1 := hb.c1
  by_cases hL : L = []
  · subst hL
    have HJ := Lib.hid h
    clear h hb hG
    go_enter Tryz.func32, Tryz.ntmps32
    go_wp2
    go_ret
    exact ⟨rfl, H, HJ.out, Mv8.still (Below.refl _ _)⟩
  · obtain ⟨x, q, rfl⟩ := snoc_last hL
    have hx : ∀ p ∈ x, p.n < q.n := hi.rise.mid.1
    have hj : jSync false (x ++ [q]) ((x ++ [q]).map (·.n)) = (0, x ++ [syncP q.n (some q)]) := by
      unfold jSync
      rw [if_neg (by simp), jLast_pt]
      unfold opSync
      rw [if_pos (miss_some (find_has (n := q.n) (q := q) (y := []) rfl hx)), upd_has (n := q.n) (q := q) (y := []) rfl hx]
    rw [hj]
    obtain ⟨ga, rfl, d0, _⟩ := hb.at (y := [])
    have hlen : (x ++ [q]).length = x.length + 1 := by simp
    have hq : (syncP q.n (some q)).n = q.n := rfl
    have CS : Hid (∀ k : Nat, Calls Tryz.prog 64 #[.pointer (some ⟨m, 0, none⟩), .int .i64 q.n] (w.drewN k) fun e w' => e = .returned (.int .i64 0) ∧ LastAt w' mj m ga (x.length + 1) cap (x.length * 3) q.n ∧ RjOps w H mj m rm false many (0, x ++ [syncP q.n (some q)]) (.returned (.int .i64 0)) w') := Lib.hid (fun k => by
      refine (refSyncA (w.drewN k) m rm (some ⟨ga, 0, none⟩) cap x [] q q.n (hb.drewN k) hi hl rfl).mono ?_
      rintro e w' ⟨rfl, hb', hk⟩
      obtain ⟨j1, j2⟩ := (h.below (below_drewN w k)).held hG hb' hk
      have e1 := hb'.c1
      rw [show (x ++ [syncP q.n (some q)]).length = x.length + 1 by simp] at e1
      obtain ⟨g2, e2, e3, _⟩ := hb'.at (y := [])
      cases e2
      exact ⟨rfl, ⟨j1.c0, e1, by rw [← hq]; exact e3⟩, rfl, H, j1, (Mv8.still (below_drewN w k)).trans j2⟩)
    rw [hlen] at c1
    have hw : IntKind.i64.wrap (((x.length + 1 : Nat) : Int) - 1) = (x.length : Int) := by rw [IntKind.wrap_i64]; omega
    have hb1 : (((x.length + 1 : Nat) : Int) == 0) = false := beq_eq_false_iff_ne.2 (by omega)
    have hlt : (x.length : Int) < ((x.length + 1 : Nat) : Int) := by omega
    have hlt2 : x.length < x.length + 1 := by omega
    have hne : ¬ x.length + 1 = 0 := by omega
    clear h hb hG hx hj hL hi hl hlen hq
    unfold LastAt at CS
    generalize q.n = z at *
    generalize x.length = M at *
    generalize hN : M + 1 = N at *
    clear hN
    have HS := Lib.hid (And.intro c0 (And.intro c1 d0))
    go_enter Tryz.func32, Tryz.ntmps32
    go_wp2_with fail
    go_region_held3 (fun w' => w'.cell? ⟨mj, 0, none⟩ = some (.pointer (some ⟨m, 0, none⟩)) ∧ w'.cell? ⟨m, 1, none⟩ = some (.slice (some ⟨ga, 0, none⟩) N cap) ∧ w'.cell? ⟨ga, M * 3, none⟩ = some (.int .i64 z))
      (first | exact HS.out | assumption)
      (first
        | (go_at_call 64; refine (CS.out _).mono ?_; rintro e w1 ⟨rfl, hS, hF⟩))
    all_goals
      have D1 := Lib.hid hF
      clear hF
      go_wp2
      go_ret
      exact D1.out
end
end Go.Proofs.YtgeahpfdaehjaaaGreatDoor
