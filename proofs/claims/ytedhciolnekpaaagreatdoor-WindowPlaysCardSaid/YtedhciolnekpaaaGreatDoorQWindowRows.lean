/-
  Layer 20 (window): the document's rows of a window.
-/
import Derived.Test.YtedhciolnekpaaaGreatDoorQWindowRow
import Derived.Test.YtedhciolnekpaaaGreatDoorQTallyRef
import Derived.BigQuiet
import Derived.Sort.Walk0
import Derived.Lib.Bytealg
import Derived.Deep.LoopGhost
import Derived.Deep.Cut
import Derived.Deep.CutRange
import Derived.RegionTactic
import Derived.Deep.RegionLaw
namespace Go.Proofs.YtedhciolnekpaaaGreatDoor
open Go.ChangeShapes Go.WideShapes Go.ChangeAt Go.RowKit
set_option linter.unusedVariables false

theorem lssW (a b : ByteArray) : Op.bytesLess a.toList b.toList = decide (a.data.toList < b.data.toList) := by
  rw [bytesLess_eq, Lib.toList_data, Lib.toList_data]
theorem eqW (a b : ByteArray) : (a.toList == b.toList) = decide (a = b) := by
  rw [Lib.toList_data, Lib.toList_data]
  by_cases h : a = b
  · rw [decide_eq_true h, h]; simp
  · rw [decide_eq_false h]
    exact beq_eq_false_iff_ne.2 (fun e => h (key_eq e))
theorem come_mid {r : Rw} (h : 1 ≤ r.many) {v : Int} : fillR (midR r v) v = comeR r v := by
  unfold midR
  rw [if_pos (by omega)]
  rfl
theorem zeroIn : In64 0 := ⟨by decide, by decide⟩
def RowsTold (w : World) (s : Int) (l : List PtW) (e : Ending) (w' : World) : Prop :=
  ∃ x D d, e = .returned (.slice D x.length d) ∧ x.map (·.1) = rowsW s l ∧ OwnL w' w.heap.size D d x ∧ Below w.heap.size w w'
/-- Where it stands. -/
structure Sr (w : World) (s : Int) (l : List PtW) (i : Nat) (x : List RbW) (D : Option Addr) (d : Nat) (wx : World) : Prop where
  own : OwnL wx w.heap.size D d x
  eq : x.map (·.1) = rowsW s (l.take i)
  bel : Below w.heap.size w wx
section
variable {w : World} {s : Int} {l : List PtW} {i : Nat} {x : List RbW} {D : Option Addr} {d : Nat} {wx wy : World}
theorem Sr.on (h : Sr w s l i x D d wx) (hb : Below wx.heap.size wx wy) : Sr w s l i x D d wy :=
  ⟨⟨owns_below h.own.own hb, fun y hy => owns_below (h.own.bks y hy) hb⟩, h.eq, h.bel.trans (hb.mono h.bel.size)⟩
theorem Sr.drewN (h : Sr w s l i x D d wx) (n : Nat) : Sr w s l i x D d (wx.drewN n) := h.on (below_drewN wx n)
theorem take_nextR {p : PtW} (h : l[i]? = some p) : l.take (i + 1) = l.take i ++ [p] := by rw [List.take_add_one, h]; rfl
/-- A row among them. -/
theorem Sr.at (h : Sr w s l i x D d wx) {a : Nat} {y : RbW} (hy : x[a]? = some y) : ∃ g, D = some ⟨g, 0, none⟩ ∧ w.heap.size ≤ g ∧ RowAt wx g (a * 8) y.1 y.2.1 y.2.2 := by
  have hlt := (List.getElem?_eq_some_iff.1 hy).1
  have o : OwK wx w.heap.size 55 8 D d x.length (rowCells x) := h.own.own
  obtain ⟨g, e, hg, hc⟩ := o.at (by omega)
  have k := rowCells_at x a y hy
  exact ⟨g, e, hg, hc _ _ (k 0 (by omega)), hc _ _ (k 1 (by omega)), hc _ _ (k 2 (by omega)), hc _ _ (k 3 (by omega)), hc _ _ (k 4 (by omega)), hc _ _ (k 5 (by omega)), hc _ _ (k 6 (by omega)), hc _ _ (k 7 (by omega)), (h.own.bks y (List.mem_of_getElem? hy)).rd⟩
theorem Sr.fr (h : Sr w s l i x D d wx) {g : Nat} (hD : D = some ⟨g, 0, none⟩) (o : Nat) : wx.frozen? ⟨g, o, none⟩ = false := by
  subst hD
  obtain ⟨_, h2 | ⟨g', cap, cur, hv, _, hg, _⟩⟩ := h.own.own
  · cases h2.1
  · cases hv
    exact frozen_of_block hg
end
set_option maxHeartbeats 8000000 in
set_option maxRecDepth 100000 in
theorem ref_rows (base : Nat) (w : World) (b : Nat) (t : Tb) (A : Option Addr) (c : Nat) (l : List PtW) (h : Tr base w b t A c l) (hl : l.length ≤ 100) (hp : ∀ p ∈ l, PtOk p) (s : Int) :
    Calls Tryz.prog 26 #[.pointer (some ⟨b, 0, none⟩), .int .i64 s] w (RowsTold w s l) := by
  have H0 := Lib.hid h
  have HL := Lib.hid hl
  have HP := Lib.hid hp
  clear h hl hp
  go_enter Tryz.func26, Tryz.ntmps26
  go_wp2_with fail
  go_loopg [5, 6] (l.length) (fun g s5 s6 wx => ∃ (i : Nat) (x : List RbW) (D : Option Addr) (d : Nat), i + g = l.length ∧ x.length ≤ i ∧ s5 = .slice D x.length d ∧ s6 = .int .i64 i ∧ Hid (Sr w s l i x D d wx))
  case atStart => exact ⟨0, [], none, 0, by omega, by simp, rfl, rfl, Lib.hid ⟨⟨World.ownsRow_nil w _ _ 8, fun y hy => by simp at hy⟩, rfl, Below.refl _ _⟩⟩
  case round =>
    obtain ⟨i, x, D, d, hig, hac, rfl, rfl, HG⟩ := hrel
    have TR := H0.out
    have c4 := (TR.still HG.out.bel).c4
    cases gk with
    | zero =>
      have x1 : ¬ i < l.length := by omega
      have HE : Hid (x.map (·.1) = rowsW s l) := Lib.hid (by rw [HG.out.eq, List.take_of_length_le (by omega)])
      clear TR
      go_wp2_with fail
      go_ret
      exact ⟨x, D, d, rfl, HE.out, HG.out.own, HG.out.bel⟩
    | succ g =>
      have hlt : i < l.length := by omega
      obtain ⟨p, hpi⟩ : ∃ p, l[i]? = some p := ⟨_, List.getElem?_eq_getElem hlt⟩
      have HPK := Lib.hid (HP.out p (List.mem_of_getElem? hpi))
      obtain ⟨ga, rfl, hga, p0, p1, p2, p3⟩ := (TR.still HG.out.bel).at hpi
      have HT := Lib.hid (take_nextR hpi)
      obtain ⟨s0, ⟨k, kd⟩, v⟩ := p
      dsimp only at p0 p1 p2 p3
      obtain ⟨ob, hob⟩ : ∃ ob, (Obj.cells #[.int .i64 s0, .string k, .int .i64 kd, .int .i64 v] 67) = ob := ⟨_, rfl⟩
      obtain ⟨xb, hxb⟩ : ∃ xb, wr.heap.size = xb := ⟨_, rfl⟩
      have hnew := heap_alloc_new wr (Obj.cells #[.int .i64 s0, .string k, .int .i64 kd, .int .i64 v] 67)
      rw [hxb] at hnew
      have q0 : (wr.alloc (Obj.cells #[.int .i64 s0, .string k, .int .i64 kd, .int .i64 v] 67)).cell? ⟨xb, 0, none⟩ = some (.int .i64 s0) := cell_of_block hnew
      have q1 : (wr.alloc (Obj.cells #[.int .i64 s0, .string k, .int .i64 kd, .int .i64 v] 67)).cell? ⟨xb, 1, none⟩ = some (.string k) := cell_of_block hnew
      have q2 : (wr.alloc (Obj.cells #[.int .i64 s0, .string k, .int .i64 kd, .int .i64 v] 67)).cell? ⟨xb, 2, none⟩ = some (.int .i64 kd) := cell_of_block hnew
      have q3 : (wr.alloc (Obj.cells #[.int .i64 s0, .string k, .int .i64 kd, .int .i64 v] 67)).cell? ⟨xb, 3, none⟩ = some (.int .i64 v) := cell_of_block hnew
      have G1 := Lib.hid (HG.out.on ((Below.refl _ wr).alloc (Nat.le_refl _) (Obj.cells #[.int .i64 s0, .string k, .int .i64 kd, .int .i64 v] 67)))
      have hll := HL.out
      clear hga hpi hnew TR hob ob
      by_cases hs : s0 = s
      · have HN : Hid (rowsW s (l.take (i + 1)) = putW (k, kd) v (x.map (·.1))) := Lib.hid (by rw [HT.out, rows_same (by exact hs), ← HG.out.eq])
        subst hs
        clear HG HT
        have hin := atR_le (k, kd) (x.map (·.1))
        rw [List.length_map] at hin
        obtain ⟨m, hm⟩ : ∃ m, m = atR (k, kd) (x.map (·.1)) := ⟨_, rfl⟩
        have HM := Lib.hid hm
        rw [← hm] at hin
        clear hm
        go_wp2_with fail
        clear p0 p1 p2 p3 c4 hxb
        generalize wr.alloc (Obj.cells #[.int .i64 s0, .string k, .int .i64 kd, .int .i64 v] 67) = u1 at q0 q1 q2 q3 G1 ⊢
        go_loopg [8] m (fun g2 s8 wx => ∃ (a q : Nat), a + g2 = m ∧ s8 = .int .i64 a ∧ Hid (wx = u1.drewN q))
        case atStart => exact ⟨0, 0, by omega, rfl, Lib.hid rfl⟩
        case round =>
          obtain ⟨a, q, hag, rfl, HW⟩ := hrel
          have hw := HW.out
          subst hw
          clear HW
          cases gk with
          | zero =>
            obtain rfl : a = m := by omega
            rcases Nat.lt_or_ge a x.length with hzl | hge
            · have x2 : decide (a < x.length) = true := decide_eq_true hzl
              obtain ⟨z, hz⟩ : ∃ z, x[a]? = some z := ⟨_, List.getElem?_eq_getElem hzl⟩
              have hzm : (x.map (·.1))[a]? = some z.1 := by rw [List.getElem?_map, hz]; rfl
              have hnl : ltW (nmR z.1) (k, kd) = false := atR_at (l := x.map (·.1)) (by rw [← HM.out]; exact hzm)
              have hnk : ¬ z.1.key.data.toList < k.data.toList := fun e => by rw [ltW_iff.2 (.inl e)] at hnl; cases hnl
              have y1 := Lib.hid ((lssW z.1.key k).trans (decide_eq_false hnk))
              by_cases hk : z.1.key = k
              · have hnq : ¬ z.1.kind < kd := fun e => by rw [ltW_iff.2 (.inr ⟨hk, e⟩)] at hnl; cases hnl
                have y2 := Lib.hid ((eqW z.1.key k).trans (decide_eq_true hk))
                have y3 := Lib.hid (decide_eq_false hnq)
                by_cases hq : z.1.kind = kd
                · have HNM : Hid (nmR z.1 = (k, kd)) := Lib.hid (Prod.ext hk hq)
                  have y4 := Lib.hid (beq_iff_eq.2 hq)
                  have HGD : Hid (GoodW z.1) := Lib.hid (rows_good s0 (l := l.take i) (fun p hp' => HP.out p (List.mem_of_mem_take hp')) z.1 (by rw [← G1.out.eq]; exact List.mem_of_getElem? hzm))
                  have HGE : Hid (∀ gd, D = some ⟨gd, 0, none⟩ → w.heap.size ≤ gd) := Lib.hid (fun gd e => by obtain ⟨g', e', h', _⟩ := G1.out.at hz; rw [e] at e'; cases e'; exact h')
                  clear hk hq hnl hnk hnq hzm hzl
                  have hzl : a < x.length := (List.getElem?_eq_some_iff.1 hz).1
                  have GU := Lib.hid (G1.out.drewN q)
                  have q0U : (u1.drewN q).cell? ⟨xb, 0, none⟩ = some (.int .i64 s0) := q0
                  have q1U : (u1.drewN q).cell? ⟨xb, 1, none⟩ = some (.string k) := q1
                  have q2U : (u1.drewN q).cell? ⟨xb, 2, none⟩ = some (.int .i64 kd) := q2
                  have q3U : (u1.drewN q).cell? ⟨xb, 3, none⟩ = some (.int .i64 v) := q3
                  obtain ⟨gd, rfl, hgd, RA⟩ := GU.out.at hz
                  have z0U := RA.p0
                  have z1U := RA.p1
                  have z2U := RA.p2
                  have z3U := RA.p3
                  have z4U := RA.p4
                  have z5U := RA.p5
                  have z6U := RA.p6
                  have z7U := RA.p7
                  have HBK := Lib.hid RA.bk
                  clear RA
                  clear q0 q1 q2 q3 G1
                  generalize hU : u1.drewN q = U at GU q0U q1U q2U q3U z0U z1U z2U z3U z4U z5U z6U z7U HBK ⊢
                  clear hU
                  go_wp2_with fail
                  have y1' := y1.out
                  have y2' := y2.out
                  have y3' := y3.out
                  go_quiet (fail)
                  all_goals go_wp2_with fail
                  have GV := Lib.hid (GU.out.drewN nq)
                  have q0V : (U.drewN nq).cell? ⟨xb, 0, none⟩ = some (.int .i64 s0) := q0U
                  have q1V : (U.drewN nq).cell? ⟨xb, 1, none⟩ = some (.string k) := q1U
                  have q2V : (U.drewN nq).cell? ⟨xb, 2, none⟩ = some (.int .i64 kd) := q2U
                  have q3V : (U.drewN nq).cell? ⟨xb, 3, none⟩ = some (.int .i64 v) := q3U
                  have z0V : (U.drewN nq).cell? ⟨gd, a * 8, none⟩ = some (.string z.1.key) := z0U
                  have z1V : (U.drewN nq).cell? ⟨gd, a * 8 + 1, none⟩ = some (.int .i64 z.1.kind) := z1U
                  have z2V : (U.drewN nq).cell? ⟨gd, a * 8 + 2, none⟩ = some (.int .u64 (z.1.many : Nat)) := z2U
                  have z3V : (U.drewN nq).cell? ⟨gd, a * 8 + 3, none⟩ = some (.int .i64 z.1.sum) := z3U
                  have z4V : (U.drewN nq).cell? ⟨gd, a * 8 + 4, none⟩ = some (.int .i64 z.1.least) := z4U
                  have z5V : (U.drewN nq).cell? ⟨gd, a * 8 + 5, none⟩ = some (.int .i64 z.1.most) := z5U
                  have z6V : (U.drewN nq).cell? ⟨gd, a * 8 + 6, none⟩ = some (.bool z.1.over) := z6U
                  have z7V : (U.drewN nq).cell? ⟨gd, a * 8 + 7, none⟩ = some (.slice z.2.1 z.1.bks.length z.2.2) := z7U
                  have HBK := Lib.hid (show RdN (U.drewN nq) z.2.1 z.2.2 z.1.bks from RdN.drew HBK.out nq)
                  clear q0U q1U q2U q3U z0U z1U z2U z3U z4U z5U z6U z7U GU
                  generalize hX : U.drewN nq = V at GV q0V q1V q2V q3V z0V z1V z2V z3V z4V z5V z6V z7V HBK ⊢
                  clear hX
                  have y2'' := y2.out
                  have y4'' := y4.out
                  go_quiet (fail)
                  all_goals go_wp2_with fail
                  have GX := Lib.hid (GV.out.drewN nq)
                  have q0X : (V.drewN nq).cell? ⟨xb, 0, none⟩ = some (.int .i64 s0) := q0V
                  have q1X : (V.drewN nq).cell? ⟨xb, 1, none⟩ = some (.string k) := q1V
                  have q2X : (V.drewN nq).cell? ⟨xb, 2, none⟩ = some (.int .i64 kd) := q2V
                  have q3X : (V.drewN nq).cell? ⟨xb, 3, none⟩ = some (.int .i64 v) := q3V
                  have z0X : (V.drewN nq).cell? ⟨gd, a * 8, none⟩ = some (.string z.1.key) := z0V
                  have z1X : (V.drewN nq).cell? ⟨gd, a * 8 + 1, none⟩ = some (.int .i64 z.1.kind) := z1V
                  have z2X : (V.drewN nq).cell? ⟨gd, a * 8 + 2, none⟩ = some (.int .u64 (z.1.many : Nat)) := z2V
                  have z3X : (V.drewN nq).cell? ⟨gd, a * 8 + 3, none⟩ = some (.int .i64 z.1.sum) := z3V
                  have z4X : (V.drewN nq).cell? ⟨gd, a * 8 + 4, none⟩ = some (.int .i64 z.1.least) := z4V
                  have z5X : (V.drewN nq).cell? ⟨gd, a * 8 + 5, none⟩ = some (.int .i64 z.1.most) := z5V
                  have z6X : (V.drewN nq).cell? ⟨gd, a * 8 + 6, none⟩ = some (.bool z.1.over) := z6V
                  have z7X : (V.drewN nq).cell? ⟨gd, a * 8 + 7, none⟩ = some (.slice z.2.1 z.1.bks.length z.2.2) := z7V
                  have HBK := Lib.hid (show RdN (V.drewN nq) z.2.1 z.2.2 z.1.bks from RdN.drew HBK.out nq)
                  clear q0V q1V q2V q3V z0V z1V z2V z3V z4V z5V z6V z7V GV
                  generalize hX : V.drewN nq = X at GX q0X q1X q2X q3X z0X z1X z2X z3X z4X z5X z6X z7X HBK ⊢
                  clear hX
                  have HFR := Lib.hid (fun o => GX.out.fr rfl o)
                  have CO : Hid (∀ wx, Below X.heap.size X wx → Calls Tryz.prog 38 #[.agg #[.string z.1.key, .int .i64 z.1.kind, .int .u64 (z.1.many : Nat), .int .i64 z.1.sum, .int .i64 z.1.least, .int .i64 z.1.most, .bool z.1.over, .slice z.2.1 z.1.bks.length z.2.2], .int .i64 v] wx (Tells18 wx (comeR z.1 v))) := Lib.hid (fun wx hb => by
                    have := ref_come wx z.1 z.2.1 z.2.2 (HBK.out.below hb (Nat.le_refl _)) HGD.out.ok HPK.out.v
                    rw [come_mid HGD.out.m1] at this
                    exact this)
                  obtain ⟨r', hr'⟩ : ∃ r', comeR z.1 v = r' := ⟨_, rfl⟩
                  have HE : Hid (rowsW s0 (l.take (i + 1)) = (x.map (·.1)).set a r') := Lib.hid (by rw [HN.out, putW_old (r := z.1) (by rw [← HM.out, List.getElem?_map, hz]; rfl) HNM.out, ← HM.out, hr'])
                  rw [hr'] at CO
                  unfold Tells18 rowVal at CO
                  have HF : Hid (∀ wx, Below X.heap.size X wx → (wx.cell? ⟨gd, a * 8, none⟩ = some (.string z.1.key) ∧ wx.cell? ⟨gd, a * 8 + 1, none⟩ = some (.int .i64 z.1.kind) ∧ wx.cell? ⟨gd, a * 8 + 2, none⟩ = some (.int .u64 (z.1.many : Nat)) ∧ wx.cell? ⟨gd, a * 8 + 3, none⟩ = some (.int .i64 z.1.sum) ∧ wx.cell? ⟨gd, a * 8 + 4, none⟩ = some (.int .i64 z.1.least) ∧ wx.cell? ⟨gd, a * 8 + 5, none⟩ = some (.int .i64 z.1.most) ∧ wx.cell? ⟨gd, a * 8 + 6, none⟩ = some (.bool z.1.over) ∧ wx.cell? ⟨gd, a * 8 + 7, none⟩ = some (.slice z.2.1 z.1.bks.length z.2.2)) ∧ Sr w s0 l i x (some ⟨gd, 0, none⟩) d wx) := Lib.hid (fun wx hb => by
                    have hc : ∀ o, wx.cell? ⟨gd, o, none⟩ = X.cell? ⟨gd, o, none⟩ := fun o => hb.cell (p := ⟨gd, o, none⟩) (World.block_lt_of_cell? X ⟨gd, a * 8, none⟩ z0X)
                    refine ⟨⟨?_, ?_, ?_, ?_, ?_, ?_, ?_, ?_⟩, GX.out.on hb⟩
                    · rw [hc]; exact z0X
                    · rw [hc]; exact z1X
                    · rw [hc]; exact z2X
                    · rw [hc]; exact z3X
                    · rw [hc]; exact z4X
                    · rw [hc]; exact z5X
                    · rw [hc]; exact z6X
                    · rw [hc]; exact z7X
                    )
                  have HB0 : Hid (Below X.heap.size X X.drew) := Lib.hid (below_drew X)
                  have hal : a < x.length := by assumption
                  clear hz hr' HBK
                  go_region_law (first
                    | (go_simp; go_at_call 38; ((with_reducible refine (CO.out _ HB0.out).mono ?_); rintro e w3 ⟨B', c', rfl, hN, b3⟩; have b13 : Below X.heap.size X w3 := HB0.out.trans (b3.mono HB0.out.size); obtain ⟨⟨t0, t1, t2, t3, t4, t5, t6, t7⟩, S3⟩ := HF.out _ b13; have S3 := Lib.hid S3; have g0 := S3.out.fr rfl (a * 8); have g1 := S3.out.fr rfl (a * 8 + 1); have g2' := S3.out.fr rfl (a * 8 + 2); have g3 := S3.out.fr rfl (a * 8 + 3); have g4 := S3.out.fr rfl (a * 8 + 4); have g5 := S3.out.fr rfl (a * 8 + 5); have g6 := S3.out.fr rfl (a * 8 + 6); have g7 := S3.out.fr rfl (a * 8 + 7); have HN3 := Lib.hid hN; have HB3 := Lib.hid b3; have HB13 := Lib.hid b13; clear hN b3 b13))
                    | fail)
                  all_goals
                    have HS4 : Hid (Sr w s0 l (i + 1) (x.set a (r', B', c')) (some ⟨gd, 0, none⟩) d (putAt w3 gd (a * 8) r' B' c')) := Lib.hid ⟨putAt_own S3.out.own hal (owns_mono HN3.out (Nat.le_trans GX.out.bel.size HB0.out.size)), by rw [HE.out, List.map_set], putAt_below S3.out.bel (HGE.out _ rfl) r' B' c'⟩
                    clear t0 t1 t2 t3 t4 t5 t6 t7 g0 g1 g2' g3 g4 g5 g6 g7 HF CO
                    go_wp2_with fail
                    go_roundg g
                    case rel => exact ⟨i + 1, x.set a (r', B', c'), _, d, by omega, by rw [List.length_set]; omega, by rw [List.length_set], by go_num, HS4⟩
                    case measure => omega
                · have HNE : Hid (∀ r, (x.map (·.1))[a]? = some r → nmR r ≠ (k, kd)) := Lib.hid (fun r hr e => by rw [hzm] at hr; cases hr; exact hq (congrArg Prod.snd e))
                  have y4 := Lib.hid (beq_eq_false_iff_ne.2 hq)
                  clear hk hq hnl hnk hnq hzm
                  have GU := Lib.hid (G1.out.drewN q)
                  have q0U : (u1.drewN q).cell? ⟨xb, 0, none⟩ = some (.int .i64 s0) := q0
                  have q1U : (u1.drewN q).cell? ⟨xb, 1, none⟩ = some (.string k) := q1
                  have q2U : (u1.drewN q).cell? ⟨xb, 2, none⟩ = some (.int .i64 kd) := q2
                  have q3U : (u1.drewN q).cell? ⟨xb, 3, none⟩ = some (.int .i64 v) := q3
                  obtain ⟨gd, rfl, hgd, RA⟩ := GU.out.at hz
                  have z0U := RA.p0
                  have z1U := RA.p1
                  clear RA hz
                  clear q0 q1 q2 q3 G1
                  generalize hU : u1.drewN q = U at GU q0U q1U q2U q3U z0U z1U ⊢
                  clear hU
                  go_wp2_with fail
                  have y1' := y1.out
                  have y2' := y2.out
                  have y3' := y3.out
                  go_quiet (fail)
                  all_goals go_wp2_with fail
                  have GV := Lib.hid (GU.out.drewN nq)
                  have q0V : (U.drewN nq).cell? ⟨xb, 0, none⟩ = some (.int .i64 s0) := q0U
                  have q1V : (U.drewN nq).cell? ⟨xb, 1, none⟩ = some (.string k) := q1U
                  have q2V : (U.drewN nq).cell? ⟨xb, 2, none⟩ = some (.int .i64 kd) := q2U
                  have q3V : (U.drewN nq).cell? ⟨xb, 3, none⟩ = some (.int .i64 v) := q3U
                  have z0V : (U.drewN nq).cell? ⟨gd, a * 8, none⟩ = some (.string z.1.key) := z0U
                  have z1V : (U.drewN nq).cell? ⟨gd, a * 8 + 1, none⟩ = some (.int .i64 z.1.kind) := z1U
                  clear q0U q1U q2U q3U z0U z1U GU
                  generalize hX : U.drewN nq = V at GV q0V q1V q2V q3V z0V z1V ⊢
                  clear hX
                  have y2'' := y2.out
                  have y4'' := y4.out
                  go_quiet (fail)
                  have GX := Lib.hid (GV.out.drewN nq)
                  have q0X : (V.drewN nq).cell? ⟨xb, 0, none⟩ = some (.int .i64 s0) := q0V
                  have q1X : (V.drewN nq).cell? ⟨xb, 1, none⟩ = some (.string k) := q1V
                  have q2X : (V.drewN nq).cell? ⟨xb, 2, none⟩ = some (.int .i64 kd) := q2V
                  have q3X : (V.drewN nq).cell? ⟨xb, 3, none⟩ = some (.int .i64 v) := q3V
                  have z0X : (V.drewN nq).cell? ⟨gd, a * 8, none⟩ = some (.string z.1.key) := z0V
                  have z1X : (V.drewN nq).cell? ⟨gd, a * 8 + 1, none⟩ = some (.int .i64 z.1.kind) := z1V
                  clear q0V q1V q2V q3V z0V z1V GV
                  generalize hX : V.drewN nq = X at GX q0X q1X q2X q3X z0X z1X ⊢
                  clear hX
                  obtain ⟨D1, d1, w2, sl1, r1, o1, b1⟩ := lay_pre GX.out.own hin (by omega)
                  have CC := Lib.hid (fun wx => ref_come wx ⟨k, kd, 0, 0, 0, 0, false, []⟩ none 0 (RdN.nil wx) ⟨Nat.zero_le _, zeroIn, zeroIn, zeroIn, fun y hy => by simp at hy, by simp⟩ HPK.out.v)
                  have HF : fillR (midR ⟨k, kd, 0, 0, 0, 0, false, []⟩ v) v = beginR k kd v := rfl
                  rw [HF] at CC
                  obtain ⟨r', hr'⟩ : ∃ r', beginR k kd v = r' := ⟨_, rfl⟩
                  rw [hr'] at CC
                  unfold rowVal Tells18 rowVal at CC
                  have q1w : w2.cell? ⟨xb, 1, none⟩ = some (.string k) := by rw [b1.cell (World.block_lt_of_cell? X _ q1X)]; exact q1X
                  have q2w : w2.cell? ⟨xb, 2, none⟩ = some (.int .i64 kd) := by rw [b1.cell (World.block_lt_of_cell? X _ q2X)]; exact q2X
                  have q3w : w2.cell? ⟨xb, 3, none⟩ = some (.int .i64 v) := by rw [b1.cell (World.block_lt_of_cell? X _ q3X)]; exact q3X
                  have HE : Hid (rowsW s0 (l.take (i + 1)) = (x.map (·.1)).take a ++ [r'] ++ (x.map (·.1)).drop a) := Lib.hid (by rw [HN.out, putW_new (by rw [← HM.out]; exact HNE.out), ← HM.out, hr'])
                  have R1 := Lib.hid r1
                  have O1 := Lib.hid o1
                  have B1 := Lib.hid b1
                  clear r1 o1 b1 hr' HF q0X q1X q2X q3X
                  go_wp2_with (first
                    | (at_builtin; refine wpK_app rfl (.tmp 100) (.tmp 103) 38 rfl _ _ _ rfl rfl R1.out ?_)
                    | fail)
                  refine (CC.out _).mono ?_
                  rintro e w3 ⟨B', c', rfl, hN, b3⟩
                  have b13 : Below X.heap.size X w3 := B1.out.trans (b3.mono B1.out.size)
                  obtain ⟨D2, d2, w4, A3, n3, c3, D3, d3, w5, r2, sl3, r3, o5, b5⟩ := lay_post GX.out.own GX.out.bel.size b13 hin (by omega) (OwK.below O1.out b3) (owns_mono hN (Nat.le_trans GX.out.bel.size B1.out.size))
                  obtain ⟨x', hx'⟩ : ∃ x', x.take a ++ [(r', B', c')] ++ x.drop a = x' := ⟨_, rfl⟩
                  have lx' : x'.length = x.length + 1 := by rw [← hx']; simp; omega
                  rw [hx'] at o5
                  have HS4 : Hid (Sr w s0 l (i + 1) x' D3 d3 w5) := Lib.hid ⟨o5, by rw [HE.out, ← hx', List.map_append, List.map_append, List.map_take, List.map_drop]; rfl, GX.out.bel.trans (b5.mono GX.out.bel.size)⟩
                  have R2 := Lib.hid r2
                  have R3 := Lib.hid r3
                  clear r2 r3 hN b3 b13 o5 b5 hx' GX CC
                  go_wp2_with (first
                    | (at_builtin; refine wpK_app rfl (.tmp 105) (.tmp 114) 38 rfl _ _ _ rfl rfl R2.out ?_)
                    | (at_builtin; refine wpK_app rfl (.tmp 116) (.tmp 119) 38 rfl _ _ _ rfl rfl R3.out ?_)
                    | fail)
                  go_roundg g
                  case rel => exact ⟨i + 1, x', D3, d3, by omega, by omega, by rw [lx'], by go_num, HS4⟩
                  case measure => omega
              · have HNE : Hid (∀ r, (x.map (·.1))[a]? = some r → nmR r ≠ (k, kd)) := Lib.hid (fun r hr e => by rw [hzm] at hr; cases hr; exact hk (congrArg Prod.fst e))
                have y2 := Lib.hid ((eqW z.1.key k).trans (decide_eq_false hk))
                clear hk hnl hnk hzm
                have GU := Lib.hid (G1.out.drewN q)
                have q0U : (u1.drewN q).cell? ⟨xb, 0, none⟩ = some (.int .i64 s0) := q0
                have q1U : (u1.drewN q).cell? ⟨xb, 1, none⟩ = some (.string k) := q1
                have q2U : (u1.drewN q).cell? ⟨xb, 2, none⟩ = some (.int .i64 kd) := q2
                have q3U : (u1.drewN q).cell? ⟨xb, 3, none⟩ = some (.int .i64 v) := q3
                obtain ⟨gd, rfl, hgd, RA⟩ := GU.out.at hz
                have z0U := RA.p0
                have z1U := RA.p1
                clear RA hz
                clear q0 q1 q2 q3 G1
                generalize hU : u1.drewN q = U at GU q0U q1U q2U q3U z0U z1U ⊢
                clear hU
                go_wp2_with fail
                have y1' := y1.out
                have y2' := y2.out
                go_quiet (fail)
                all_goals go_wp2_with fail
                have GV := Lib.hid (GU.out.drewN nq)
                have q0V : (U.drewN nq).cell? ⟨xb, 0, none⟩ = some (.int .i64 s0) := q0U
                have q1V : (U.drewN nq).cell? ⟨xb, 1, none⟩ = some (.string k) := q1U
                have q2V : (U.drewN nq).cell? ⟨xb, 2, none⟩ = some (.int .i64 kd) := q2U
                have q3V : (U.drewN nq).cell? ⟨xb, 3, none⟩ = some (.int .i64 v) := q3U
                have z0V : (U.drewN nq).cell? ⟨gd, a * 8, none⟩ = some (.string z.1.key) := z0U
                have z1V : (U.drewN nq).cell? ⟨gd, a * 8 + 1, none⟩ = some (.int .i64 z.1.kind) := z1U
                clear q0U q1U q2U q3U z0U z1U GU
                generalize hX : U.drewN nq = V at GV q0V q1V q2V q3V z0V z1V ⊢
                clear hX
                have y2'' := y2.out
                go_quiet (fail)
                have GX := Lib.hid (GV.out.drewN nq)
                have q0X : (V.drewN nq).cell? ⟨xb, 0, none⟩ = some (.int .i64 s0) := q0V
                have q1X : (V.drewN nq).cell? ⟨xb, 1, none⟩ = some (.string k) := q1V
                have q2X : (V.drewN nq).cell? ⟨xb, 2, none⟩ = some (.int .i64 kd) := q2V
                have q3X : (V.drewN nq).cell? ⟨xb, 3, none⟩ = some (.int .i64 v) := q3V
                have z0X : (V.drewN nq).cell? ⟨gd, a * 8, none⟩ = some (.string z.1.key) := z0V
                have z1X : (V.drewN nq).cell? ⟨gd, a * 8 + 1, none⟩ = some (.int .i64 z.1.kind) := z1V
                clear q0V q1V q2V q3V z0V z1V GV
                generalize hX : V.drewN nq = X at GX q0X q1X q2X q3X z0X z1X ⊢
                clear hX
                obtain ⟨D1, d1, w2, sl1, r1, o1, b1⟩ := lay_pre GX.out.own hin (by omega)
                have CC := Lib.hid (fun wx => ref_come wx ⟨k, kd, 0, 0, 0, 0, false, []⟩ none 0 (RdN.nil wx) ⟨Nat.zero_le _, zeroIn, zeroIn, zeroIn, fun y hy => by simp at hy, by simp⟩ HPK.out.v)
                have HF : fillR (midR ⟨k, kd, 0, 0, 0, 0, false, []⟩ v) v = beginR k kd v := rfl
                rw [HF] at CC
                obtain ⟨r', hr'⟩ : ∃ r', beginR k kd v = r' := ⟨_, rfl⟩
                rw [hr'] at CC
                unfold rowVal Tells18 rowVal at CC
                have q1w : w2.cell? ⟨xb, 1, none⟩ = some (.string k) := by rw [b1.cell (World.block_lt_of_cell? X _ q1X)]; exact q1X
                have q2w : w2.cell? ⟨xb, 2, none⟩ = some (.int .i64 kd) := by rw [b1.cell (World.block_lt_of_cell? X _ q2X)]; exact q2X
                have q3w : w2.cell? ⟨xb, 3, none⟩ = some (.int .i64 v) := by rw [b1.cell (World.block_lt_of_cell? X _ q3X)]; exact q3X
                have HE : Hid (rowsW s0 (l.take (i + 1)) = (x.map (·.1)).take a ++ [r'] ++ (x.map (·.1)).drop a) := Lib.hid (by rw [HN.out, putW_new (by rw [← HM.out]; exact HNE.out), ← HM.out, hr'])
                have R1 := Lib.hid r1
                have O1 := Lib.hid o1
                have B1 := Lib.hid b1
                clear r1 o1 b1 hr' HF q0X q1X q2X q3X
                go_wp2_with (first
                  | (at_builtin; refine wpK_app rfl (.tmp 100) (.tmp 103) 38 rfl _ _ _ rfl rfl R1.out ?_)
                  | fail)
                refine (CC.out _).mono ?_
                rintro e w3 ⟨B', c', rfl, hN, b3⟩
                have b13 : Below X.heap.size X w3 := B1.out.trans (b3.mono B1.out.size)
                obtain ⟨D2, d2, w4, A3, n3, c3, D3, d3, w5, r2, sl3, r3, o5, b5⟩ := lay_post GX.out.own GX.out.bel.size b13 hin (by omega) (OwK.below O1.out b3) (owns_mono hN (Nat.le_trans GX.out.bel.size B1.out.size))
                obtain ⟨x', hx'⟩ : ∃ x', x.take a ++ [(r', B', c')] ++ x.drop a = x' := ⟨_, rfl⟩
                have lx' : x'.length = x.length + 1 := by rw [← hx']; simp; omega
                rw [hx'] at o5
                have HS4 : Hid (Sr w s0 l (i + 1) x' D3 d3 w5) := Lib.hid ⟨o5, by rw [HE.out, ← hx', List.map_append, List.map_append, List.map_take, List.map_drop]; rfl, GX.out.bel.trans (b5.mono GX.out.bel.size)⟩
                have R2 := Lib.hid r2
                have R3 := Lib.hid r3
                clear r2 r3 hN b3 b13 o5 b5 hx' GX CC
                go_wp2_with (first
                  | (at_builtin; refine wpK_app rfl (.tmp 105) (.tmp 114) 38 rfl _ _ _ rfl rfl R2.out ?_)
                  | (at_builtin; refine wpK_app rfl (.tmp 116) (.tmp 119) 38 rfl _ _ _ rfl rfl R3.out ?_)
                  | fail)
                go_roundg g
                case rel => exact ⟨i + 1, x', D3, d3, by omega, by omega, by rw [lx'], by go_num, HS4⟩
                case measure => omega
            · have x2 : decide (a < x.length) = false := decide_eq_false (by omega)
              have HNE : Hid (∀ r, (x.map (·.1))[a]? = some r → nmR r ≠ (k, kd)) := Lib.hid (fun r hr => by rw [List.getElem?_eq_none (by rw [List.length_map]; exact hge)] at hr; cases hr)
              have GU := Lib.hid (G1.out.drewN q)
              have q0U : (u1.drewN q).cell? ⟨xb, 0, none⟩ = some (.int .i64 s0) := q0
              have q1U : (u1.drewN q).cell? ⟨xb, 1, none⟩ = some (.string k) := q1
              have q2U : (u1.drewN q).cell? ⟨xb, 2, none⟩ = some (.int .i64 kd) := q2
              have q3U : (u1.drewN q).cell? ⟨xb, 3, none⟩ = some (.int .i64 v) := q3
              clear q0 q1 q2 q3 G1
              generalize hU : u1.drewN q = U at GU q0U q1U q2U q3U ⊢
              clear hU
              go_wp2_with fail
              go_quiet (fail)
              have GV := Lib.hid (GU.out.drewN nq)
              have q0V : (U.drewN nq).cell? ⟨xb, 0, none⟩ = some (.int .i64 s0) := q0U
              have q1V : (U.drewN nq).cell? ⟨xb, 1, none⟩ = some (.string k) := q1U
              have q2V : (U.drewN nq).cell? ⟨xb, 2, none⟩ = some (.int .i64 kd) := q2U
              have q3V : (U.drewN nq).cell? ⟨xb, 3, none⟩ = some (.int .i64 v) := q3U
              clear q0U q1U q2U q3U GU
              generalize hX : U.drewN nq = V at GV q0V q1V q2V q3V ⊢
              clear hX
              have GX := GV
              have q0X := q0V
              have q1X := q1V
              have q2X := q2V
              have q3X := q3V
              clear GV q0V q1V q2V q3V
              generalize V = X at GX q0X q1X q2X q3X ⊢
              obtain ⟨D1, d1, w2, sl1, r1, o1, b1⟩ := lay_pre GX.out.own hin (by omega)
              have CC := Lib.hid (fun wx => ref_come wx ⟨k, kd, 0, 0, 0, 0, false, []⟩ none 0 (RdN.nil wx) ⟨Nat.zero_le _, zeroIn, zeroIn, zeroIn, fun y hy => by simp at hy, by simp⟩ HPK.out.v)
              have HF : fillR (midR ⟨k, kd, 0, 0, 0, 0, false, []⟩ v) v = beginR k kd v := rfl
              rw [HF] at CC
              obtain ⟨r', hr'⟩ : ∃ r', beginR k kd v = r' := ⟨_, rfl⟩
              rw [hr'] at CC
              unfold rowVal Tells18 rowVal at CC
              have q1w : w2.cell? ⟨xb, 1, none⟩ = some (.string k) := by rw [b1.cell (World.block_lt_of_cell? X _ q1X)]; exact q1X
              have q2w : w2.cell? ⟨xb, 2, none⟩ = some (.int .i64 kd) := by rw [b1.cell (World.block_lt_of_cell? X _ q2X)]; exact q2X
              have q3w : w2.cell? ⟨xb, 3, none⟩ = some (.int .i64 v) := by rw [b1.cell (World.block_lt_of_cell? X _ q3X)]; exact q3X
              have HE : Hid (rowsW s0 (l.take (i + 1)) = (x.map (·.1)).take a ++ [r'] ++ (x.map (·.1)).drop a) := Lib.hid (by rw [HN.out, putW_new (by rw [← HM.out]; exact HNE.out), ← HM.out, hr'])
              have R1 := Lib.hid r1
              have O1 := Lib.hid o1
              have B1 := Lib.hid b1
              clear r1 o1 b1 hr' HF q0X q1X q2X q3X
              go_wp2_with (first
                | (at_builtin; refine wpK_app rfl (.tmp 100) (.tmp 103) 38 rfl _ _ _ rfl rfl R1.out ?_)
                | fail)
              refine (CC.out _).mono ?_
              rintro e w3 ⟨B', c', rfl, hN, b3⟩
              have b13 : Below X.heap.size X w3 := B1.out.trans (b3.mono B1.out.size)
              obtain ⟨D2, d2, w4, A3, n3, c3, D3, d3, w5, r2, sl3, r3, o5, b5⟩ := lay_post GX.out.own GX.out.bel.size b13 hin (by omega) (OwK.below O1.out b3) (owns_mono hN (Nat.le_trans GX.out.bel.size B1.out.size))
              obtain ⟨x', hx'⟩ : ∃ x', x.take a ++ [(r', B', c')] ++ x.drop a = x' := ⟨_, rfl⟩
              have lx' : x'.length = x.length + 1 := by rw [← hx']; simp; omega
              rw [hx'] at o5
              have HS4 : Hid (Sr w s0 l (i + 1) x' D3 d3 w5) := Lib.hid ⟨o5, by rw [HE.out, ← hx', List.map_append, List.map_append, List.map_take, List.map_drop]; rfl, GX.out.bel.trans (b5.mono GX.out.bel.size)⟩
              have R2 := Lib.hid r2
              have R3 := Lib.hid r3
              clear r2 r3 hN b3 b13 o5 b5 hx' GX CC
              go_wp2_with (first
                | (at_builtin; refine wpK_app rfl (.tmp 105) (.tmp 114) 38 rfl _ _ _ rfl rfl R2.out ?_)
                | (at_builtin; refine wpK_app rfl (.tmp 116) (.tmp 119) 38 rfl _ _ _ rfl rfl R3.out ?_)
                | fail)
              go_roundg g
              case rel => exact ⟨i + 1, x', D3, d3, by omega, by omega, by rw [lx'], by go_num, HS4⟩
              case measure => omega
          | succ g2 =>
            have hla : a < x.length := by omega
            have x2 : decide (a < x.length) = true := decide_eq_true hla
            obtain ⟨z, hz⟩ : ∃ z, x[a]? = some z := ⟨_, List.getElem?_eq_getElem hla⟩
            have hlt1 : ltW (nmR z.1) (k, kd) = true := atR_lt (l := x.map (·.1)) (i := a) (by rw [← HM.out]; omega) (by rw [List.getElem?_map, hz]; rfl)
            obtain ⟨gd, rfl, hgd, RA⟩ := G1.out.at hz
            have z0 := RA.p0
            have z1 := RA.p1
            clear RA hz
            rcases ltW_iff.1 hlt1 with h1 | ⟨h1, h2⟩
            · have y1 := Lib.hid ((lssW z.1.key k).trans (decide_eq_true h1))
              clear h1 hlt1
              go_wp2_with fail
              have y1' := y1.out
              go_quiet (fail)
              all_goals go_wp2_with fail
              go_roundg g2
              case rel => exact ⟨a + 1, _, by omega, by go_num, Lib.hid rfl⟩
              case measure => omega
            · have h1 : z.1.key = k := h1
              have y1 := Lib.hid ((lssW z.1.key k).trans (decide_eq_false (by rw [h1]; exact List.lt_irrefl _)))
              have y2 := Lib.hid ((eqW z.1.key k).trans (decide_eq_true h1))
              have h2 : z.1.kind < kd := h2
              have y3 := Lib.hid (decide_eq_true h2)
              clear h1 h2 hlt1
              go_wp2_with fail
              have y1' := y1.out
              have y2' := y2.out
              have y3' := y3.out
              go_quiet (fail)
              all_goals go_wp2_with fail
              go_roundg g2
              case rel => exact ⟨a + 1, _, by omega, by go_num, Lib.hid rfl⟩
              case measure => omega
      · have HN : Hid (x.map (·.1) = rowsW s (l.take (i + 1))) := Lib.hid (by rw [HT.out, rows_other (by exact hs)]; exact HG.out.eq)
        clear HT HG
        go_wp2_with fail
        go_roundg g
        case rel => exact ⟨i + 1, x, D, d, by omega, by omega, rfl, by go_num, Lib.hid ⟨G1.out.own, HN.out, G1.out.bel⟩⟩
        case measure => omega
end Go.Proofs.YtedhciolnekpaaaGreatDoor
