/-
  Layer 18 (tally), for layer 20: Add.
-/
import Derived.Test.YtedhciolnekpaaaGreatDoorQTallyKeep
import Derived.Test.YtedhciolnekpaaaGreatDoorGrpL
import Derived.Test.YtedhciolnekpaaaGreatDoorQTallyRef
import Derived.Test.YtedhciolnekpaaaGreatDoorGrpA
namespace Go.Proofs.YtedhciolnekpaaaGreatDoor
open Go.ChangeShapes Go.WideShapes Go.ChangeAt Go.RowKit
set_option linter.unusedVariables false

set_option maxRecDepth 100000 in
set_option maxHeartbeats 4000000 in
theorem tallyAdd_walk (w : World) (r : Rw) (B : Option Addr) (c : Nat) (hb : OwnN w 0 B c r.bks) (ok : OkR r) (hs : r.key.size ≤ 281474976710656) {v : Int} (hv : In64 v) :
    Calls Tryz.prog 29 #[rowVal r B c, .int .i64 v] w (Tells18 w (comeR r v)) := by
  have CC := Lib.hid (fun w => keyClone r.key w hs)
  have Z1 : Hid (RowB ((w.alloc (rowObj r B c)).alloc (rowObj zeroR none 0)) w.heap.size r B c) := Lib.hid ((RowB.new w r B c).alloc _)
  have Z2 : Hid (RowB ((w.alloc (rowObj r B c)).alloc (rowObj zeroR none 0)) (w.heap.size + 1) zeroR none 0) := Lib.hid (by
    have := RowB.new (w.alloc (rowObj r B c)) zeroR none 0
    rw [World.size_alloc] at this
    exact this)
  have BW : Hid (Below w.heap.size w ((w.alloc (rowObj r B c)).alloc (rowObj zeroR none 0))) := Lib.hid ((blw_new w _).alloc (by simp) _)
  have HR := Lib.hid hb
  have HOK := Lib.hid ok
  have HV := Lib.hid hv
  obtain ⟨W0, hW0⟩ : ∃ W0, (w.alloc (rowObj r B c)).alloc (rowObj zeroR none 0) = W0 := ⟨_, rfl⟩
  have HS : Hid (W0.heap.size = w.heap.size + 1 + 1) := Lib.hid (by rw [← hW0]; simp)
  rw [hW0] at Z1 Z2 BW
  have z0 := Z1.out.c0
  have HW := Lib.hid hW0
  clear hb ok hs hv
  unfold Tells18 rowVal
  have hW1 : (w.alloc (.cells #[.string r.key, .int .i64 r.kind, .int .u64 (r.many : Nat), .int .i64 r.sum, .int .i64 r.least, .int .i64 r.most, .bool r.over, .slice B r.bks.length c] 55)).alloc (.cells #[.string ⟨#[]⟩, .int .i64 0, .int .u64 0, .int .i64 0, .int .i64 0, .int .i64 0, .bool false, .slice none 0 0] 55) = W0 := hW0
  clear hW0
  go_enter Tryz.func29, Tryz.ntmps29
  go_wp2_with fail
  (try rw [hW1])
  refine (CC.out _).mono ?_
  rintro e w3 ⟨rfl, b3⟩
  have Z13 := Lib.hid (Z1.out.below b3 (Nat.le_refl _))
  have Z23 := Lib.hid (Z2.out.below b3 (Nat.le_refl _))
  have B3 := Lib.hid (BW.out.trans (b3.mono BW.out.size))
  have O3 := Lib.hid (owns_below HR.out B3.out)
  have HS3 : Hid (w.heap.size + 1 + 1 ≤ w3.heap.size) := Lib.hid (by have := b3.size; have := HS.out; omega)
  have p7 := Z13.out.c7
  have p0 := Z13.out.c0
  have q0 := Z13.out.f 0
  have q7 := Z13.out.f 7
  clear b3 Z1 Z2 BW HS z0 CC
  -- the key is put in its place
  have E4 : Hid (RowB (w3.setCell ⟨w.heap.size, 0, none⟩ (.string r.key)) w.heap.size r B c) := Lib.hid ⟨by rw [heap_set_same Z13.out.blk]; rfl⟩
  have E5 : Hid (RowB (w3.setCell ⟨w.heap.size, 0, none⟩ (.string r.key)) (w.heap.size + 1) zeroR none 0) := Lib.hid ⟨by rw [heap_set_other (a := ⟨w.heap.size, 0, none⟩) (by simp)]; exact Z23.out.blk⟩
  have B4 : Hid (Below w.heap.size w (w3.setCell ⟨w.heap.size, 0, none⟩ (.string r.key))) := Lib.hid (bset B3.out (Nat.le_refl _))
  have O4 : OwnN (w3.setCell ⟨w.heap.size, 0, none⟩ (.string r.key)) 0 B c r.bks := owns_keeps (F := fun g => g = w.heap.size) O3.out ((Keeps.refl _ w3).set ⟨w.heap.size, 0, none⟩ _ (.inl rfl)) (fun g hg e => by
    subst e
    obtain ⟨c', f, hc⟩ := owns_block O3.out _ hg
    rw [Z13.out.blk] at hc
    cases hc)
  have R4 : RdN (w3.setCell ⟨w.heap.size, 0, none⟩ (.string r.key)) B c r.bks := OwnN.rd O4
  have HS4 : Hid (w.heap.size + 1 + 1 ≤ (w3.setCell ⟨w.heap.size, 0, none⟩ (.string r.key)).heap.size) := Lib.hid (by rw [World.size_setCell]; exact HS3.out)
  have u7 : (w3.setCell ⟨w.heap.size, 0, none⟩ (.string r.key)).cell? ⟨w.heap.size, 7, none⟩ = some (.slice B r.bks.length c) := E4.out.c7
  clear Z13 Z23 B3 O3 O4 HS3
  obtain ⟨w4, hw4⟩ : ∃ w4, w3.setCell ⟨w.heap.size, 0, none⟩ (.string r.key) = w4 := ⟨_, rfl⟩
  rw [hw4] at E4 E5 B4 R4 HS4 u7
  obtain ⟨B5, c5, w5, r5, o5, b5⟩ := append_nats R4 B4.out.size (by have := HOK.out.len; omega)
  have D7 := E4.out.below b5 (Nat.le_refl _)
  have v7 := D7.f 7
  have y7 := D7.c7
  have HZ : Hid (Hz w.heap.size (w.heap.size + 1) #[.string ⟨#[]⟩, .int .i64 0, .int .u64 0, .int .i64 0, .int .i64 0, .int .i64 0, .bool false, .slice none 0 0] (w5.setCell ⟨w.heap.size, 7, none⟩ (.slice B5 r.bks.length c5)) w.heap.size r B5 c5) := Lib.hid (by
    refine ⟨⟨⟨by rw [heap_set_same D7.blk]; rfl⟩, ?_, Nat.le_refl _⟩, ?_, by omega⟩
    · exact World.ownsRow.kept o5 (grown_set (grown_refl _ _) _ _ (.inl rfl)) (.inr fun e => by
        obtain ⟨d, f, hd⟩ := owns_block o5 _ e
        rw [D7.blk] at hd
        cases hd)
    · rw [heap_set_other (a := ⟨w.heap.size, 7, none⟩) (by simp)]
      exact (E5.out.below b5 (Nat.le_refl _)).blk)
  have B5' : Hid (Below w.heap.size w (w5.setCell ⟨w.heap.size, 7, none⟩ (.slice B5 r.bks.length c5))) := Lib.hid (bset (B4.out.trans (b5.mono B4.out.size)) (Nat.le_refl _))
  have CA := Lib.hid (come_walkZ HZ.out HOK.out B5'.out.size HV.out)
  have R5 := Lib.hid r5
  unfold Mz at CA
  clear E4 E5 B4 R4 D7 r5 o5 b5 HS4 HW
  go_wp2_with (first
    | (at_builtin; (try rw [hw4]); refine wpList_append_two rfl (.const (.slice none 0 0)) (.tmp 10) 53 53 rfl _ _ _ rfl rfl R5.out ?_)
    | fail)
  refine CA.out.mono ?_
  rintro e w6 ⟨rfl, B6, c6, h6, b6⟩
  have H6 := Lib.hid h6
  have B7 := Lib.hid (B5'.out.trans b6)
  have g0 := h6.row.c0
  have g1 := h6.row.c1
  have g2 := h6.row.c2
  have g3 := h6.row.c3
  have g4 := h6.row.c4
  have g5 := h6.row.c5
  have g6 := h6.row.c6
  have g7 := h6.row.c7
  have z6 : RowB w6 (w.heap.size + 1) zeroR none 0 := ⟨h6.zb⟩
  have d0 := z6.c0
  have d1 := z6.c1
  have d2 := z6.c2
  have d3 := z6.c3
  have d4 := z6.c4
  have d5 := z6.c5
  have d6 := z6.c6
  have d7 := z6.c7
  have f0 := z6.f
  have Z := Lib.hid z6
  have O6 : Hid (OwnN w6 w.heap.size B6 c6 (comeR r v).bks) := Lib.hid h6.own
  clear h6 b6 z6 CA HZ B5' y7 v7 u7 R5
  go_wp2_with fail
  change bodyPost _ _ _ _ _ (putRow w6 (w.heap.size + 1) (comeR r v) B6 c6)
  have Q := putRow_row Z.out (comeR r v) B6 c6
  have O7 : Hid (OwnN (putRow w6 (w.heap.size + 1) (comeR r v) B6 c6) w.heap.size B6 c6 (comeR r v).bks) := Lib.hid (owns_kept O6.out (putRow_grown w6 (w.heap.size + 1) (comeR r v) B6 c6) (fun b e => by
    cases e
    exact .inr ⟨_, _, _, Z.out.blk, by decide⟩))
  have B8 := Lib.hid (putRow_below (k := w.heap.size + 1) B7.out (Nat.le_succ _) (comeR r v) B6 c6)
  generalize putRow w6 (w.heap.size + 1) (comeR r v) B6 c6 = w9 at *
  clear g0 g1 g2 g3 g4 g5 g6 g7 d0 d1 d2 d3 d4 d5 d6 d7 f0
  have q0 := Q.c0
  have q1 := Q.c1
  have q2 := Q.c2
  have q3 := Q.c3
  have q4 := Q.c4
  have q5 := Q.c5
  have q6 := Q.c6
  have q7 := Q.c7
  (try simp only [Exit.inBlock, Exit.then])
  refine bodyPost_ret (by simp [results, Tryz.results29, go_sem, q0, q1, q2, q3, q4, q5, q6, q7]; try rfl) rfl ?_
  exact ⟨B6, c6, rfl, O7.out, B8.out⟩
end Go.Proofs.YtedhciolnekpaaaGreatDoor
