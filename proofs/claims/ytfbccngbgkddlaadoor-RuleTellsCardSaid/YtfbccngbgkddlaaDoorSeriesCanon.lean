/-
  Layer 5 (series): series.Canon: an event with its tags rising, or the errors ErrArg and ErrTwice.
-/
import Derived.Test.YtfbccngbgkddlaaDoorSeriesSort
import Derived.Test.YtfbccngbgkddlaaDoorLineParse
namespace Go.Proofs.YtfbccngbgkddlaaDoor
open Go.ChangeShapes Go.WideShapes Go.ChangeAt Go.RowKit
set_option linter.unusedVariables false

/-- Where Canon stands: the event in a block of its own, and the result's block. -/
structure Cn (w : World) (n : ByteArray) (A : Option Addr) (l c : Nat) (k v t : Int) (wr : World) : Prop where
  below : Below w.heap.size w wr
  ev : EvB wr w.heap.size n A l c k v t
  res : EvB wr (w.heap.size + 1) ⟨#[]⟩ none 0 0 0 0 0
section
variable {w wr w' : World} {n : ByteArray} {A : Option Addr} {l c : Nat} {k v t : Int}
theorem Cn.size (h : Cn w n A l c k v t wr) : w.heap.size + 1 < wr.heap.size := lt_of_block h.res
theorem Cn.on (h : Cn w n A l c k v t wr) (b : Below wr.heap.size wr w') : Cn w n A l c k v t w' :=
  ⟨h.below.trans (b.mono h.below.size), by unfold EvB; rw [b.block _ (lt_of_block h.ev)]; exact h.ev, by unfold EvB; rw [b.block _ (lt_of_block h.res)]; exact h.res⟩
theorem Cn.grown (h : Cn w n A l c k v t wr) {r : Option Nat} (g : wr.grownBy w' r) (hr : ∀ b, r = some b → w.heap.size + 2 ≤ b) : Cn w n A l c k v t w' := by
  have n0 : some w.heap.size ≠ r := fun e => by have := hr _ e.symm; omega
  have n1 : some (w.heap.size + 1) ≠ r := fun e => by have := hr _ e.symm; omega
  refine ⟨⟨g.os.trans h.below.os, g.tape.trans h.below.tape, g.output.trans h.below.output, Nat.le_trans h.below.size g.size, fun b hb => ?_⟩, ?_, ?_⟩
  · rw [g.block b (by have := h.size; omega) (fun e => by have := hr b e.symm; omega)]
    exact h.below.block b hb
  · unfold EvB; rw [g.block _ (lt_of_block h.ev) n0]; exact h.ev
  · unfold EvB; rw [g.block _ (lt_of_block h.res) n1]; exact h.res
theorem Cn.put0 (h : Cn w n A l c k v t wr) (x : ByteArray) : Cn w x A l c k v t (wr.setCell ⟨w.heap.size, 0, none⟩ (.string x)) :=
  ⟨h.below.setCell (Nat.le_refl _) _, h.ev.set0 x, by unfold EvB; rw [heap_set_other (by show w.heap.size + 1 ≠ w.heap.size; omega)]; exact h.res⟩
theorem Cn.put1 (h : Cn w n A l c k v t wr) (A' : Option Addr) (l' c' : Nat) : Cn w n A' l' c' k v t (wr.setCell ⟨w.heap.size, 1, none⟩ (.slice A' l' c')) :=
  ⟨h.below.setCell (Nat.le_refl _) _, h.ev.set1 A' l' c', by unfold EvB; rw [heap_set_other (by show w.heap.size + 1 ≠ w.heap.size; omega)]; exact h.res⟩
theorem Cn.start (w : World) (n : ByteArray) (A : Option Addr) (l c : Nat) (k v t : Int) :
    Cn w n A l c k v t ((w.alloc (.cells #[.string n, .slice A l c, .int .i64 k, .int .i64 v, .int .i64 t] 25)).alloc (.cells #[.string ⟨#[]⟩, .slice none 0 0, .int .i64 0, .int .i64 0, .int .i64 0] 25)) := by
  refine ⟨((Below.refl _ _).alloc (Nat.le_refl _) _).alloc (by simp) _, ?_, ?_⟩
  · unfold EvB
    rw [(World.grownBy_alloc _ _ none).block w.heap.size (by simp) (by simp)]
    exact heap_alloc_new w _
  · have := heap_alloc_new (w.alloc (.cells #[.string n, .slice A l c, .int .i64 k, .int .i64 v, .int .i64 t] 25)) (.cells #[.string ⟨#[]⟩, .slice none 0 0, .int .i64 0, .int .i64 0, .int .i64 0] 25)
    rw [World.size_alloc] at this
    exact this
end

theorem RdT.set {w : World} {A : Option Addr} {ts : Tags} (h : RdT w A ts) (a : Addr) (x : Value) (hne : ∀ d, A = some d → d.block ≠ a.block) : RdT (w.setCell a x) A ts := by
  rcases h with h | ⟨b, o, e, hc⟩
  · exact .inl h
  · have hb : b ≠ a.block := hne _ e
    refine .inr ⟨b, o, e, fun i x y hi => ⟨?_, ?_⟩⟩
    · exact (World.cell?_of_block (heap_set_other hb)).trans (hc i x y hi).1
    · exact (World.cell?_of_block (heap_set_other hb)).trans (hc i x y hi).2
theorem RdT.set5 {w : World} {A : Option Addr} {ts : Tags} (h : RdT w A ts) {g : Nat} (hne : ∀ d, A = some d → d.block ≠ g) (v0 v1 v2 v3 v4 : Value) :
    RdT (((((w.setCell ⟨g, 0, none⟩ v0).setCell ⟨g, 1, none⟩ v1).setCell ⟨g, 2, none⟩ v2).setCell ⟨g, 3, none⟩ v3).setCell ⟨g, 4, none⟩ v4) A ts :=
  ((((h.set _ _ hne).set _ _ hne).set _ _ hne).set _ _ hne).set _ _ hne

def CanonBad (w : World) (code : Int) (e : Ending) (w' : World) : Prop := e = .returned (.tuple #[evZero, .iface 35 (.int .i64 code)]) ∧ Below w.heap.size w w'
def CanonGood (w : World) (n : ByteArray) (k v t : Int) (ts : Tags) (e : Ending) (w' : World) : Prop :=
  ∃ A c, e = .returned (.tuple #[evVal n A ts.length c k v t, .nilIface]) ∧ RdT w' A ts ∧ Below w.heap.size w w'

set_option maxHeartbeats 1000000 in
set_option maxRecDepth 100000 in
theorem canonArg (n : ByteArray) (A : Option Addr) (c : Nat) (k v t : Int) (ts : Tags) (w : World) (hr : RdT w A ts) (hS : Small n ts) (hm : mayB n ts k t = false) :
    Calls Tryd.prog 19 #[evVal n A ts.length c k v t] w (CanonBad w 1) := by
  have G0 := Lib.hid (Cn.start w n A ts.length c k v t)
  have CM := Lib.hid (lineMay n A c k v t ts _ ((hr.alloc (.cells #[.string n, .slice A ts.length c, .int .i64 k, .int .i64 v, .int .i64 t] 25)).alloc (.cells #[.string ⟨#[]⟩, .slice none 0 0, .int .i64 0, .int .i64 0, .int .i64 0] 25)) hS)
  rw [hm] at CM
  have c0 := G0.out.ev.c0
  have c1 := G0.out.ev.c1
  have c2 := G0.out.ev.c2
  have c3 := G0.out.ev.c3
  have c4 := G0.out.ev.c4
  clear hm hr
  unfold evVal at CM ⊢
  go_enter Tryd.func19, Tryd.ntmps19
  go_wp2_with fail
  refine CM.out.mono ?_
  rintro e w1 ⟨rfl, hb⟩
  have G1 := Lib.hid (G0.out.on hb)
  clear hb G0 CM c0 c1 c2 c3 c4
  have f0 := G1.out.res.f 0
  have f1 := G1.out.res.f 1
  have f2 := G1.out.res.f 2
  have f3 := G1.out.res.f 3
  have f4 := G1.out.res.f 4
  have c0 := G1.out.res.c0
  have c1 := G1.out.res.c1
  have c2 := G1.out.res.c2
  have c3 := G1.out.res.c3
  have c4 := G1.out.res.c4
  go_wp2_with fail
  refine bodyPost_ret (v := .tuple #[evZero, .iface 35 (.int .i64 1)]) (by simp [results, Tryd.results19, go_sem, evVal, evZero, c0, c1, c2, c3, c4]) rfl ?_
  exact ⟨rfl, below_of_grown (grown_set5 (grown_of G1.out.below) (Nat.le_succ _) _ _ _ _ _)⟩

def CanonPost (w : World) (n : ByteArray) (k v t : Int) (ts : Tags) (r : Bool) (e : Ending) (w' : World) : Prop :=
  match r with
  | true => CanonGood w n k v t (sortT ts) e w'
  | false => CanonBad w 5 e w'

set_option maxHeartbeats 2000000 in
set_option maxRecDepth 100000 in
theorem seriesCanon (n : ByteArray) (A : Option Addr) (c : Nat) (k v t : Int) (ts : Tags) (w : World) (hr : RdT w A ts) (hS : Small n ts) (hm : mayB n ts k t = true) (r : Bool) (hri : riseB (sortT ts) = r) :
    Calls Tryd.prog 19 #[evVal n A ts.length c k v t] w (CanonPost w n k v t ts r) := by
  have G0 := Lib.hid (Cn.start w n A ts.length c k v t)
  have HR := Lib.hid hr
  have CM := Lib.hid (lineMay n A c k v t ts _ ((hr.alloc (.cells #[.string n, .slice A ts.length c, .int .i64 k, .int .i64 v, .int .i64 t] 25)).alloc (.cells #[.string ⟨#[]⟩, .slice none 0 0, .int .i64 0, .int .i64 0, .int .i64 0] 25)) hS)
  rw [hm] at CM
  have h6 := (may_open hm).2.2.2
  have HS := Lib.hid hS
  have HRI := Lib.hid hri
  have CN := Lib.hid (fun w' => strClone n w' (by have := hS.1; omega))
  have hl : (sortT ts).length = ts.length := sortT_len ts
  have HL := Lib.hid hl
  have c0 := G0.out.ev.c0
  have c1 := G0.out.ev.c1
  have c2 := G0.out.ev.c2
  have c3 := G0.out.ev.c3
  have c4 := G0.out.ev.c4
  clear hm hr hri hS hl
  unfold evVal at CM ⊢
  go_enter Tryd.func19, Tryd.ntmps19
  go_wp2_with fail
  refine CM.out.mono ?_
  rintro e w1 ⟨rfl, hb⟩
  have G1 := Lib.hid (G0.out.on hb)
  clear hb G0 CM c0 c1 c2 c3 c4
  have c0 := G1.out.ev.c0
  go_wp2_with fail
  refine (CN.out _).mono ?_
  rintro e w2 ⟨rfl, hb⟩
  have G2 := Lib.hid (G1.out.on hb)
  clear hb G1 CN c0
  have f0 := G2.out.ev.f 0
  have c0 := G2.out.ev.c0
  have c1 := G2.out.ev.c1
  have G3 := Lib.hid (G2.out.put0 n)
  obtain ⟨w3, hw3⟩ : ∃ w3, w2.setCell ⟨w.heap.size, 0, none⟩ (.string n) = w3 := ⟨_, rfl⟩
  rw [hw3] at G3
  have d1 := G3.out.ev.c1
  go_wp2_with fail
  clear G2 c0 c1 f0 hw3
  have hz3 := G3.out.size
  refine (seriesCopy A c ts w3 (HR.out.below G3.out.below) h6 HS.out.2.2).mono ?_
  rintro e w4 ⟨A1, cap1, rfl, o4, hb⟩
  have G4 := Lib.hid (G3.out.on hb)
  have O4 := Lib.hid (o4.mono (show w.heap.size + 2 ≤ w3.heap.size by omega))
  clear hb o4 G3 d1
  have f1 := G4.out.ev.f 1
  have c1 := G4.out.ev.c1
  have G5 := Lib.hid (G4.out.put1 A1 ts.length cap1)
  have O5 := Lib.hid (O4.out.set ⟨w.heap.size, 1, none⟩ (.slice A1 ts.length cap1) (by show w.heap.size < w.heap.size + 2; omega))
  obtain ⟨w5, hw5⟩ : ∃ w5, w4.setCell ⟨w.heap.size, 1, none⟩ (.slice A1 ts.length cap1) = w5 := ⟨_, rfl⟩
  rw [hw5] at G5 O5
  have d1 := G5.out.ev.c1
  go_wp2_with fail
  clear G4 O4 c1 f1 hw5
  refine (sortTags A1 cap1 ts w5 _ O5.out h6).mono ?_
  rintro e w6 ⟨rfl, r6, g6⟩
  have G6 := Lib.hid (G5.out.grown g6 (fun b e => (World.ownsRow.lt O5.out b e).1))
  have R6 := Lib.hid r6
  have HA := Lib.hid (fun d (e : A1 = some d) => show d.block ≠ w.heap.size + 1 from fun h => by
    have := (World.ownsRow.lt O5.out d.block (by rw [e]; rfl)).1
    omega)
  clear r6 g6 G5 O5 d1
  have CR := Lib.hid (seriesRise A1 cap1 (sortT ts) w6 R6.out (by rw [HL.out]; omega))
  rw [HRI.out, HL.out] at CR
  have c1 := G6.out.ev.c1
  cases r with
  | false =>
    go_wp2_with fail
    refine CR.out.mono ?_
    rintro e w7 ⟨rfl, hb⟩
    have G7 := Lib.hid (G6.out.on hb)
    clear hb G6 CR c1
    have f0 := G7.out.res.f 0
    have f1 := G7.out.res.f 1
    have f2 := G7.out.res.f 2
    have f3 := G7.out.res.f 3
    have f4 := G7.out.res.f 4
    have c0 := G7.out.res.c0
    have c1 := G7.out.res.c1
    have c2 := G7.out.res.c2
    have c3 := G7.out.res.c3
    have c4 := G7.out.res.c4
    go_wp2_with fail
    refine bodyPost_ret (v := .tuple #[evZero, .iface 35 (.int .i64 5)]) (by simp [results, Tryd.results19, go_sem, evVal, evZero, c0, c1, c2, c3, c4]) rfl ?_
    exact ⟨rfl, below_of_grown (grown_set5 (grown_of G7.out.below) (Nat.le_succ _) _ _ _ _ _)⟩
  | true =>
    go_wp2_with fail
    refine CR.out.mono ?_
    rintro e w7 ⟨rfl, hb⟩
    have G7 := Lib.hid (G6.out.on hb)
    have R7 := Lib.hid (R6.out.below hb)
    clear hb G6 R6 CR c1
    have f0 := G7.out.res.f 0
    have f1 := G7.out.res.f 1
    have f2 := G7.out.res.f 2
    have f3 := G7.out.res.f 3
    have f4 := G7.out.res.f 4
    have c0 := G7.out.res.c0
    have c1 := G7.out.res.c1
    have c2 := G7.out.res.c2
    have c3 := G7.out.res.c3
    have c4 := G7.out.res.c4
    have e0 := G7.out.ev.c0
    have e1 := G7.out.ev.c1
    have e2 := G7.out.ev.c2
    have e3 := G7.out.ev.c3
    have e4 := G7.out.ev.c4
    go_wp2_with fail
    refine bodyPost_ret (v := .tuple #[evVal n A1 ts.length cap1 k v t, .nilIface]) (by simp [results, Tryd.results19, go_sem, evVal, c0, c1, c2, c3, c4]) rfl ?_
    refine ⟨A1, cap1, by rw [HL.out], ?_, below_of_grown (grown_set5 (grown_of G7.out.below) (Nat.le_succ _) _ _ _ _ _)⟩
    exact R7.out.set5 HA.out _ _ _ _ _
end Go.Proofs.YtfbccngbgkddlaaDoor
