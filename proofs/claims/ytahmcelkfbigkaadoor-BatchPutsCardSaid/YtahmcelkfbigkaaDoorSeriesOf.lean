/-
  Layer 5 (series): series.Of: what a key is of, or the error ErrForm.
-/
import Derived.Test.YtahmcelkfbigkaaDoorSeriesCanon
namespace Go.Proofs.YtahmcelkfbigkaaDoor
open Go.ChangeShapes Go.WideShapes Go.ChangeAt Go.RowKit
set_option linter.unusedVariables false

def restB : ByteArray := ⟨#[32, 99, 32, 48, 32, 48]⟩
def OfPost (w : World) (n : ByteArray) (ts : Tags) (r : Bool) (e : Ending) (w' : World) : Prop :=
  match r with
  | true => CanonGood w n 0 0 0 ts e w'
  | false => CanonBad w 2 e w'

set_option maxHeartbeats 1000000 in
set_option maxRecDepth 100000 in
theorem seriesOf (s : ByteArray) (ev : Ev) (w : World) (hL : Laid w) (hs : s.size ≤ 294) (hp : parseF (s ++ restB) = .good ev) (h6 : ev.tags.length ≤ 6) (r : Bool) (hri : riseB ev.tags = r) :
    Calls Tryd.prog 45 #[.string s] w (OfPost w ev.name ev.tags r) := by
  have hsz : (s ++ restB).size ≤ 300 := by rw [ByteArray.size_append]; show s.size + 6 ≤ 300; omega
  have e1 : decide ((300 : Int) < s.size) = false := decide_eq_false (by omega)
  have C := Lib.hid (fun w' h => lineParse (s ++ restB) w' h hsz)
  rw [hp] at C
  have HL := Lib.hid (hL.alloc (.cells #[.string ⟨#[]⟩, .slice none 0 0, .int .i64 0, .int .i64 0, .int .i64 0] 71))
  have HRI := Lib.hid hri
  have hE0 : EvB (w.alloc (.cells #[.string ⟨#[]⟩, .slice none 0 0, .int .i64 0, .int .i64 0, .int .i64 0] 71)) w.heap.size ⟨#[]⟩ none 0 0 0 0 0 := heap_alloc_new w _
  have HE0 := Lib.hid hE0
  clear hp hri hE0 hL
  unfold restB at C hsz
  go_enter Tryd.func45, Tryd.ntmps45
  go_wp2_with fail
  refine (C.out _ HL.out).mono ?_
  rintro e w1 ⟨A, c, rfl, o1, hb⟩
  obtain ⟨n, ts, k, v, t⟩ := ev
  simp only at *
  unfold evVal
  have hE1 : EvB (w1.alloc (.cells #[.string n, .slice A ts.length c, .int .i64 k, .int .i64 v, .int .i64 t] 71)) w1.heap.size n A ts.length c k v t := heap_alloc_new w1 _
  have HE1 := Lib.hid hE1
  have HB := Lib.hid (((below_new w _).trans (hb.mono (by simp))).alloc (by have := hb.size; simp at this; omega) (.cells #[.string n, .slice A ts.length c, .int .i64 k, .int .i64 v, .int .i64 t] 71))
  have HR := Lib.hid (o1.rd.alloc (.cells #[.string n, .slice A ts.length c, .int .i64 k, .int .i64 v, .int .i64 t] 71))
  have HE2 := Lib.hid (show EvB (w1.alloc (.cells #[.string n, .slice A ts.length c, .int .i64 k, .int .i64 v, .int .i64 t] 71)) w.heap.size ⟨#[]⟩ none 0 0 0 0 0 by
    have h1 : EvB w1 w.heap.size ⟨#[]⟩ none 0 0 0 0 0 := by unfold EvB; rw [hb.block _ (lt_of_block HE0.out)]; exact HE0.out
    unfold EvB; rw [(World.grownBy_alloc _ _ none).block _ (lt_of_block h1) (by simp)]; exact h1)
  have HO := Lib.hid (o1.alloc (.cells #[.string n, .slice A ts.length c, .int .i64 k, .int .i64 v, .int .i64 t] 71))
  have c1 := hE1.c1
  have CR := Lib.hid (seriesRise A c ts _ HR.out (by omega))
  rw [HRI.out] at CR
  clear hE1 hb o1 HE0 C HL HRI
  cases r with
  | false =>
    go_wp2_with fail
    refine CR.out.mono ?_
    rintro e w2 ⟨rfl, hb⟩
    have E2 := Lib.hid (show EvB w2 w.heap.size ⟨#[]⟩ none 0 0 0 0 0 by unfold EvB; rw [hb.block _ (lt_of_block HE2.out)]; exact HE2.out)
    have B2 := Lib.hid (HB.out.trans (hb.mono HB.out.size))
    clear hb HB HE1 HE2 HR HO CR c1
    have f0 := E2.out.f 0
    have f1 := E2.out.f 1
    have f2 := E2.out.f 2
    have f3 := E2.out.f 3
    have f4 := E2.out.f 4
    have c0 := E2.out.c0
    have c1 := E2.out.c1
    have c2 := E2.out.c2
    have c3 := E2.out.c3
    have c4 := E2.out.c4
    go_wp2_with fail
    refine bodyPost_ret (v := .tuple #[evZero, .iface 32 (.int .i64 2)]) (by simp [results, Tryd.results45, go_sem, evVal, evZero, c0, c1, c2, c3, c4]) rfl ?_
    exact ⟨rfl, below_of_grown (grown_set5 (grown_of B2.out) (Nat.le_refl _) _ _ _ _ _)⟩
  | true =>
    go_wp2_with fail
    refine CR.out.mono ?_
    rintro e w2 ⟨rfl, hb⟩
    have E2 := Lib.hid (show EvB w2 w.heap.size ⟨#[]⟩ none 0 0 0 0 0 by unfold EvB; rw [hb.block _ (lt_of_block HE2.out)]; exact HE2.out)
    have E3 := Lib.hid (show EvB w2 w1.heap.size n A ts.length c k v t by unfold EvB; rw [hb.block _ (lt_of_block HE1.out)]; exact HE1.out)
    have B2 := Lib.hid (HB.out.trans (hb.mono HB.out.size))
    have O2 := Lib.hid (HO.out.below hb)
    clear hb HB HE1 HE2 HR HO CR c1
    have f0 := E2.out.f 0
    have f1 := E2.out.f 1
    have f2 := E2.out.f 2
    have f3 := E2.out.f 3
    have f4 := E2.out.f 4
    have c0 := E2.out.c0
    have c1 := E2.out.c1
    have c2 := E2.out.c2
    have c3 := E2.out.c3
    have c4 := E2.out.c4
    have d0 := E3.out.c0
    have d1 := E3.out.c1
    go_wp2_with fail
    refine bodyPost_ret (v := .tuple #[evVal n A ts.length c 0 0 0, .nilIface]) (by simp [results, Tryd.results45, go_sem, evVal, c0, c1, c2, c3, c4]) rfl ?_
    refine ⟨A, c, rfl, ?_, below_of_grown (grown_set5 (grown_of B2.out) (Nat.le_refl _) _ _ _ _ _)⟩
    exact O2.out.rd.set5 (fun d e => by have := (World.ownsRow.lt O2.out d.block (by rw [e]; rfl)).1; simp at this; omega) _ _ _ _ _
end Go.Proofs.YtahmcelkfbigkaaDoor
