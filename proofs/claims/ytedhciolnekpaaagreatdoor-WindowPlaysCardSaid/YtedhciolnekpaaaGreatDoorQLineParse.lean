/-
  Layer 4 (line): line.Parse: the event of a text, or where it can't go on.
-/
import Derived.Test.YtedhciolnekpaaaGreatDoorQLineEvent
import Derived.RegionTactic
namespace Go.Proofs.YtedhciolnekpaaaGreatDoor
open Go.ChangeShapes Go.WideShapes Go.ChangeAt Go.RowKit
set_option linter.unusedVariables false

def evZero : Value := evVal ⟨#[]⟩ none 0 0 0 0 0
/-- An error that is a Spot, laid since. -/
def SpotAt (w : World) (base N p : Nat) (code : Int) : Prop := base ≤ N ∧ w.heap[N]? = some (.cells #[.int .i64 p, .int .i64 code] 129 (0, 0))
def ParseBad (w : World) (p : Nat) (e : Ending) (w' : World) : Prop :=
  ∃ N, e = .returned (.tuple #[evZero, .iface 127 (.pointer (some ⟨N, 0, none⟩))]) ∧ SpotAt w' w.heap.size N p 2 ∧ Below w.heap.size w w'
def ParseGood (w : World) (ev : Ev) (e : Ending) (w' : World) : Prop :=
  ∃ A c, e = .returned (.tuple #[evVal ev.name A ev.tags.length c ev.kind ev.value ev.time, .nilIface]) ∧ OwnT w' w.heap.size A c ev.tags ∧ Below w.heap.size w w'
def ParsePost (w : World) (r : Res) (e : Ending) (w' : World) : Prop :=
  match r with
  | .bad p => ParseBad w p e w'
  | .good ev => ParseGood w ev e w'

theorem parseLarge (s : ByteArray) (w : World) (hs : 300 < s.size) (hm : s.size ≤ 9223372036854775807) :
    Calls Tryz.prog 52 #[.string s] w fun e w' => e = .returned (.tuple #[evZero, .iface 33 (.int .i64 3)]) ∧ Below w.heap.size w w' := by
  have e1 : decide ((300 : Int) < s.size) = true := decide_eq_true (by omega)
  go_enter Tryz.func52, Tryz.ntmps52
  go_wp2_with fail
  refine bodyPost_ret (v := .tuple #[evZero, .iface 33 (.int .i64 3)]) (by simp [results, Tryz.results52, go_sem, evVal, evZero]) rfl ?_
  exact ⟨rfl, (Below.refl _ _).alloc (Nat.le_refl _) _⟩

theorem below_of_some {w w' : World} {b : Nat} (g : w.grownBy w' (some b)) (hb : w.heap.size ≤ b) : Below w.heap.size w w' :=
  ⟨g.os, g.tape, g.output, g.size, fun k hk => g.block k hk (fun e => by cases e; omega)⟩
theorem grown_drew1 {w w1 : World} {r : Option Nat} (g : w.grownBy w1 r) : w.grownBy w1.drew r := ⟨g.os, g.tape, g.output, g.size, g.block⟩
theorem grown_set5 {w w1 : World} {r : Option Nat} (h : w.grownBy w1 r) {g : Nat} (hg : w.heap.size ≤ g) (v0 v1 v2 v3 v4 : Value) :
    w.grownBy (((((w1.setCell ⟨g, 0, none⟩ v0).setCell ⟨g, 1, none⟩ v1).setCell ⟨g, 2, none⟩ v2).setCell ⟨g, 3, none⟩ v3).setCell ⟨g, 4, none⟩ v4) r :=
  grown_set (grown_set (grown_set (grown_set (grown_set h _ _ (Or.inr hg)) _ _ (Or.inr hg)) _ _ (Or.inr hg)) _ _ (Or.inr hg)) _ _ (Or.inr hg)
theorem new_block {x : World} {N : Nat} (o : Obj) (h : x.heap.size = N) : (x.alloc o).drew.heap[N]? = some o := by
  subst h; exact heap_alloc_new x o

set_option maxHeartbeats 1000000 in
theorem lineParse (s : ByteArray) (w : World) (hL : Laid w) (hs : s.size ≤ 300) :
    Calls Tryz.prog 52 #[.string s] w (ParsePost w (parseF s)) := by
  have hn := hL.n
  have e1 : decide ((300 : Int) < s.size) = false := decide_eq_false (by omega)
  have hR : Rd ((w.alloc (.cells #[.string ⟨#[]⟩, .slice none 0 0, .int .i64 0, .int .i64 0, .int .i64 0] 78)).alloc (.cells #[.string s, .int .i64 0] 125)) (w.heap.size + 1) s 0 := by
    have := heap_alloc_new (w.alloc (.cells #[.string ⟨#[]⟩, .slice none 0 0, .int .i64 0, .int .i64 0, .int .i64 0] 78)) (.cells #[.string s, .int .i64 0] 125)
    rw [World.size_alloc] at this
    exact this
  have C := Lib.hid (readEvent _ (w.heap.size + 1) s hR ((hL.alloc _).alloc _) (by omega) hs)
  clear hR
  go_enter Tryz.func52, Tryz.ntmps52
  go_wp2_with fail
  rcases hp : parseF s with p | ev
  · rw [hp] at C
    have HX := Lib.hid hp
    clear hp
    refine C.out.mono ?_
    rintro e w1 ⟨n, A, l, c, k, v, t, rfl, m1⟩
    unfold evVal
    have hE0 : EvB ((w.alloc (.cells #[.string ⟨#[]⟩, .slice none 0 0, .int .i64 0, .int .i64 0, .int .i64 0] 78)).alloc (.cells #[.string s, .int .i64 0] 125)) w.heap.size ⟨#[]⟩ none 0 0 0 0 0 := by
      unfold EvB
      rw [(World.grownBy_alloc _ _ none).block w.heap.size (by simp) (by simp)]
      exact heap_alloc_new w _
    have hE1 : EvB w1 w.heap.size ⟨#[]⟩ none 0 0 0 0 0 := hE0.grown m1.grown (by omega)
    have hB1 : w.grownBy w1 (some (w.heap.size + 1)) := grown_trans (grown_alloc (World.grownBy_alloc _ _ _) _) m1.grown
    have hz1 := lt_of_block m1.rd
    have HE1 := Lib.hid hE1
    have HB1 := Lib.hid hB1
    have M1 := Lib.hid m1
    clear m1 hE0 hE1 hB1
    go_wp2_with fail
    have M2 := Lib.hid (M1.out.alloc (.cells #[.string n, .slice A l c, .int .i64 k, .int .i64 v, .int .i64 t] 78))
    have E2 := Lib.hid (show EvB (w1.alloc (.cells #[.string n, .slice A l c, .int .i64 k, .int .i64 v, .int .i64 t] 78)) w.heap.size ⟨#[]⟩ none 0 0 0 0 0 from HE1.out.grown (b := w.heap.size + 1) (World.grownBy_alloc _ _ _) (by omega))
    have B2 := Lib.hid (grown_alloc HB1.out (.cells #[.string n, .slice A l c, .int .i64 k, .int .i64 v, .int .i64 t] 78))
    have hz2 : w.heap.size + 1 < (w1.alloc (.cells #[.string n, .slice A l c, .int .i64 k, .int .i64 v, .int .i64 t] 78)).heap.size := by simp; omega
    clear HE1 HB1 M1 hz1
    generalize w1.alloc (.cells #[.string n, .slice A l c, .int .i64 k, .int .i64 v, .int .i64 t] 78) = w2 at M2 E2 B2 hz2 ⊢
    have r1 := M2.out.rd.c1
    have c0 := E2.out.c0
    have c1 := E2.out.c1
    have c2 := E2.out.c2
    have c3 := E2.out.c3
    have c4 := E2.out.c4
    have f0 := E2.out.f 0
    have f1 := E2.out.f 1
    have f2 := E2.out.f 2
    have f3 := E2.out.f 3
    have f4 := E2.out.f 4
    have hz3 : w.heap.size < w2.heap.size := by omega
    go_region
    all_goals go_wp2_with fail
    all_goals
      refine bodyPost_ret (v := .tuple #[evZero, .iface 127 (.pointer (some ⟨w2.heap.size, 0, none⟩))]) (by simp [results, Tryz.results52, go_sem, evVal, evZero, c0, c1, c2, c3, c4, hz3]) rfl ?_
      rw [HX.out]
      exact ⟨w2.heap.size, rfl, ⟨by omega, new_block _ (by simp)⟩, below_of_some (grown_drew1 (grown_alloc (grown_set5 B2.out (Nat.le_refl _) _ _ _ _ _) _)) (Nat.le_succ _)⟩
  · rw [hp] at C
    have HX := Lib.hid hp
    clear hp
    refine C.out.mono ?_
    rintro e w1 ⟨A, c, p, rfl, m1, o1⟩
    unfold evVal
    have hE0 : EvB ((w.alloc (.cells #[.string ⟨#[]⟩, .slice none 0 0, .int .i64 0, .int .i64 0, .int .i64 0] 78)).alloc (.cells #[.string s, .int .i64 0] 125)) w.heap.size ⟨#[]⟩ none 0 0 0 0 0 := by
      unfold EvB
      rw [(World.grownBy_alloc _ _ none).block w.heap.size (by simp) (by simp)]
      exact heap_alloc_new w _
    have hE1 : EvB w1 w.heap.size ⟨#[]⟩ none 0 0 0 0 0 := hE0.grown m1.grown (by omega)
    have hB1 : w.grownBy w1 (some (w.heap.size + 1)) := grown_trans (grown_alloc (World.grownBy_alloc _ _ _) _) m1.grown
    have hz1 := lt_of_block m1.rd
    have hO1 : OwnT w1 (w.heap.size + 1) A c ev.tags := o1.mono (by simp)
    have HO1 := Lib.hid hO1
    have HB1 := Lib.hid hB1
    have c0 := hE1.c0
    have c1 := hE1.c1
    have c2 := hE1.c2
    have c3 := hE1.c3
    have c4 := hE1.c4
    have f0 := hE1.f 0
    have f1 := hE1.f 1
    have f2 := hE1.f 2
    have f3 := hE1.f 3
    have f4 := hE1.f 4
    have hz3 : w.heap.size < w1.heap.size := by omega
    clear m1 hE0 hE1 hB1 o1 hO1
    go_wp2_with fail
    refine bodyPost_ret (v := .tuple #[evVal ev.name A ev.tags.length c ev.kind ev.value ev.time, .nilIface]) (by simp [results, Tryz.results52, go_sem, evVal, c0, c1, c2, c3, c4, hz3]) rfl ?_
    rw [HX.out]
    exact ⟨A, c, rfl, ((OwnT.set5 HO1.out (Nat.lt_succ_self _) _ _ _ _ _).alloc _).mono (Nat.le_succ _), below_of_some (grown_alloc (grown_set5 HB1.out (Nat.le_refl _) _ _ _ _ _) _) (Nat.le_succ _)⟩
end Go.Proofs.YtedhciolnekpaaaGreatDoor
