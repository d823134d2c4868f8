/-
  Layer 20 (window): what holds two rows against each other: by their keys, then by their kinds.
-/
import Derived.Test.YtedhciolnekpaaaGreatDoorQWindowRow
import Derived.Test.YtedhciolnekpaaaGreatDoorShelf
import Derived.Shelf.SlSortCmp.WholeK
import Derived.Lib.Bytealg
import Derived.Deep.Cut
import Derived.Deep.CutRange
import Derived.Deep.RegionLaw
import Derived.Deep.QuietTactic
namespace Go.Proofs.YtedhciolnekpaaaGreatDoor
open Go.ChangeShapes Go.WideShapes Go.ChangeAt Go.RowKit Go.Sort Go.Shelf
set_option linter.unusedVariables false

def cmpZ (a b : Int) : Int := if a < b then -1 else if b < a then 1 else 0
def orZ (a b : Int) : Int := if a = 0 then b else a
/-- A row's cells. -/
def encW (x : RbW) : List Value := rowOf x.1 x.2.1 x.2.2
def cmpW (x y : RbW) : Int := orZ (Lib.compareBytes x.1.key.data.toList y.1.key.data.toList) (cmpZ x.1.kind y.1.kind)
instance : Inhabited RbW := ⟨(zeroR, none, 0)⟩
theorem cmpB_lt : ∀ a b : List UInt8, Lib.compareBytes a b < 0 ↔ a < b
  | [], [] => by simp [Lib.compareBytes]
  | [], _ :: _ => by simp [Lib.compareBytes]
  | _ :: _, [] => by simp [Lib.compareBytes]
  | x :: a, y :: b => by
    have ih := cmpB_lt a b
    unfold Lib.compareBytes
    rw [List.cons_lt_cons_iff]
    by_cases h1 : x < y
    · simp [h1]
    · by_cases h2 : y < x
      · have hne : x ≠ y := fun e => by subst e; exact absurd h2 (UInt8.lt_irrefl _)
        simp [h1, h2, hne]
      · have e : x = y := UInt8.le_antisymm (UInt8.not_lt.1 h2) (UInt8.not_lt.1 h1)
        subst e
        simp [h1, ih]
theorem cmpB_zero : ∀ a b : List UInt8, Lib.compareBytes a b = 0 ↔ a = b
  | [], [] => by simp [Lib.compareBytes]
  | [], _ :: _ => by simp [Lib.compareBytes]
  | _ :: _, [] => by simp [Lib.compareBytes]
  | x :: a, y :: b => by
    have ih := cmpB_zero a b
    unfold Lib.compareBytes
    by_cases h1 : x < y
    · have hne : x ≠ y := fun e => by subst e; exact absurd h1 (UInt8.lt_irrefl _)
      simp [h1, hne]
    · by_cases h2 : y < x
      · have hne : x ≠ y := fun e => by subst e; exact absurd h2 (UInt8.lt_irrefl _)
        simp [h1, h2, hne]
      · have e : x = y := UInt8.le_antisymm (UInt8.not_lt.1 h2) (UInt8.not_lt.1 h1)
        subst e
        simp [h1, ih]
/-- One row stands ahead of another. -/
def ltR (x y : RbW) : Bool := ltW (nmR x.1) (nmR y.1)
theorem ltOf_W : ltOf cmpW = ltR := by
  funext x y
  show decide (cmpW x y < 0) = ltR x y
  unfold ltR ltW cmpW orZ nmR
  simp only
  by_cases e : x.1.key = y.1.key
  · rw [if_pos e, if_pos ((cmpB_zero _ _).2 (by rw [e]))]
    unfold cmpZ
    by_cases h : x.1.kind < y.1.kind
    · rw [if_pos h]; simp [h]
    · rw [if_neg h]
      by_cases h' : y.1.kind < x.1.kind
      · rw [if_pos h']; simp [h]
      · rw [if_neg h']; simp [h]
  · have hz : ¬ Lib.compareBytes x.1.key.data.toList y.1.key.data.toList = 0 := fun h => e (key_eq ((cmpB_zero _ _).1 h))
    rw [if_neg e, if_neg hz]
    exact decide_eq_decide.2 (cmpB_lt _ _)
theorem swo_W : SWO ltR where
  irrefl x := ltW_irrefl _
  trans x y z h1 h2 := ltW_trans h1 h2
  ntrans x y z h1 h2 := by
    unfold ltR at *
    rcases ltW_tri (nmR x.1) (nmR z.1) with h | h | h
    · exfalso
      rcases ltW_tri (nmR x.1) (nmR y.1) with k | k | k
      · rw [h1] at k; cases k
      · rw [k, h2] at h; cases h
      · have := ltW_trans k h
        rw [h2] at this; cases this
    · rw [h]; exact ltW_irrefl _
    · exact ltW_asymm h
theorem nanZ (x : Int) (w : World) : Calls Tryz.prog 48 #[.int .i64 x] w fun e w' => e = .returned (.bool false) ∧ w' = w := by
  go_enter Tryz.func48, Tryz.ntmps48
  go_wp2_with fail
  go_ret
  exact ⟨by simp, rfl⟩
set_option maxRecDepth 100000 in
theorem cmpZ_walk (x y : Int) (w : World) : Calls Tryz.prog 37 #[.int .i64 x, .int .i64 y] w fun e w' => e = .returned (.int .i64 (cmpZ x y)) ∧ w' = w := by
  have C1 := Lib.hid (nanZ x w)
  have C2 := Lib.hid (nanZ y w)
  unfold cmpZ
  by_cases h : x < y
  · have HE : Hid ((if x < y then (-1 : Int) else if y < x then 1 else 0) = -1) := Lib.hid (if_pos h)
    go_enter Tryz.func37, Tryz.ntmps37
    go_wp2_with fail
    refine C1.out.mono ?_
    rintro e w1 ⟨rfl, rfl⟩
    go_wp2_with fail
    refine C2.out.mono ?_
    rintro e w1 ⟨rfl, rfl⟩
    go_wp2_with fail
    go_ret
    exact ⟨rfl, rfl⟩
  · by_cases h' : y < x
    · have HE : Hid ((if x < y then (-1 : Int) else if y < x then 1 else 0) = 1) := Lib.hid (by rw [if_neg h, if_pos h'])
      go_enter Tryz.func37, Tryz.ntmps37
      go_wp2_with fail
      refine C1.out.mono ?_
      rintro e w1 ⟨rfl, rfl⟩
      go_wp2_with fail
      refine C2.out.mono ?_
      rintro e w1 ⟨rfl, rfl⟩
      go_wp2_with fail
      go_ret
      exact ⟨rfl, rfl⟩
    · have HE : Hid ((if x < y then (-1 : Int) else if y < x then 1 else 0) = 0) := Lib.hid (by rw [if_neg h, if_neg h'])
      go_enter Tryz.func37, Tryz.ntmps37
      go_wp2_with fail
      refine C1.out.mono ?_
      rintro e w1 ⟨rfl, rfl⟩
      go_wp2_with fail
      refine C2.out.mono ?_
      rintro e w1 ⟨rfl, rfl⟩
      go_wp2_with fail
      go_ret
      exact ⟨rfl, rfl⟩
set_option maxRecDepth 100000 in
theorem orZ_walk (x y : Int) (g : Nat) (w : World) (c0 : w.cell? ⟨g, 0, none⟩ = some (.int .i64 x)) (c1 : w.cell? ⟨g, 1, none⟩ = some (.int .i64 y)) :
    Calls Tryz.prog 35 #[.slice (some ⟨g, 0, none⟩) 2 2] w fun e w' => e = .returned (.int .i64 (orZ x y)) ∧ w' = w := by
  unfold orZ
  by_cases h : x = 0
  · by_cases h' : y = 0
    · subst h h'
      go_enter Tryz.func35, Tryz.ntmps35
      go_wp2_with fail
      refine wp_loop_rounds 3 ?_
      rw [rounds_succ]
      go_wp2_with fail
      rw [rounds_succ]
      go_wp2_with fail
      rw [rounds_succ]
      go_wp2_with fail
      go_ret
      exact ⟨rfl, rfl⟩
    · subst h
      go_enter Tryz.func35, Tryz.ntmps35
      go_wp2_with fail
      refine wp_loop_rounds 2 ?_
      rw [rounds_succ]
      go_wp2_with fail
      rw [rounds_succ]
      go_wp2_with fail
      go_ret
      exact ⟨rfl, rfl⟩
  · have HE : Hid ((if x = 0 then y else x) = x) := Lib.hid (if_neg h)
    go_enter Tryz.func35, Tryz.ntmps35
    go_wp2_with fail
    refine wp_loop_rounds 1 ?_
    rw [rounds_succ]
    go_wp2_with fail
    go_ret
    exact ⟨rfl, rfl⟩
theorem third_new (W : World) (o1 o2 o3 : Obj) : (((W.alloc o1).alloc o2).alloc o3).heap[W.heap.size + 1 + 1]? = some o3 := by
  have h := heap_alloc_new ((W.alloc o1).alloc o2) o3
  rw [World.size_alloc, World.size_alloc] at h
  exact h
theorem third_0 (W : World) (o1 o2 : Obj) (v0 v1 : Value) (t : TypeId) : (((W.alloc o1).alloc o2).alloc (.cells #[v0, v1] t)).drew.cell? ⟨W.heap.size + 1 + 1, 0, none⟩ = some v0 := cell_of_block (w := ((W.alloc o1).alloc o2).alloc (.cells #[v0, v1] t)) (third_new W o1 o2 _)
theorem third_1 (W : World) (o1 o2 : Obj) (v0 v1 : Value) (t : TypeId) : (((W.alloc o1).alloc o2).alloc (.cells #[v0, v1] t)).drew.cell? ⟨W.heap.size + 1 + 1, 1, none⟩ = some v1 := cell_of_block (w := ((W.alloc o1).alloc o2).alloc (.cells #[v0, v1] t)) (third_new W o1 o2 _)
theorem grow3 (W : World) (o1 o2 o3 : Obj) : ∃ q os', ((W.alloc o1).alloc o2).alloc o3 = Go.Sort.grow (W.drewN q) os' := ⟨0, _, by rw [alloc_eq_grow, alloc_eq_grow, alloc_eq_grow, grow_grow, grow_grow]; rfl⟩
theorem grow3d (W : World) (o1 o2 o3 : Obj) : ∃ q os', (((W.alloc o1).alloc o2).alloc o3).drew = Go.Sort.grow (W.drewN q) os' := ⟨1, _, by rw [alloc_eq_grow, alloc_eq_grow, alloc_eq_grow, grow_grow, grow_grow, drew_grow]; rfl⟩
set_option maxHeartbeats 1000000 in
set_option maxRecDepth 100000 in
theorem byKeyW (x y : RbW) (W : World) :
    Calls Tryz.prog 34 #[.agg (encW x).toArray, .agg (encW y).toArray] W fun e w' => e = .returned (.int .i64 (cmpW x y)) ∧ ∃ q os', w' = Go.Sort.grow (W.drewN q) os' := by
  have C1 := Lib.hid (fun W' => Tryz.strings_Compare x.1.key y.1.key W')
  have C2 := Lib.hid (fun W' => cmpZ_walk x.1.kind y.1.kind W')
  unfold cmpW
  obtain ⟨r1, hr1⟩ : ∃ r1, Lib.compareBytes x.1.key.data.toList y.1.key.data.toList = r1 := ⟨_, rfl⟩
  obtain ⟨r2, hr2⟩ : ∃ r2, cmpZ x.1.kind y.1.kind = r2 := ⟨_, rfl⟩
  rw [hr1] at C1 ⊢
  rw [hr2] at C2 ⊢
  have C3 := Lib.hid (fun g W' c0 c1 => orZ_walk r1 r2 g W' c0 c1)
  unfold encW rowOf
  clear hr1 hr2
  go_enter Tryz.func34, Tryz.ntmps34
  go_wp2_with fail
  go_region_law (first
    | (go_simp; go_at_call 36; refine (C1.out _).mono ?_; rintro e w' ⟨rfl, rfl⟩)
    | (go_simp; go_at_call 37; refine (C2.out _).mono ?_; rintro e w' ⟨rfl, rfl⟩)
    | (go_simp; go_at_call 35; refine (C3.out _ _ (third_0 _ _ _ _ _ _) (third_1 _ _ _ _ _ _)).mono ?_; rintro e w' ⟨rfl, rfl⟩)
    | fail)
  all_goals go_wp2_with fail
  all_goals go_ret
  all_goals exact ⟨rfl, by first | exact grow3d W _ _ _ | exact grow3 W _ _ _⟩
theorem cmpLaysW (blk off size : Nat) (w : World) : CmpLays Tryz.prog 34 #[] encW 8 cmpW blk off size w := fun _ _ _ _ x y => byKeyW x y _
theorem enterW : ∀ args w, (callFunc 34 args).run Tryz.prog w = .ok (.enter 34 args) w := enters_of Tryz.func34 (by kernel_rfl) rfl
end Go.Proofs.YtedhciolnekpaaaGreatDoor
