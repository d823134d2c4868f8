/-
  Layer 15 (sample): slices.IsSorted at whole numbers; whether a class's thresholds may be.
-/
import Derived.Test.YtidpldnkpacobaaSamplePure
import Derived.Test.YtidpldnkpacobaaRowsQ
import Derived.Test.YtidpldnkpacobaaEqlCode
import Derived.Test.YtidpldnkpacobaaMixLaws
import Derived.Deep.LoopGhost
import Derived.BigQuiet
namespace Go.Proofs.Ytidpldnkpacobaa
open Go.ChangeShapes Go.WideShapes Go.ChangeAt Go.RowKit Go.Deep
set_option linter.unusedVariables false

/-- It answers so, and turns nothing that was there. -/
def Tells (r : Value) (w : World) (e : Ending) (w' : World) : Prop := e = .returned r ∧ Below w.heap.size w w'
theorem Tells.from {r : Value} {W w : World} {e : Ending} {w' : World} (h : Tells r w e w') (b : Below W.heap.size W w) : Tells r W e w' := ⟨h.1, b.trans (h.2.mono b.size)⟩
theorem bel_drewS {w : World} {w' : World} (h : Below w.heap.size w w') (n : Nat) : Below w.heap.size w (w'.drewN n) := ⟨h.os, h.tape, h.output, h.size, h.block⟩
theorem RdM.still {w w' : World} {E : Nat → Prop} {A : Option Addr} {ls : List (List Int)} (h : RdM w E A ls) (b : Below w.heap.size w w') : RdM w' E A ls := by
  rcases h with rfl | ⟨b0, o, e, hb, hc⟩
  · exact .inl rfl
  · refine .inr ⟨b0, o, e, hb, fun i l hi => ?_⟩
    obtain ⟨B, c, h1, h2⟩ := hc i l hi
    exact ⟨B, c, by rw [b.cell (World.block_lt_of_cell? w _ h1)]; exact h1, h2.still b⟩
theorem at_some {α : Type} {l : List α} {i : Nat} (h : i < l.length) : ∃ x, l[i]? = some x := ⟨_, List.getElem?_eq_getElem h⟩

theorem nan_int (x : Int) (w : World) : Calls Try.prog 20 #[.int .i64 x] w fun e w' => e = .returned (.bool false) ∧ w' = w := by
  have z : (x != x) = false := by simp
  go_enter Try.func20, Try.ntmps20
  go_wp2_with fail
  go_ret
  exact ⟨ret_bool (by simp), rfl⟩
theorem less_int (x y : Int) (w : World) : Calls Try.prog 18 #[.int .i64 x, .int .i64 y] w fun e w' => e = .returned (.bool (decide (x < y))) ∧ w' = w := by
  have C := Lib.hid (fun z => nan_int z w)
  go_enter Try.func18, Try.ntmps18
  go_wp2_with fail
  refine (C.out x).mono ?_
  rintro e w1 ⟨rfl, rfl⟩
  go_wp2_with fail
  go_ret
  exact ⟨rfl, rfl⟩
section
variable {w w' : World} {E : Nat → Prop} {A : Option Addr} {cap : Nat} {l : List Int}
set_option maxRecDepth 100000 in
theorem sorted_walk (h : RdQ w E A cap l) (h1 : 1 ≤ l.length) (hl : l.length ≤ 9223372036854775807) :
    Calls Try.prog 16 #[.slice A l.length cap] w (Tells (.bool (sortedB l)) w) := by
  have HR := Lib.hid h
  obtain ⟨N, hN⟩ : ∃ N, l.length = N := ⟨_, rfl⟩
  have HN := Lib.hid hN
  rw [hN] at hl h1 ⊢
  clear h hN
  have CL := Lib.hid (fun x y (n : Nat) => less_int x y (w.drewN n))
  obtain ⟨M, rfl⟩ : ∃ M, N = M + 1 := ⟨N - 1, by omega⟩
  have z0 : ((M + 1 : Nat) : Int) - 1 = (M : Int) := by omega
  go_enter Try.func16, Try.ntmps16
  go_wp2_with fail
  go_loopg [3] M (fun g s3 wx => g ≤ M ∧ s3 = .int .i64 (g : Nat) ∧ Hid (∀ j, g ≤ j → j + 1 < l.length → l.getD j 0 ≤ l.getD (j + 1) 0) ∧ Hid (Below w.heap.size w wx))
  case atStart => exact ⟨Nat.le_refl _, by go_num, Lib.hid (fun j h1 h2 => by have := HN.out; omega), Lib.hid (Below.refl _ _)⟩
  case round =>
    obtain ⟨hg, rfl, HG, HW⟩ := hrel
    by_cases hgk : gk = 0
    · subst hgk
      go_wp2_with fail
      go_ret
      exact ⟨ret_bool (sorted_iff.2 (fun j hj => HG.out j (Nat.zero_le _) hj)).symm, HW.out⟩
    · obtain ⟨g, hg1⟩ : ∃ g, gk = g + 1 := ⟨gk - 1, by omega⟩
      obtain ⟨x, hx⟩ := at_some (l := l) (i := g) (by have := HN.out; omega)
      obtain ⟨y, hy⟩ := at_some (l := l) (i := gk) (by have := HN.out; omega)
      obtain ⟨b, o, rfl, c0, _⟩ := (HR.out.still HW.out).at hx
      obtain ⟨b', o', e, c1, _⟩ := (HR.out.still HW.out).at hy
      cases e
      have HX := Lib.hid hx
      have HY := Lib.hid hy
      have z1 : (gk : Int) - 1 = (g : Int) := by omega
      have z5 : IntKind.i64.wrap (g : Int) = (g : Int) := by rw [IntKind.wrap_i64]; omega
      have z2 : (0 : Int) < gk := by omega
      have z3 : (gk : Int) < (M : Int) + 1 := by omega
      have z4 : (g : Int) < (M : Int) + 1 := by omega
      have HG1 := Lib.hid hg1
      clear hx hy hg1
      have HC : Hid (∀ wx : World, Calls Try.prog 18 #[.int .i64 y, .int .i64 x] wx fun e w' => e = .returned (.bool (decide (y < x))) ∧ w' = wx) := Lib.hid (fun wx => less_int y x wx)
      by_cases hyx : y < x
      · have HB : Hid (sortedB l = false) := Lib.hid (sorted_no (j := g) (by have := HN.out; have := HG1.out; omega) (by rw [getD_some HX.out, ← HG1.out, getD_some HY.out]; exact hyx))
        rw [decide_eq_true hyx] at HC
        go_wp2_with fail
        go_quiet ((go_at_call 18; exact Calls.quiet_of_same (HC.out _)))
        go_wp2_with fail
        go_ret
        exact ⟨ret_bool HB.out.symm, bel_drewS HW.out _⟩
      · rw [decide_eq_false hyx] at HC
        go_wp2_with fail
        go_quiet ((go_at_call 18; exact Calls.quiet_of_same (HC.out _)))
        go_wp2_with fail
        go_roundg g
        case rel => exact ⟨by have := HG1.out; omega, by go_num, Lib.hid (fun j h1 h2 => by
          by_cases e : j = g
          · subst e; rw [getD_some HX.out, ← HG1.out, getD_some HY.out]; omega
          · exact HG.out j (by have := HG1.out; omega) h2), Lib.hid (bel_drewS HW.out _)⟩
        case measure => have := HG1.out; omega
set_option maxRecDepth 100000 in
theorem rises_walk (h : RdQ w E A cap l) (h1 : 1 ≤ l.length) (hl : l.length ≤ 9223372036854775807) :
    Calls Try.prog 12 #[.slice A l.length cap] w (Tells (.bool (riseB l)) w) := by
  have HR := Lib.hid h
  have CS := Lib.hid (sorted_walk h h1 hl)
  obtain ⟨N, hN⟩ : ∃ N, l.length = N := ⟨_, rfl⟩
  have HN := Lib.hid hN
  obtain ⟨x, hx⟩ := at_some (l := l) (i := 0) (by omega)
  obtain ⟨y, hy⟩ := at_some (l := l) (i := N - 1) (by omega)
  have HX := Lib.hid (getD_some (d := 0) hx)
  have HY := Lib.hid (getD_some (d := 0) hy)
  have HE : Hid (riseB l = (decide (x = 0) && sortedB l && decide (y ≤ 65536))) := Lib.hid (by unfold riseB; rw [HN.out, HX.out, HY.out])
  obtain ⟨b, o, rfl, c0, _⟩ := h.at hx
  rw [Nat.add_zero] at c0
  have HYY := Lib.hid hy
  rw [hN] at hl h1 CS ⊢
  obtain ⟨M, rfl⟩ : ∃ M, N = M + 1 := ⟨N - 1, by omega⟩
  rw [Nat.add_sub_cancel] at HYY
  have z0 : ((M : Int) + 1) - 1 = (M : Int) := by omega
  have z5 : IntKind.i64.wrap (M : Int) = (M : Int) := by rw [IntKind.wrap_i64]; omega
  have z3 : (M : Int) < (M : Int) + 1 := by omega
  have z4 : (0 : Int) < (M : Int) + 1 := by omega
  clear h hN hx hy
  by_cases e0 : x = 0
  case neg =>
    have HB : Hid (riseB l = false) := Lib.hid (by rw [HE.out, decide_eq_false e0]; rfl)
    have y0 : (x == 0) = false := beq_eq_false_iff_ne.2 e0
    go_enter Try.func12, Try.ntmps12
    go_wp2_with fail
    go_ret
    exact ⟨ret_bool HB.out.symm, Below.refl _ _⟩
  subst e0
  cases hs : sortedB l with
  | false =>
    rw [hs] at CS
    have HB : Hid (riseB l = false) := Lib.hid (by rw [HE.out, hs]; simp)
    clear hs
    go_enter Try.func12, Try.ntmps12
    go_wp2_with fail
    refine CS.out.mono ?_
    rintro e w1 ⟨rfl, b1⟩
    go_wp2_with fail
    go_ret
    exact ⟨ret_bool HB.out.symm, b1⟩
  | true =>
    rw [hs] at CS
    have HB : Hid (riseB l = decide (y ≤ 65536)) := Lib.hid (by rw [HE.out, hs]; simp)
    clear hs
    go_enter Try.func12, Try.ntmps12
    go_wp2_with fail
    refine CS.out.mono ?_
    rintro e w1 ⟨rfl, b1⟩
    obtain ⟨b', o', e, c1, _⟩ := (HR.out.still b1).at HYY.out
    cases e
    go_wp2_with fail
    go_ret
    exact ⟨ret_bool HB.out.symm, b1⟩
end
end Go.Proofs.Ytidpldnkpacobaa
