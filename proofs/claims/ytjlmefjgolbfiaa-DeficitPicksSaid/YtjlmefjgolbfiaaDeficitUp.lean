/-
  Layer 12 (deficit): the document's example.
-/
import Derived.Test.YtjlmefjgolbfiaaDeficitSome
import Derived.Test.YtjlmefjgolbfiaaEqlCode
namespace Go.Proofs.Ytjlmefjgolbfiaa
open Go.ChangeShapes Go.WideShapes Go.ChangeAt Go.RowKit
set_option linter.unusedVariables false

section
variable {w w' : World} {E : Nat → Prop} {a : Nat} {A : Option Addr} {cap : Nat} {vc : Value} {s : Tn}
/-- A row of two numbers, just laid. -/
theorem two_row (w : World) (x y : Int) (E : Nat → Prop) (hE : ¬ E w.heap.size) : RdQ (w.alloc (.cells #[.int .i64 x, .int .i64 y] 3)) E (some ⟨w.heap.size, 0, none⟩) 2 [x, y] :=
  ⟨Nat.le_refl _, (fun e => by cases e), fun ad ha _ => by
    cases ha
    refine ⟨_, _, rfl, fun j z hz => ⟨?_, hE⟩⟩
    have hb := heap_alloc_new w (.cells #[.int .i64 x, .int .i64 y] 3)
    match j, hz with
    | 0, hz => cases hz; rw [cell_of_block hb]; rfl
    | 1, hz => cases hz; rw [cell_of_block hb]; rfl⟩
theorem ok11 : Qok [1, 1] := ⟨by simp, by simp, fun i x hx => by
  have := List.mem_of_getElem? hx
  simp at this
  omega⟩
theorem cost2 (x y : Int) (hx : 0 ≤ x) (hx1 : x ≤ 1000) (hy : 0 ≤ y) (hy1 : y ≤ 1000) : Lok [1, 1] [x, y] := ⟨rfl, fun i z hz => by
  have := List.mem_of_getElem? hz
  simp at this
  omega⟩
/-- The turns of the example: at their start, behind one pick, behind two. -/
def up0 : Tn := ⟨[0, 0], 0, false⟩
def up1 : Tn := ⟨[0, 0], 0, true⟩
def up2 : Tn := ⟨[0, 0], 1, true⟩
theorem up0_ok : Tok [1, 1] up0 := new_tok ok11
theorem goes01 : Goes [1, 1] [1, 1] 0 up0 up1 := by show stepT _ _ _ = _; rfl
theorem goes12 : Goes [1, 1] [1, 1] 1 up1 up2 := ⟨⟨[0, 0], 1, false⟩, rfl, by show stepT _ _ _ = _; rfl⟩
theorem up1_ok : Tok [1, 1] up1 := step_tok up0_ok (cost2 1 1 (by omega) (by omega) (by omega) (by omega)) goes01
theorem up2_ok : Tok [1, 1] up2 := step_tok (s := ⟨[0, 0], 1, false⟩) (step_tok up1_ok (cost2 1 1 (by omega) (by omega) (by omega) (by omega)) (show stepT [1, 1] [1, 1] up1 = (false, ⟨[0, 0], 1, false⟩) from rfl)) (cost2 1 1 (by omega) (by omega) (by omega) (by omega)) (show stepT [1, 1] [1, 1] ⟨[0, 0], 1, false⟩ = (true, up2) from rfl)
/-- All that is written of turns: their own blocks. -/
def Own2 (a : Nat) (vc : Value) (g : Nat) : Prop := g = a ∨ vc.ownBlock = some g
theorem tight (h : Tg 44 w E a A cap vc [1, 1] s) : Tg 44 w (Own2 a vc) a A cap vc [1, 1] s := ⟨h.blk, h.row, h.rd.less (fun g hg _ => h.inE g hg), fun g hg => hg⟩
theorem own2_lt (h : Tg 44 w E a A cap vc [1, 1] s) : ¬ Own2 a vc w.heap.size := fun e => by
  rcases e with e | e
  · have := h.lt; omega
  · have := (World.ownsRow.lt h.row _ e).2; omega
theorem pick11 (h : Tg 44 w (Own2 a vc) a A cap vc [1, 1] s) (ok : Tok [1, 1] s) {n : Nat} {s' : Tn} (hg : Goes [1, 1] [1, 1] n s s') :
    Calls Try.prog 7 #[.pointer (some ⟨a, 0, none⟩), .slice (some ⟨w.heap.size, 0, none⟩) 2 2] (w.alloc (.cells #[.int .i64 1, .int .i64 1] 3)) fun e w' =>
      e = .returned (.tuple #[.int .i64 (s'.k : Nat), .nilIface]) ∧ Tg 44 w' (Own2 a vc) a A cap vc [1, 1] s' ∧ Mt a vc w w' :=
  (pick_some (h.still (bel_alloc (Below.refl _ _) _)) ok (two_row w 1 1 _ (own2_lt h)) (cost2 1 1 (by omega) (by omega) (by omega) (by omega)) ⟨1, by simp, by omega⟩ hg).mono
    fun e w' h2 => ⟨h2.1, h2.2.1, Mt.trans (Keeps.of_below (bel_alloc (Below.refl _ _) _) (Nat.le_refl _) _) h2.2.2⟩
theorem pick00 (h : Tg 44 w (Own2 a vc) a A cap vc [1, 1] s) (ok : Tok [1, 1] s) :
    Calls Try.prog 7 #[.pointer (some ⟨a, 0, none⟩), .slice (some ⟨w.heap.size, 0, none⟩) 2 2] (w.alloc (.cells #[.int .i64 0, .int .i64 0] 3)) fun e w' =>
      e = .returned (.tuple #[.int .i64 (-1), .nilIface]) ∧ Mt a vc w w' :=
  (pick_none (h.still (bel_alloc (Below.refl _ _) _)) ok (two_row w 0 0 _ (own2_lt h)) (cost2 0 0 (by omega) (by omega) (by omega) (by omega)) (fun x hx => by simp at hx; omega)).mono
    fun e w' h2 => ⟨h2.1, Mt.trans (Keeps.of_below (bel_alloc (Below.refl _ _) _) (Nat.le_refl _) _) h2.2.2⟩
theorem mt_below {W w w' : World} (b : Below W.heap.size W w) (m : Mt a vc w w') (ha : W.heap.size ≤ a) (hv : ∀ g, vc.ownBlock = some g → W.heap.size ≤ g) : Below W.heap.size W w' :=
  b.trans (Keeps.below m (fun g hg => by rcases hg with rfl | hg; exact ha; exact hv g hg) b.size)
set_option maxRecDepth 100000 in
set_option maxHeartbeats 1000000 in
theorem up_deficit (w : World) : Calls Try.prog 4 #[] w (Holds w) := by
  have CN := Lib.hid (newT_good (two_row w 1 1 (fun _ => False) (fun e => e)) ok11)
  have CB := Lib.hid (fun w => newT_bad (RdQ.nil w (fun _ => False)) (by simp) (show rightB [] = false by decide))
  unfold errT at CB
  have eqc := eql_codes
  go_enter Try.func4, Try.ntmps4
  go_wp2_with fail
  refine CN.out.mono ?_
  rintro e w1 ⟨a, gq, A, cap, vc, rfl, T1, b1, _⟩
  have sz : (w.alloc (.cells #[.int .i64 1, .int .i64 1] 3)).heap.size = w.heap.size + 1 := by simp
  have ha := Lib.hid (show w.heap.size ≤ a by have := (T1.inE a (.inl rfl)).1; omega)
  have hv := Lib.hid (show ∀ g, vc.ownBlock = some g → w.heap.size ≤ g from fun g hg => by have := (T1.inE g (.inr hg)).1; omega)
  have B1 : Hid (Below w.heap.size w w1) := Lib.hid ((bel_alloc (Below.refl _ w) _).trans (b1.mono (by omega)))
  have T0 := Lib.hid (tight T1)
  clear T1 b1 CN sz
  go_wp2_with fail
  refine (CB.out _).mono ?_
  rintro e w2 ⟨rfl, b2⟩
  have B2 := Lib.hid (B1.out.trans (b2.mono B1.out.size))
  have T2 := Lib.hid (T0.out.still b2)
  have P1 := Lib.hid (pick11 T2.out up0_ok goes01)
  clear CB b2 B1 T0
  go_wp2_with fail
  refine P1.out.mono ?_
  rintro e w3 ⟨rfl, T3, m3⟩
  have B3 := Lib.hid (mt_below B2.out m3 ha.out hv.out)
  have P2 := Lib.hid (pick11 T3 up1_ok goes12)
  clear P1 T3 m3 B2 T2
  go_wp2_with fail
  refine P2.out.mono ?_
  rintro e w4 ⟨rfl, T4, m4⟩
  have B4 := Lib.hid (mt_below B3.out m4 ha.out hv.out)
  have P3 := Lib.hid (pick00 T4 up2_ok)
  clear P2 T4 m4 B3
  go_wp2_with fail
  refine P3.out.mono ?_
  rintro e w5 ⟨rfl, m5⟩
  have B5 := Lib.hid (mt_below B4.out m5 ha.out hv.out)
  have e1 : up1.k = 0 := rfl
  have e2 : up2.k = 1 := rfl
  clear P3 m5 B4
  go_wp2_with fail
  go_ret
  exact ⟨rfl, B5.out⟩
end
end Go.Proofs.Ytjlmefjgolbfiaa
