/-
  Layer 20 (window): the head of its laws.
-/
import Derived.Test.YtedhciolnekpaaaGreatDoorQWindowAddR
import Derived.Test.YtedhciolnekpaaaGreatDoorQWindowCloseP
import Derived.Test.YtedhciolnekpaaaGreatDoorGrpH
namespace Go.Proofs.YtedhciolnekpaaaGreatDoor
open Go.ChangeShapes Go.WideShapes Go.ChangeAt Go.RowKit
set_option linter.unusedVariables false

def tU : Tb := ⟨10, 1, 1, 0⟩
def keyA : ByteArray := ⟨#[97]⟩
def pU : PtW := ⟨20, (keyA, 1), 5⟩
theorem good_tU : GoodT tU := ⟨by decide, by decide, by decide, by decide, by decide, by decide, by decide, by decide⟩
theorem bad_tU : ¬ GoodT ⟨0, 1, 1, 0⟩ := fun h => by have := h.w1; simp at this
theorem cap_tU0 : CapW tU [] := ⟨by decide, fun s => by show (0 : Int) ≤ 1; omega⟩
theorem starts_pU : startsW [pU] = [20] := rfl
theorem cap_tU1 : CapW tU [pU] := ⟨by rw [starts_pU]; decide, fun s => by have := rows_le s [pU]; show ((rowsW s [pU]).length : Int) ≤ 1; simp at this; omega⟩
theorem keyA_ok : keyOk keyA = true := by kernel_rfl
theorem ask_U : AskT (keyOk keyA) 1 25 := ⟨keyA_ok, by decide, by decide, by decide, by decide⟩
theorem start_U : startOf tU.wd 25 = 20 := by decide
theorem pt_U : ∀ p ∈ [pU], PtOk p := fun p hp => by
  rw [List.mem_singleton] at hp
  subst hp
  exact ⟨by decide, by decide, ⟨by decide, by decide⟩⟩
theorem full_U : ¬ fullW tU (keyA, 1) 20 [] := fun h => by
  rcases h with ⟨_, h⟩ | ⟨_, h⟩
  · exact absurd h (by decide)
  · exact absurd h (by decide)
section
variable {N : Nat} {w w' : World} {a bm : Nat} {e : Ending}
theorem add_U1 (h : AddP N w a bm tU [] (keyOk keyA) (keyA, 1) 1 25 5 0 e w') : e = .returned .nilIface ∧ GotP N w a bm tU [pU] w' := by
  unfold AddP at h
  rw [start_U] at h
  rcases h with ⟨h, _⟩ | ⟨_, h, _⟩ | ⟨_, _, h, _⟩ | ⟨_, _, _, h1, h2⟩
  · exact absurd ask_U h
  · exact absurd h (by decide)
  · exact absurd h full_U
  · exact ⟨h1, h2⟩
theorem add_U2 (h : AddP N w a bm tU [pU] (keyOk keyA) (keyA, 1) 1 25 5 30 e w') : e = .returned (errW 8) ∧ GotP N w a bm tU [pU] w' := by
  unfold AddP at h
  rw [start_U] at h
  rcases h with ⟨h, _⟩ | ⟨_, _, h1, h2⟩ | ⟨_, h, _⟩ | ⟨_, h, _⟩
  · exact absurd ask_U h
  · exact ⟨h1, h2⟩
  · exact absurd (by decide) h
  · exact absurd (by decide) h
theorem close_U (h : CloseP N w a bm tU [pU] 30 e w') : ∃ (D : Option Addr) (d : Nat) (blk : Int → Nat), e = .returned (.tuple #[btVal 0 20 D 1 d, .bool true]) ∧ Tq N w' a bm { tU with sq := 1 } (leftW 20 [pU]) blk ∧ Kq N w w' := by
  rcases h with ⟨h, _⟩ | ⟨s, K, ys, D, d, blk, hs, _, he, hy, _, hT, hk⟩
  · exact absurd (by decide) (h 20 [] starts_pU)
  · rw [starts_pU] at hs
    cases hs
    have hl : ys.length = 1 := by rw [← List.length_map (f := fun x : RbW => x.1), hy]; rfl
    rw [hl] at he
    exact ⟨D, d, blk, he, hT, hk⟩
end
theorem Kq.blw {N : Nat} {w w' : World} (h : Kq N w w') (hN : N ≤ w.heap.size) : Below N w w' := Keeps.below h (fun g hg => hg.1) hN
set_option maxRecDepth 100000 in
set_option maxHeartbeats 1000000 in
theorem up_window (w : World) (hL : Laid w) : Calls Tryz.prog 5 #[] w (Holds w) := by
  have CN := Lib.hid (fun w => newW_good w good_tU (fun _ => 0))
  have CB := Lib.hid (fun w => newW_bad w bad_tU)
  have HL := Lib.hid hL
  unfold errW at CB
  have eqc := eql_codes
  simp only [tU] at CN
  clear hL
  go_enter Tryz.func5, Tryz.ntmps5
  go_wp2_with fail
  refine (CN.out _).mono ?_
  rintro e w1 ⟨a, bm, rfl, h1, b1⟩
  have B1 := Lib.hid b1
  have A1 := Lib.hid (add_walk20 (t := tU) (key := keyA) (kd := 1) (time := 25) (val := 5) (mark := 0) h1 (HL.out.below b1) (by decide) good_tU.u cap_tU0 ⟨by decide, by decide⟩ (by decide) (fun p hp => by simp at hp))
  have HN1 := Lib.hid b1.size
  unfold keyA at A1
  clear CN h1 b1
  go_wp2_with fail
  refine (CB.out _).mono ?_
  rintro e w2 ⟨rfl, rfl⟩
  clear CB
  go_wp2_with fail
  refine A1.out.mono ?_
  rintro e w2 ha
  obtain ⟨rfl, blk2, T2, k2⟩ := add_U1 ha
  have b2 := B1.out.trans (k2.blw HN1.out)
  have B2 := Lib.hid b2
  have A2 := Lib.hid (add_walk20 (t := tU) (key := keyA) (kd := 1) (time := 25) (val := 5) (mark := 30) T2 (HL.out.below b2) (by decide) good_tU.u cap_tU1 ⟨by decide, by decide⟩ (by decide) pt_U)
  unfold keyA at A2
  clear ha T2 k2 b2 A1
  go_wp2_with fail
  refine A2.out.mono ?_
  rintro e w3 ha
  obtain ⟨rfl, blk3, T3, k3⟩ := add_U2 ha
  have b3 := B2.out.trans (k3.blw B2.out.size)
  have B3 := Lib.hid b3
  have A3 := Lib.hid (close_walk20 (mark := 30) T3 (by decide) (fun s hs => by rw [starts_pU] at hs; simp at hs; subst hs; exact ⟨by decide, by decide⟩) (by decide) (by decide) (by decide) (by decide))
  unfold errW
  clear ha T3 k3 b3 A2
  go_wp2_with fail
  refine A3.out.mono ?_
  rintro e w4 ha
  obtain ⟨D, d, blk4, rfl, T4, k4⟩ := close_U ha
  have b4 := B3.out.trans (k4.blw B3.out.size)
  have B4 := Lib.hid b4
  have A4 := Lib.hid (fun wx (hx : Below w4.heap.size w4 wx) => seq_walk20 (T4.below hx))
  unfold btVal
  clear ha T4 k4 b4 A3
  go_wp2_with fail
  refine (A4.out _ ((Below.refl _ w4).alloc (Nat.le_refl _) _)).mono ?_
  rintro e w5 ⟨rfl, rfl⟩
  clear A4
  go_wp2_with fail
  go_ret
  exact ⟨rfl, B4.out.trans (((Below.refl _ w4).alloc (Nat.le_refl _) _).mono B4.out.size)⟩
end Go.Proofs.YtedhciolnekpaaaGreatDoor
