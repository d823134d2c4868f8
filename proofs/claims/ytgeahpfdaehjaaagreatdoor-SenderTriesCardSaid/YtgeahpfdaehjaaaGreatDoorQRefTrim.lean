/-
  Layer 9, the document's journal: Trim.
-/
import Derived.Test.YtgeahpfdaehjaaaGreatDoorQRefJournal
import Derived.Test.YtgeahpfdaehjaaaGreatDoorQDiskRef2
import Derived.Test.YtgeahpfdaehjaaaGreatDoorGrpE
namespace Go.Proofs.YtgeahpfdaehjaaaGreatDoor
open Go.ChangeShapes Go.WideShapes Go.ChangeAt Go.RowKit
set_option linter.unusedVariables false

section
variable {w : World} {H : Nat → Prop} {mj m rm : Nat} {many : Int} {G : List Sg}
theorem Rjn.call {w : World} {H : Nat → Prop} {mj m rm : Nat} {dn : Bool} {many : Int} {L : List Pt} {r : Nat × List Pt} {f : FuncId} {args : Array Value} (h : Rjn w H mj m rm dn many L) (hc : Rfd w H m rm dn L → Calls Tryz.prog f args w (RefOps w H m rm dn r)) :
    Calls Tryz.prog f args w (RjOps w H mj m rm dn many r) := by
  refine (hc h.rf).mono ?_
  rintro e w' ⟨rfl, H', h1, h2⟩
  exact ⟨rfl, H', h.step h1 h2, h2⟩
set_option maxHeartbeats 4000000 in
set_option maxRecDepth 100000 in
theorem ref_jtrim {n : Int} (h : Rjn w H mj m rm false many (pts' G)) (hc : CleanG G) (hi : Inv rm (pts' G)) (hl : G.length ≤ 1000) :
    Calls Tryz.prog 71 #[.pointer (some ⟨mj, 0, none⟩), .int .i64 n] w (RjOps w H mj m rm false many (0, pts' (trimG G n))) := by
  have HH := Lib.hid h
  have HC := Lib.hid hc
  have HI := Lib.hid hi
  have HL := Lib.hid hl
  clear h hc hi hl
  go_enter Tryz.func71, Tryz.ntmps71
  go_wp2_with fail
  go_loopg [] (G.length) (fun gk wx => ∃ G' H', Hid (G'.length = gk) ∧ Hid (trimG G' n = trimG G n) ∧ Hid (Rjn wx H' mj m rm false many (pts' G')) ∧ Hid (Mv8 w H wx H') ∧ Hid (CleanG G') ∧ Hid (Inv rm (pts' G')) ∧ Hid (G'.length ≤ 1000))
  case atStart => exact ⟨G, H, Lib.hid rfl, Lib.hid rfl, HH, Lib.hid (Mv8.still (Below.refl _ _)), HC, HI, HL⟩
  case round =>
    clear HH HC HI HL
    obtain ⟨G', H', HG, HT, HJ, HM, HC, HI, HL⟩ := hrel
    have c0 := HJ.out.c0
    obtain ⟨A, cap, hb, _⟩ := HJ.out.ref
    have c1 := hb.c1
    rcases G' with _ | ⟨f0, _ | ⟨f1, G1⟩⟩
    · have FIN : Hid (RjOps w H mj m rm false many (0, pts' (trimG G n)) (.returned (.int .i64 0)) wr) := Lib.hid ⟨rfl, H', by rw [← HT.out]; exact HJ.out, HM.out⟩
      have c1' : wr.cell? ⟨m, 1, none⟩ = some (.slice A 0 cap) := c1
      clear hb HJ HM HC HI HL HT HG c1
      go_wp2_with fail
      go_ret
      exact FIN.out
    · have FIN : Hid (RjOps w H mj m rm false many (0, pts' (trimG G n)) (.returned (.int .i64 0)) wr) := Lib.hid ⟨rfl, H', by rw [← HT.out]; exact HJ.out, HM.out⟩
      have c1' : wr.cell? ⟨m, 1, none⟩ = some (.slice A 1 cap) := c1
      clear hb HJ HM HC HI HL HT HG c1
      go_wp2_with fail
      go_ret
      exact FIN.out
    · obtain ⟨k, rfl⟩ : ∃ k, gk = k + 1 := ⟨(f1 :: G1).length, by have := HG.out; rw [← this]; rfl⟩
      obtain ⟨ga, rfl, d0, _⟩ := hb.idx (k := 0) (p := f0.pt) rfl
      obtain ⟨_, e, d1, _⟩ := hb.idx (k := 1) (p := f1.pt) rfl
      cases e
      have i0 : wr.cell? ⟨ga, 0, none⟩ = some (.int .i64 f0.n) := d0
      have i1 : wr.cell? ⟨ga, 3, none⟩ = some (.int .i64 f1.n) := d1
      obtain ⟨C1, e1, e2, e3⟩ := clean_less HC.out
      have hN : (pts' (f0 :: f1 :: G1)).length = G1.length + 2 := by unfold pts'; simp
      rw [hN] at c1
      have hgt : (1 : Int) < ((G1.length + 2 : Nat) : Int) := by omega
      have hgt2 : 1 < G1.length + 2 := by omega
      have hgt3 : 0 < G1.length + 2 := by omega
      by_cases hle : f1.n ≤ n
      · obtain ⟨q1, q2⟩ := remove_first HI.out
        have CR : Hid (∀ q : Nat, Calls Tryz.prog 92 #[.pointer (some ⟨m, 0, none⟩), .int .i64 f0.n] (wr.drewN q) fun e w' => e = .returned (.int .i64 0) ∧ ∃ H2, Rjn w' H2 mj m rm false many (pts' (f1 :: G1)) ∧ Mv8 w H w' H2) := Lib.hid (fun q => by
          have := (HJ.out.below (below_drewN wr q)).call (fun hr => refRemove (wr.drewN q) H' m rm false _ f0.n hr HI.out (by unfold pts'; rw [List.length_map]; exact HL.out))
          rw [q1] at this
          exact this.mono fun e w' ⟨h1, H2, h2, h3⟩ => ⟨h1, H2, h2, HM.out.trans ((Mv8.still (below_drewN wr q)).trans h3)⟩)
        have HT2 : Hid (trimG (f1 :: G1) n = trimG G n) := Lib.hid (by rw [← HT.out]; conv => rhs; unfold trimG; rw [if_pos hle])
        have HG2 : Hid ((f1 :: G1).length = k) := Lib.hid (by have := HG.out; rw [List.length_cons] at this; omega)
        have HI2 := Lib.hid q2
        have HC2 := Lib.hid C1
        have HL2 : Hid ((f1 :: G1).length ≤ 1000) := Lib.hid (by have := HL.out; rw [List.length_cons] at this; omega)
        clear hb HJ HM HC HI HL HT HG q1 q2 C1 e1 e2 e3 hN d0 d1
        generalize f1.n = x1 at *
        generalize f0.n = x0 at *
        generalize G1.length + 2 = N at *
        go_wp2_with fail
        go_region_with ((go_at_call 92; refine (CR.out _).mono ?_; rintro e w2 ⟨rfl, H2, J2, M2⟩; have J2 := Lib.hid J2; have M2 := Lib.hid M2))
        all_goals
          clear CR
          go_wp2_with fail
          go_roundg k
          case rel => exact ⟨f1 :: G1, H2, HG2, HT2, J2, M2, HC2, HI2, HL2⟩
          case measure => omega
      · have hle' : decide (f1.n ≤ n) = false := decide_eq_false hle
        have FIN : Hid (RjOps w H mj m rm false many (0, pts' (trimG G n)) (.returned (.int .i64 0)) wr) := Lib.hid ⟨rfl, H', by
          have e : trimG (f0 :: f1 :: G1) n = f0 :: f1 :: G1 := by conv => lhs; unfold trimG; rw [if_neg hle]
          rw [← HT.out, e]
          exact HJ.out, HM.out⟩
        clear hb HJ HM HC HI HL HT HG C1 e1 e2 e3 hN d0 d1
        generalize f1.n = x1 at *
        generalize f0.n = x0 at *
        generalize G1.length + 2 = N at *
        go_wp2_with fail
        go_ret
        exact FIN.out
end
end Go.Proofs.YtgeahpfdaehjaaaGreatDoor
