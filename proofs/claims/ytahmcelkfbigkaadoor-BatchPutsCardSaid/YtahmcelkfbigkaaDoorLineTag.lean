/-
  Layer 4 (line): the reader's method tag: one tag, from its comma on.
-/
import Derived.Test.YtahmcelkfbigkaaDoorLineWordAt
namespace Go.Proofs.YtahmcelkfbigkaaDoor
open Go.ChangeShapes Go.WideShapes Go.ChangeAt Go.RowKit
set_option linter.unusedVariables false

/-- A pair of texts in a block of its own. -/
def Pr (w : World) (g : Nat) (x y : ByteArray) : Prop := w.heap[g]? = some (.cells #[.string x, .string y] 94 (0, 0))
section
variable {w w' : World} {g b : Nat} {x y : ByteArray}
theorem Pr.c0 (h : Pr w g x y) : w.cell? ⟨g, 0, none⟩ = some (.string x) := cell_of_block h
theorem Pr.c1 (h : Pr w g x y) : w.cell? ⟨g, 1, none⟩ = some (.string y) := cell_of_block h
theorem Pr.f0 (h : Pr w g x y) : w.frozen? ⟨g, 0, none⟩ = false := frozen_of_block h
theorem Pr.f1 (h : Pr w g x y) : w.frozen? ⟨g, 1, none⟩ = false := frozen_of_block h
theorem Pr.grown (h : Pr w g x y) (hg : w.grownBy w' (some b)) (hb : b ≠ g) : Pr w' g x y := by
  unfold Pr; rw [hg.block g (lt_of_block h) (fun e => hb (Option.some.inj e).symm)]; exact h
theorem Pr.set0 (h : Pr w g x y) (z : ByteArray) : Pr (w.setCell ⟨g, 0, none⟩ (.string z)) g z y := heap_set_same h
theorem Pr.set1 (h : Pr w g x y) (z : ByteArray) : Pr (w.setCell ⟨g, 1, none⟩ (.string z)) g x z := heap_set_same h
end

def TagsOne (x y : ByteArray) (z : Bool) (w : World) (b : Nat) (s : ByteArray) (k : Nat) (e : Ending) (w' : World) : Prop :=
  e = .returned (.tuple #[.agg #[.string x, .string y], .bool z]) ∧ Mv w b s k w'
def TagFails (w : World) (b : Nat) (s : ByteArray) (k : Nat) (e : Ending) (w' : World) : Prop := ∃ x y, TagsOne x y false w b s k e w'

theorem tagYes (w : World) (b : Nat) (s : ByteArray) (k i j : Nat) (h : Rd w b s k) (hs : s.size ≤ 300) (hk : k ≤ s.size) (h44 : chr s k = 44) (hi : wordAt s (k + 1) = some i) (h61 : chr s i = 61) (hj : wordAt s (i + 1) = some j) :
    Calls Tryd.prog 73 #[.pointer (some ⟨b, 0, none⟩)] w (TagsOne (s.extract (k + 1) i) (s.extract (i + 1) j) true w b s j) := by
  have hi1 : i < s.size := chr_lt_size (by omega)
  have HI := Lib.hid hi
  have HJ := Lib.hid hj
  have H61 := Lib.hid h61
  clear hi hj h61
  have hk1 : k < s.size := chr_lt_size (by omega)
  have hbw := h.lt
  have h0 : Pr (w.alloc (.cells #[.string ⟨#[]⟩, .string ⟨#[]⟩] 94)) w.heap.size ⟨#[]⟩ ⟨#[]⟩ := heap_alloc_new w _
  have C1 := Lib.hid (passYes _ b s k 44 (h.alloc (.cells #[.string ⟨#[]⟩, .string ⟨#[]⟩] 94)) hs hk1 (by rw [h44]; rfl))
  have g0 : w.grownBy (w.alloc (.cells #[.string ⟨#[]⟩, .string ⟨#[]⟩] 94)) (some b) := World.grownBy_alloc _ _ _
  have H0 := Lib.hid h0
  have G0 := Lib.hid g0
  clear h0 g0 h44
  go_enter Tryd.func73, Tryd.ntmps73
  go_wp2_with ((go_at_call 65; refine C1.out.mono ?_); rintro e w1 ⟨rfl, m1⟩; have M1 := Lib.hid m1; clear m1 C1)
  have P1 := Lib.hid (H0.out.grown M1.out.grown (by omega))
  have G1 := Lib.hid (grown_trans G0.out M1.out.grown)
  refine (wordYes w1 b s (k + 1) i M1.out.rd hs (by omega) HI.out).mono ?_
  rintro e w2 ⟨rfl, m2⟩
  have M2 := Lib.hid m2
  clear m2
  have P2 := Lib.hid (P1.out.grown M2.out.grown (by omega))
  have G2 := Lib.hid (grown_trans G1.out M2.out.grown)
  have d2 := P2.out.c0
  have x2 := P2.out.f0
  go_wp2_with fail
  have R2 := Lib.hid (M2.out.rd.other ⟨w.heap.size, 0, none⟩ (.string (s.extract (k + 1) i)) (Nat.ne_of_lt hbw))
  have Q2 := Lib.hid (P2.out.set0 (s.extract (k + 1) i))
  have K2 := Lib.hid (grown_set G2.out ⟨w.heap.size, 0, none⟩ (.string (s.extract (k + 1) i)) (Or.inr (Nat.le_refl _)))
  clear d2 x2
  refine (passYes _ b s i 61 R2.out hs hi1 (by rw [H61.out]; rfl)).mono ?_
  rintro e w3 ⟨rfl, m3⟩
  have M3 := Lib.hid m3
  clear m3
  have P3 := Lib.hid (Q2.out.grown M3.out.grown (by omega))
  have G3 := Lib.hid (grown_trans K2.out M3.out.grown)
  go_wp2_with fail
  refine (wordYes w3 b s (i + 1) j M3.out.rd hs (by omega) HJ.out).mono ?_
  rintro e w4 ⟨rfl, m4⟩
  have M4 := Lib.hid m4
  clear m4
  have P4 := Lib.hid (P3.out.grown M4.out.grown (by omega))
  have G4 := Lib.hid (grown_trans G3.out M4.out.grown)
  have d4 := P4.out.c1
  have x4 := P4.out.f1
  have c40 := P4.out.c0
  have c41 := P4.out.c1
  have f40 := P4.out.f0
  have f41 := P4.out.f1
  go_wp2_with fail
  refine bodyPost_ret (v := .tuple #[.agg #[.string (s.extract (k + 1) i), .string (s.extract (i + 1) j)], .bool true]) (by simp [results, Tryd.results73, go_sem, c40, c41]) rfl ?_
  exact ⟨rfl, grown_set (grown_set (grown_set (G4.out) _ _ (Or.inr (Nat.le_refl _))) _ _ (Or.inr (Nat.le_refl _))) _ _ (Or.inr (Nat.le_refl _)), (((M4.out.rd).other _ _ (by simp; omega)).other _ _ (by simp; omega)).other _ _ (by simp; omega)⟩
theorem tagNo1 (w : World) (b : Nat) (s : ByteArray) (k : Nat) (h : Rd w b s k) (hs : s.size ≤ 300) (hk : k ≤ s.size) (h44 : chr s k = 44) (hi : wordAt s (k + 1) = none) :
    Calls Tryd.prog 73 #[.pointer (some ⟨b, 0, none⟩)] w (TagFails w b s (k + 1)) := by
  have HI := Lib.hid hi
  clear hi
  have hk1 : k < s.size := chr_lt_size (by omega)
  have hbw := h.lt
  have h0 : Pr (w.alloc (.cells #[.string ⟨#[]⟩, .string ⟨#[]⟩] 94)) w.heap.size ⟨#[]⟩ ⟨#[]⟩ := heap_alloc_new w _
  have C1 := Lib.hid (passYes _ b s k 44 (h.alloc (.cells #[.string ⟨#[]⟩, .string ⟨#[]⟩] 94)) hs hk1 (by rw [h44]; rfl))
  have g0 : w.grownBy (w.alloc (.cells #[.string ⟨#[]⟩, .string ⟨#[]⟩] 94)) (some b) := World.grownBy_alloc _ _ _
  have H0 := Lib.hid h0
  have G0 := Lib.hid g0
  clear h0 g0 h44
  go_enter Tryd.func73, Tryd.ntmps73
  go_wp2_with ((go_at_call 65; refine C1.out.mono ?_); rintro e w1 ⟨rfl, m1⟩; have M1 := Lib.hid m1; clear m1 C1)
  have P1 := Lib.hid (H0.out.grown M1.out.grown (by omega))
  have G1 := Lib.hid (grown_trans G0.out M1.out.grown)
  refine (wordNo w1 b s (k + 1) M1.out.rd hs (by omega) HI.out).mono ?_
  rintro e w2 ⟨rfl, m2⟩
  have M2 := Lib.hid m2
  clear m2
  have P2 := Lib.hid (P1.out.grown M2.out.grown (by omega))
  have G2 := Lib.hid (grown_trans G1.out M2.out.grown)
  have d2 := P2.out.c0
  have x2 := P2.out.f0
  have c20 := P2.out.c0
  have c21 := P2.out.c1
  have f20 := P2.out.f0
  have f21 := P2.out.f1
  go_wp2_with fail
  refine bodyPost_ret (v := .tuple #[.agg #[.string ⟨#[]⟩, .string ⟨#[]⟩], .bool false]) (by simp [results, Tryd.results73, go_sem, c20, c21]) rfl ?_
  exact ⟨_, _, ⟨rfl, grown_set (grown_set (grown_set (G2.out) _ _ (Or.inr (Nat.le_refl _))) _ _ (Or.inr (Nat.le_refl _))) _ _ (Or.inr (Nat.le_refl _)), (((M2.out.rd).other _ _ (by simp; omega)).other _ _ (by simp; omega)).other _ _ (by simp; omega)⟩⟩
theorem tagNo2 (w : World) (b : Nat) (s : ByteArray) (k i : Nat) (h : Rd w b s k) (hs : s.size ≤ 300) (hk : k ≤ s.size) (h44 : chr s k = 44) (hi : wordAt s (k + 1) = some i) (h61 : chr s i ≠ 61) :
    Calls Tryd.prog 73 #[.pointer (some ⟨b, 0, none⟩)] w (TagFails w b s i) := by
  have hk0 : k < s.size := chr_lt_size (by omega)
  obtain ⟨hki, his⟩ := wordAt_le (by omega) hi
  have HI := Lib.hid hi
  have H61 := Lib.hid h61
  clear hi h61 hk0
  have hk1 : k < s.size := chr_lt_size (by omega)
  have hbw := h.lt
  have h0 : Pr (w.alloc (.cells #[.string ⟨#[]⟩, .string ⟨#[]⟩] 94)) w.heap.size ⟨#[]⟩ ⟨#[]⟩ := heap_alloc_new w _
  have C1 := Lib.hid (passYes _ b s k 44 (h.alloc (.cells #[.string ⟨#[]⟩, .string ⟨#[]⟩] 94)) hs hk1 (by rw [h44]; rfl))
  have g0 : w.grownBy (w.alloc (.cells #[.string ⟨#[]⟩, .string ⟨#[]⟩] 94)) (some b) := World.grownBy_alloc _ _ _
  have H0 := Lib.hid h0
  have G0 := Lib.hid g0
  clear h0 g0 h44
  go_enter Tryd.func73, Tryd.ntmps73
  go_wp2_with ((go_at_call 65; refine C1.out.mono ?_); rintro e w1 ⟨rfl, m1⟩; have M1 := Lib.hid m1; clear m1 C1)
  have P1 := Lib.hid (H0.out.grown M1.out.grown (by omega))
  have G1 := Lib.hid (grown_trans G0.out M1.out.grown)
  refine (wordYes w1 b s (k + 1) i M1.out.rd hs (by omega) HI.out).mono ?_
  rintro e w2 ⟨rfl, m2⟩
  have M2 := Lib.hid m2
  clear m2
  have P2 := Lib.hid (P1.out.grown M2.out.grown (by omega))
  have G2 := Lib.hid (grown_trans G1.out M2.out.grown)
  have d2 := P2.out.c0
  have x2 := P2.out.f0
  go_wp2_with fail
  have R2 := Lib.hid (M2.out.rd.other ⟨w.heap.size, 0, none⟩ (.string (s.extract (k + 1) i)) (Nat.ne_of_lt hbw))
  have Q2 := Lib.hid (P2.out.set0 (s.extract (k + 1) i))
  have K2 := Lib.hid (grown_set G2.out ⟨w.heap.size, 0, none⟩ (.string (s.extract (k + 1) i)) (Or.inr (Nat.le_refl _)))
  clear d2 x2
  refine (passNo _ b s i 61 R2.out hs his (by intro e; exact H61.out (by omega))).mono ?_
  rintro e w3 ⟨rfl, m3⟩
  have M3 := Lib.hid m3
  clear m3
  have P3 := Lib.hid (Q2.out.grown M3.out.grown (by omega))
  have G3 := Lib.hid (grown_trans K2.out M3.out.grown)
  have c30 := P3.out.c0
  have c31 := P3.out.c1
  have f30 := P3.out.f0
  have f31 := P3.out.f1
  go_wp2_with fail
  refine bodyPost_ret (v := .tuple #[.agg #[.string (s.extract (k + 1) i), .string ⟨#[]⟩], .bool false]) (by simp [results, Tryd.results73, go_sem, c30, c31]) rfl ?_
  exact ⟨_, _, ⟨rfl, grown_set (grown_set (G3.out) _ _ (Or.inr (Nat.le_refl _))) _ _ (Or.inr (Nat.le_refl _)), ((M3.out.rd).other _ _ (by simp; omega)).other _ _ (by simp; omega)⟩⟩
theorem tagNo3 (w : World) (b : Nat) (s : ByteArray) (k i : Nat) (h : Rd w b s k) (hs : s.size ≤ 300) (hk : k ≤ s.size) (h44 : chr s k = 44) (hi : wordAt s (k + 1) = some i) (h61 : chr s i = 61) (hj : wordAt s (i + 1) = none) :
    Calls Tryd.prog 73 #[.pointer (some ⟨b, 0, none⟩)] w (TagFails w b s (i + 1)) := by
  have hi1 : i < s.size := chr_lt_size (by omega)
  have HI := Lib.hid hi
  have HJ := Lib.hid hj
  have H61 := Lib.hid h61
  clear hi hj h61
  have hk1 : k < s.size := chr_lt_size (by omega)
  have hbw := h.lt
  have h0 : Pr (w.alloc (.cells #[.string ⟨#[]⟩, .string ⟨#[]⟩] 94)) w.heap.size ⟨#[]⟩ ⟨#[]⟩ := heap_alloc_new w _
  have C1 := Lib.hid (passYes _ b s k 44 (h.alloc (.cells #[.string ⟨#[]⟩, .string ⟨#[]⟩] 94)) hs hk1 (by rw [h44]; rfl))
  have g0 : w.grownBy (w.alloc (.cells #[.string ⟨#[]⟩, .string ⟨#[]⟩] 94)) (some b) := World.grownBy_alloc _ _ _
  have H0 := Lib.hid h0
  have G0 := Lib.hid g0
  clear h0 g0 h44
  go_enter Tryd.func73, Tryd.ntmps73
  go_wp2_with ((go_at_call 65; refine C1.out.mono ?_); rintro e w1 ⟨rfl, m1⟩; have M1 := Lib.hid m1; clear m1 C1)
  have P1 := Lib.hid (H0.out.grown M1.out.grown (by omega))
  have G1 := Lib.hid (grown_trans G0.out M1.out.grown)
  refine (wordYes w1 b s (k + 1) i M1.out.rd hs (by omega) HI.out).mono ?_
  rintro e w2 ⟨rfl, m2⟩
  have M2 := Lib.hid m2
  clear m2
  have P2 := Lib.hid (P1.out.grown M2.out.grown (by omega))
  have G2 := Lib.hid (grown_trans G1.out M2.out.grown)
  have d2 := P2.out.c0
  have x2 := P2.out.f0
  go_wp2_with fail
  have R2 := Lib.hid (M2.out.rd.other ⟨w.heap.size, 0, none⟩ (.string (s.extract (k + 1) i)) (Nat.ne_of_lt hbw))
  have Q2 := Lib.hid (P2.out.set0 (s.extract (k + 1) i))
  have K2 := Lib.hid (grown_set G2.out ⟨w.heap.size, 0, none⟩ (.string (s.extract (k + 1) i)) (Or.inr (Nat.le_refl _)))
  clear d2 x2
  refine (passYes _ b s i 61 R2.out hs hi1 (by rw [H61.out]; rfl)).mono ?_
  rintro e w3 ⟨rfl, m3⟩
  have M3 := Lib.hid m3
  clear m3
  have P3 := Lib.hid (Q2.out.grown M3.out.grown (by omega))
  have G3 := Lib.hid (grown_trans K2.out M3.out.grown)
  go_wp2_with fail
  refine (wordNo w3 b s (i + 1) M3.out.rd hs (by omega) HJ.out).mono ?_
  rintro e w4 ⟨rfl, m4⟩
  have M4 := Lib.hid m4
  clear m4
  have P4 := Lib.hid (P3.out.grown M4.out.grown (by omega))
  have G4 := Lib.hid (grown_trans G3.out M4.out.grown)
  have d4 := P4.out.c1
  have x4 := P4.out.f1
  have c40 := P4.out.c0
  have c41 := P4.out.c1
  have f40 := P4.out.f0
  have f41 := P4.out.f1
  go_wp2_with fail
  refine bodyPost_ret (v := .tuple #[.agg #[.string (s.extract (k + 1) i), .string ⟨#[]⟩], .bool false]) (by simp [results, Tryd.results73, go_sem, c40, c41]) rfl ?_
  exact ⟨_, _, ⟨rfl, grown_set (grown_set (grown_set (G4.out) _ _ (Or.inr (Nat.le_refl _))) _ _ (Or.inr (Nat.le_refl _))) _ _ (Or.inr (Nat.le_refl _)), (((M4.out.rd).other _ _ (by simp; omega)).other _ _ (by simp; omega)).other _ _ (by simp; omega)⟩⟩
end Go.Proofs.YtahmcelkfbigkaaDoor
