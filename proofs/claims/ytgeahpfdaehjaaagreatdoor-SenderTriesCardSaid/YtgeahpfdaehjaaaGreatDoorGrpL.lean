/-
  Layer 21 (spill), of no program: what a Put, an Ack, a crash and an Open make of a spill that is as it should be.
  Layer 21: the head of its laws: the document's example.
-/
import Derived.Test.YtgeahpfdaehjaaaGreatDoorGrpK
import Derived.Test.YtgeahpfdaehjaaaGreatDoorQSpillOps
import Derived.Test.YtgeahpfdaehjaaaGreatDoorGrpA
namespace Go.Proofs.YtgeahpfdaehjaaaGreatDoor
open Go.ChangeShapes Go.WideShapes Go.ChangeAt Go.RowKit
set_option linter.unusedVariables false

section
variable {rm : Nat} {many room head : Int} {G : List Sg} {b : Bt}
theorem SOk.put (ok : SOk rm many room head G) (hf : ∀ r ∈ b.rows, FitR r) (hm : mayOk b = true) (hs : b.seq = nxG G) (hl : ¬ 4096 < (putL b).length) (hro : (encR (putL b)).length ≤ rm - used (pts' G)) (h1 : G.length < 900) (h2 : nxG G < 9000) :
    SOk rm many room head (putG many G (putL b)) where
  g := ok.g.put ⟨putL_pos b, by omega⟩ hro h1 h2
  rec_ := rec_snoc ok.rec_ recs_put fs_put (getF_put hf hm) hs
  h0 := by rw [fs_put]; exact ok.h0
  h1 := by rw [nx_put]; have := ok.h1; omega
  r := ok.r
theorem SOk.ack (ok : SOk rm many room head G) (hl : head < nxG G) : SOk rm many room (head + 1) (trimG G (head + 1)) := by
  have hf : fsG G ≤ head + 1 := by have := ok.h0; omega
  obtain ⟨a, b, c, d, e⟩ := trim_clean G (head + 1) ok.g.clean hf
  exact ⟨ok.g.trim hf, rec_trim ok.g.clean hf ok.rec_, b, by rw [c]; omega, ok.r⟩
theorem SOk.again (ok : SOk rm many room head G) : SOk rm many room (fsG G) G := ⟨ok.g, ok.rec_, Int.le_refl _, by rw [nxG_eq]; omega, ok.r⟩
theorem clean_cut (h : CleanG G) : cutG G = G := by
  unfold cutG
  conv => rhs; rw [← List.map_id G]
  refine List.map_congr_left (fun g hg => ?_)
  have h1 := h.t0 g hg
  have h2 := h.syn g hg
  obtain ⟨n, rs, t, s⟩ := g
  simp only at h1 h2
  subst h1 h2
  rfl
theorem clean_crash (h : CleanG G) (k : Int) : opCrash false (pts' G) k = pts' G := by
  unfold opCrash
  rw [if_neg (by simp)]
  exact h.crash _
theorem GOk.nil (hrm : rm ≤ 65536) (hm : 1 ≤ many ∧ many ≤ 100) : GOk rm many [] := ⟨CleanG.nil, Inv.nil hrm, by simp, by show (0 : Int) ≤ _; omega, hm⟩
theorem SOk.nil (hrm : rm ≤ 65536) (hm : 1 ≤ many ∧ many ≤ 100) (hr : 1 ≤ room ∧ room ≤ 1000) : SOk rm many room 0 [] := ⟨GOk.nil hrm hm, rec_nil, Int.le_refl _, Int.le_refl _, hr⟩
end
/-! ### a spill of the call's own -/
/-- .. and what was there is as it was. -/
def Sw (W w : World) (K : Nat → Prop) (sp ad aj rm : Nat) (many room head : Int) (G : List Sg) : Prop :=
  Sx w K sp ad aj rm many room head G ∧ (∀ g, K g → W.heap.size ≤ g) ∧ Below W.heap.size W w
section
variable {W w w' : World} {K K' : Nat → Prop} {sp ad aj rm : Nat} {many room head head' : Int} {G G' : List Sg}
theorem Sw.step (h : Sw W w K sp ad aj rm many room head G) (s : Sx w' K' sp ad aj rm many room head' G') (m : Mv8 w K w' K') : Sw W w' K' sp ad aj rm many room head' G' := by
  obtain ⟨_, h2, h3⟩ := h
  obtain ⟨b1, b2⟩ := m.below h2 h3.size
  exact ⟨s, b2, h3.trans b1⟩
theorem Sw.still (h : Sw W w K sp ad aj rm many room head G) (hb : Below w.heap.size w w') : Sw W w' K sp ad aj rm many room head G := h.step (h.1.below hb) (Mv8.still hb)
/-- A text appended to a row of the call's own, with the spill beside it. -/
theorem Sw.grow (h : Sw W w K sp ad aj rm many room head G) (hW : 6 ≤ W.heap.size) {v : Value} {l : List Rc} (o : OS w W.heap.size v l) (hd : ∀ x, v.ownBlock = some x → ¬ K x) (x : Rc) (hl : l.length ≤ 100000) :
    ∃ A cap w', (Builtin.append_ #[107, 107] 107 #[v, .slice (some ⟨w.heap.size, 0, none⟩) 1 1]).run Tryz.prog (w.alloc (.cells #[.string ⟨x.toArray⟩] 9)) = .ok (.slice A (l.length + 1) cap) w' ∧
      Sw W w' K sp ad aj rm many room head G ∧ OS w' W.heap.size (.slice A (l.length + 1) cap) (l ++ [x]) ∧ ∀ y, (Value.slice A (l.length + 1) cap).ownBlock = some y → ¬ K y := by
  obtain ⟨v', w', h1, h2, h3, h4⟩ := add_str o x hl h.2.2.size
  obtain ⟨A, cap, e, _⟩ := os_shape h2
  rw [List.length_append, List.length_singleton] at e
  subst e
  have k : Keeps (fun g => v.ownBlock = some g) w w' := ((Keeps.refl _ w).alloc _).trans (Keeps.of_grown (F := fun g => v.ownBlock = some g) h3 (fun g e => e)) (fun g e => .inl e)
  refine ⟨A, cap, w', h1, ⟨h.1.keeps k (fun g hg e => hd g e hg) (fun g e => by have := (owns_block o e).1; omega), h.2.1, h.2.2.trans (k.below (fun g e => (owns_block o e).1) h.2.2.size)⟩, h2, fun y hy hK => ?_⟩
  rcases h4 with e | e
  · exact hd y (by rw [← e]; exact hy) hK
  · rw [e] at hy
    cases hy
    have := h.1.lt hK
    omega
end
end Go.Proofs.YtgeahpfdaehjaaaGreatDoor
namespace Go.Proofs.YtgeahpfdaehjaaaGreatDoor
open Go.ChangeShapes Go.WideShapes Go.ChangeAt Go.RowKit
set_option linter.unusedVariables false

theorem sized_nil21 : SizedR [] := ⟨by simp, fun r h => by simp at h⟩
theorem may_21 (n : Nat) (hn : n ≤ 1000) (t : Nat) (ht : t ≤ 1000) : mayOk ⟨(n : Nat), (t : Nat), []⟩ = true := by
  rw [mayOk_of (b := ⟨(n : Nat), (t : Nat), []⟩) (by show (0 : Int) ≤ (n : Nat); omega) (by show ((n : Nat) : Int) ≤ _; omega) (by show (0 : Int) ≤ (t : Nat); omega) (by show ((t : Nat) : Int) ≤ _; omega)]
  rfl
theorem enc_one {n : Nat} (h : n < 128) : enc n = [UInt8.ofNat n] := enc_small h
theorem put_21 (n : Nat) (hn : n < 128) (t : Nat) (ht : t < 128) : (putL ⟨(n : Nat), (t : Nat), []⟩).length = 3 := by
  unfold putL putHead rowsL
  simp only [List.flatMap_nil, List.append_nil, List.length_nil, List.length_append]
  rw [show ((n : Nat) : Int).toNat = n by omega, show ((t : Nat) : Int).toNat = t by omega, enc_one hn, enc_one ht, enc_one (n := 0) (by omega)]
  rfl
theorem encR_21 {r : Rc} (h : r.length = 3) : (encR r).length = 4 := by
  unfold encR
  rw [List.length_append, h, enc_one (by omega)]
  rfl
theorem segs_nil : Segs [] := CleanG.nil.segs (by simp)
end Go.Proofs.YtgeahpfdaehjaaaGreatDoor
