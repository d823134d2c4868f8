/-
  Layer 21 (spill), of no program: what a Put, an Ack, a crash and an Open make of a spill that is as it should be.
  Layer 21: the head of its laws: the document's example.
-/
import Derived.Test.YtgnkkcnmepafpaaGreatDoorGrpK
import Derived.Test.YtgnkkcnmepafpaaGreatDoorQSpillOps
import Derived.Test.YtgnkkcnmepafpaaGreatDoorGrpA
namespace Go.Proofs.YtgnkkcnmepafpaaGreatDoor
open Go.ChangeShapes Go.WideShapes Go.ChangeAt Go.RowKit
set_option linter.unusedVariables false

section
variable {rm : Nat} {many room head : Int} {G : List Sg} {b : Bt}
theorem SOk.put (ok : SOk rm many room head G) (hf : ∀ r ∈ b.rows, FitR r) (hm : mayOk b = true) (hs : b.seq = nxG G) (hl : ¬ 4096 < (putL b).length) (hro : (encR (putL b)).length ≤ rm - used (pts' G)) (h1 : G.length < 900) (h2 : nxG G < 9000) :
    SOk rm many room head (putG many G (putL b)) where
  g := ok.g.put ⟨putL_pos b, by omega⟩ hro h1 h2
  rec_ := rec_snoc ok.rec_ recs_put fs_put (getF_put hf hm) hs
  h0 := by rw [fs_put]; exact ok.h0
  h1 := by rw [nx_put]; have := ok.h1; omega
  r := ok.r
theorem SOk.ack (ok : SOk rm many room head G) (hl : head < nxG G) : SOk rm many room (head + 1) (trimG G (head + 1)) := by
  have hf : fsG G ≤ head + 1 := by have := ok.h0; omega
  obtain ⟨a, b, c, d, e⟩ := trim_clean G (head + 1) ok.g.clean hf
  exact ⟨ok.g.trim hf, rec_trim ok.g.clean hf ok.rec_, b, by rw [c]; omega, ok.r⟩
theorem SOk.again (ok : SOk rm many room head G) : SOk rm many room (fsG G) G := ⟨ok.g, ok.rec_, Int.le_refl _, by rw [nxG_eq]; omega, ok.r⟩
theorem clean_cut (h : CleanG G) : cutG G = G := by
  unfold cutG
  conv => rhs; rw [← List.map_id G]
  refine List.map_congr_left (fun g hg => ?_)
  have h1 := h.t0 g hg
  have h2 := h.syn g hg
  obtain ⟨n, rs, t, s⟩ := g
  simp only at h1 h2
  subst h1 h2
  rfl
theorem clean_crash (h : CleanG G) (k : Int) : opCrash false (pts' G) k = pts' G := by
  unfold opCrash
  rw [if_neg (by simp)]
  exact h.crash _
theorem GOk.nil (hrm : rm ≤ 65536) (hm : 1 ≤ many ∧ many ≤ 100) : GOk rm many [] := ⟨CleanG.nil, Inv.nil hrm, by simp, by show (0 : Int) ≤ _; omega, hm⟩
theorem SOk.nil (hrm : rm ≤ 65536) (hm : 1 ≤ many ∧ many ≤ 100) (hr : 1 ≤ room ∧ room ≤ 1000) : SOk rm many room 0 [] := ⟨GOk.nil hrm hm, rec_nil, Int.le_refl _, Int.le_refl _, hr⟩
end
/-! ### a spill of the call's own -/
/-- .. and what was there is as it was. -/
def Sw (W w : World) (K : Nat → Prop) (sp ad aj rm : Nat) (many room head : Int) (G : List Sg) : Prop :=
  Sx w K sp ad aj rm many room head G ∧ (∀ g, K g → W.heap.size ≤ g) ∧ Below W.heap.size W w
section
variable {W w w' : World} {K K' : Nat → Prop} {sp ad aj rm : Nat} {many room head head' : Int} {G G' : List Sg}
theorem Sw.step (h : Sw W w K sp ad aj rm many room head G) (s : Sx w' K' sp ad aj rm many room head' G') (m : Mv8 w K w' K') : Sw W w' K' sp ad aj rm many room head' G' := by
  obtain ⟨_, h2, h3⟩ := h
  obtain ⟨b1, b2⟩ := m.below h2 h3.size
  exact ⟨s, b2, h3.trans b1⟩
theorem Sw.still (h : Sw W w K sp ad aj rm many room head G) (hb : Below w.heap.size w w') : Sw W w' K sp ad aj rm many room head G := h.step (h.1.below hb) (Mv8.still hb)
/-- The disk goes down; nothing on it turns, for all is synced. -/
theorem crashS (h : Sx w K sp ad aj rm many room head G) (ok : GOk rm many G) (k : Int) (hk : k ≤ 9223372036854775807) :
    Calls Tryz.prog 18 #[.pointer (some ⟨ad, 0, none⟩), .int .i64 k] w fun e w' => e = .returned (.tuple #[]) ∧ Laid w' ∧ ∃ F', Dsk w' F' ad rm true (pts' G) ∧ (∀ g, F' g → 6 ≤ g) ∧ Mv8 w K w' F' := by
  obtain ⟨FF, j, h4, h5, h6⟩ := h.ex
  obtain ⟨F, vp, vr, d, g, h7⟩ := j
  have hFK : ∀ g, F g → K g := fun g hg => (h6 g).2 (.inl ((h7 g).2 (.inl hg)))
  refine (crashD w F ad rm false (pts' G) k d ok.inv ok.plen hk).mono ?_
  rintro e w' ⟨rfl, F', d', m⟩
  rw [clean_crash ok.clean] at d'
  have hn := h.laid.n
  have hlo : ∀ g, F g → 6 ≤ g := fun g hg => h.lo g (hFK g hg)
  refine ⟨rfl, h.laid.keep (fun i hi => m.keeps.block i (by omega) (fun e => by have := hlo i e; omega)) m.keeps.size, F', d', fun g hg => ?_, m.keeps.wide (fun g hg _ => hFK g hg), fun g hg => ?_⟩
  · rcases m.own g hg with e | e
    · exact hlo g e
    · omega
  · rcases m.own g hg with e | e
    · exact .inl (hFK g e)
    · exact .inr e
/-- A text appended to a row of the call's own, with the spill beside it. -/
theorem Sw.grow (h : Sw W w K sp ad aj rm many room head G) (hW : 6 ≤ W.heap.size) {v : Value} {l : List Rc} (o : OS w W.heap.size v l) (hd : ∀ x, v.ownBlock = some x → ¬ K x) (x : Rc) (hl : l.length ≤ 100000) :
    ∃ A cap w', (Builtin.append_ #[65, 65] 65 #[v, .slice (some ⟨w.heap.size, 0, none⟩) 1 1]).run Tryz.prog (w.alloc (.cells #[.string ⟨x.toArray⟩] 9)) = .ok (.slice A (l.length + 1) cap) w' ∧
      Sw W w' K sp ad aj rm many room head G ∧ OS w' W.heap.size (.slice A (l.length + 1) cap) (l ++ [x]) ∧ ∀ y, (Value.slice A (l.length + 1) cap).ownBlock = some y → ¬ K y := by
  obtain ⟨v', w', h1, h2, h3, h4⟩ := add_str o x hl h.2.2.size
  obtain ⟨A, cap, e, _⟩ := os_shape h2
  rw [List.length_append, List.length_singleton] at e
  subst e
  have k : Keeps (fun g => v.ownBlock = some g) w w' := ((Keeps.refl _ w).alloc _).trans (Keeps.of_grown (F := fun g => v.ownBlock = some g) h3 (fun g e => e)) (fun g e => .inl e)
  refine ⟨A, cap, w', h1, ⟨h.1.keeps k (fun g hg e => hd g e hg) (fun g e => by have := (owns_block o e).1; omega), h.2.1, h.2.2.trans (k.below (fun g e => (owns_block o e).1) h.2.2.size)⟩, h2, fun y hy hK => ?_⟩
  rcases h4 with e | e
  · exact hd y (by rw [← e]; exact hy) hK
  · rw [e] at hy
    cases hy
    have := h.1.lt hK
    omega
end
end Go.Proofs.YtgnkkcnmepafpaaGreatDoor
namespace Go.Proofs.YtgnkkcnmepafpaaGreatDoor
open Go.ChangeShapes Go.WideShapes Go.ChangeAt Go.RowKit
set_option linter.unusedVariables false

theorem sized_nil21 : SizedR [] := ⟨by simp, fun r h => by simp at h⟩
theorem may_21 (n : Nat) (hn : n ≤ 1000) (t : Nat) (ht : t ≤ 1000) : mayOk ⟨(n : Nat), (t : Nat), []⟩ = true := by
  rw [mayOk_of (b := ⟨(n : Nat), (t : Nat), []⟩) (by show (0 : Int) ≤ (n : Nat); omega) (by show ((n : Nat) : Int) ≤ _; omega) (by show (0 : Int) ≤ (t : Nat); omega) (by show ((t : Nat) : Int) ≤ _; omega)]
  rfl
theorem enc_one {n : Nat} (h : n < 128) : enc n = [UInt8.ofNat n] := enc_small h
theorem put_21 (n : Nat) (hn : n < 128) (t : Nat) (ht : t < 128) : (putL ⟨(n : Nat), (t : Nat), []⟩).length = 3 := by
  unfold putL putHead rowsL
  simp only [List.flatMap_nil, List.append_nil, List.length_nil, List.length_append]
  rw [show ((n : Nat) : Int).toNat = n by omega, show ((t : Nat) : Int).toNat = t by omega, enc_one hn, enc_one ht, enc_one (n := 0) (by omega)]
  rfl
theorem encR_21 {r : Rc} (h : r.length = 3) : (encR r).length = 4 := by
  unfold encR
  rw [List.length_append, h, enc_one (by omega)]
  rfl
theorem segs_nil : Segs [] := CleanG.nil.segs (by simp)
set_option maxHeartbeats 1000000 in
set_option maxRecDepth 100000 in
theorem up_spill (W : World) (hL : Laid W) : Calls Tryz.prog 5 #[] W (Holds W) := by
  have HL := Lib.hid hL
  have C1 := Lib.hid (new_good W 100 (by omega) (by omega))
  have eqc := eql_codes
  clear hL
  go_enter Tryz.func5, Tryz.ntmps5
  go_wp2_with fail
  refine C1.out.mono ?_
  rintro e w1 ⟨ad, F, rfl, d1, b1, hF⟩
  have hn := HL.out.n
  have C2 := openS (many := 2) (room := 2) (G := []) (HL.out.below b1) (fun g hg => by have := hF g hg; omega) d1 (Inv.nil (by omega)) segs_nil (by omega) (by omega)
  have C2 : Hid (Calls Tryz.prog 9 #[.pointer (some ⟨ad, 0, none⟩), .int .i64 2, .int .i64 2] w1 fun e w' => ∃ sp aj K, e = .returned (.tuple #[.pointer (some ⟨sp, 0, none⟩), .nilIface]) ∧ Sw W w' K sp ad aj 100 2 2 0 []) := Lib.hid (C2.mono fun e w' h => by
    rcases h with ⟨_, sp, aj, K', rfl, s, m⟩ | ⟨h, _⟩
    · obtain ⟨q1, q2⟩ := m.below hF b1.size
      exact ⟨sp, aj, K', rfl, s, q2, b1.trans q1⟩
    · cases h)
  clear C1 d1 b1 hF hn
  go_wp2_with fail
  refine C2.out.mono ?_
  rintro e w2 ⟨sp, aj, K2, rfl, S2⟩
  have S2 := Lib.hid S2
  have C3 := Lib.hid (room_bad w2 (.pointer (some ⟨ad, 0, none⟩)) 2 0 (.inl (by omega)))
  clear C2
  go_wp2_with fail
  refine C3.out.mono ?_
  rintro e w3 ⟨rfl, rfl⟩
  have OK0 : Hid (SOk 100 2 2 0 []) := Lib.hid (SOk.nil (by omega) (by omega) (by omega))
  have hlen := put_21 0 (by omega) 7 (by omega)
  have hroom : (encR (putL ⟨(0 : Nat), (7 : Nat), []⟩)).length ≤ 100 - used (pts' []) := by rw [encR_21 hlen]; show 4 ≤ 100 - 0; omega
  have OK1 : Hid (SOk 100 2 2 0 (putG 2 [] (putL ⟨(0 : Nat), (7 : Nat), []⟩))) := Lib.hid (OK0.out.put (b := ⟨(0 : Nat), (7 : Nat), []⟩) (fun r h => by simp at h) (may_21 0 (by omega) 7 (by omega)) rfl (by rw [hlen]; omega) hroom (by simp) (by show (0 : Int) < _; omega))
  have C4 := putS_ok (b := ⟨(0 : Nat), (7 : Nat), []⟩) (A := none) (c := 0) S2.out.1 OK0.out (RdR.nil _ _) sized_nil21 (fun r h => by simp at h) (may_21 0 (by omega) 7 (by omega)) rfl (by show ¬ (2 : Int) ≤ 0 - 0; omega) (by rw [hlen]; omega) hroom
  unfold btVal PutS at C4
  simp only [List.length_nil] at C4
  have C4 := Lib.hid C4
  clear C3 hlen hroom
  go_wp2_with fail
  refine C4.out.mono ?_
  rintro e w4 ⟨rfl, K4, S4, M4⟩
  have W4 := Lib.hid (S2.out.step S4 M4)
  have HX : Hid (nxG (putG 2 [] (putL ⟨(0 : Nat), (7 : Nat), []⟩)) = 1) := Lib.hid (by rw [nx_put]; rfl)
  obtain ⟨k, r, b, hk, hr, hn, hb, hs⟩ := OK1.out.at (by rw [HX.out]; omega)
  have hbb : b = ⟨(0 : Nat), (7 : Nat), []⟩ := by
    have h1 : k = 0 := by
      have : fsG (putG 2 [] (putL ⟨(0 : Nat), (7 : Nat), []⟩)) = 0 := by rw [fs_put]; rfl
      have h2 : jFirst (ns (putG 2 [] (putL ⟨(0 : Nat), (7 : Nat), []⟩))) = 0 := this
      rw [h2] at hn
      omega
    subst h1
    rw [recs_put] at hk
    simp only [recs_nil, List.nil_append, List.getElem?_cons_zero, Option.some.injEq] at hk
    rw [← hk, getF_put (fun r h => by simp at h) (may_21 0 (by omega) 7 (by omega))] at hb
    exact (Option.some.inj hb).symm
  have C5 := headS S4 OK1.out hk hr hn hb hs
  rw [hbb] at C5
  unfold ReadGood btVal at C5
  simp only [List.length_nil] at C5
  have C5 := Lib.hid C5
  clear C4 S4 M4 S2 hk hr hn hb hs hbb
  simp only [ErrV_0]
  go_wp2_with fail
  refine C5.out.mono ?_
  rintro e w5 ⟨B5, c5, A5, cap5, rfl, _, _, b5⟩
  have b6 : Below w4.heap.size w4 (w5.alloc (.cells #[.int .i64 ((0 : Nat) : Int), .int .i64 ((7 : Nat) : Int), .slice B5 0 c5] 48)) := b5.alloc b5.size _
  have W6 := Lib.hid (W4.out.still b6)
  have CL := lenS W6.out.1 OK1.out
  rw [HX.out] at CL
  have CL := Lib.hid CL
  have CN := fun q : Nat => nextS (W6.out.1.below (below_drewN _ q)) OK1.out.g
  rw [HX.out] at CN
  have CN := Lib.hid CN
  clear C5 b5 b6 OK0 OK1 HX W4
  generalize r.length = N5 at *
  go_wp2_with (first
    | (go_at_call 22; refine CL.out.mono ?_; rintro e w7 ⟨rfl, m7, rfl⟩)
    | (go_at_call 24; refine (CN.out _).mono ?_; rintro e w8 ⟨rfl, m8, rfl⟩)
    | fail)
  go_ret
  exact ⟨rfl, W6.out.2.2.trans ((below_drewN _ _).mono W6.out.2.2.size)⟩
end Go.Proofs.YtgnkkcnmepafpaaGreatDoor
