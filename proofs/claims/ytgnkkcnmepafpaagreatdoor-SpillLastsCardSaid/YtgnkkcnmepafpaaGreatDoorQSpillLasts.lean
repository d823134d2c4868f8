/-
  Layer 21: the law SpillLasts.
-/
import Derived.Test.YtgnkkcnmepafpaaGreatDoorGrpL
namespace Go.Proofs.YtgnkkcnmepafpaaGreatDoor
open Go.ChangeShapes Go.WideShapes Go.ChangeAt Go.RowKit
set_option linter.unusedVariables false

set_option maxRecDepth 100000 in
theorem lasts_early (many n acks keep : Int) (W : World) (hL : Laid W) (h : n < 0 ∨ (¬ n < 0 ∧ 40 < n) ∨ (¬ n < 0 ∧ ¬ 40 < n ∧ acks < 0) ∨ (¬ n < 0 ∧ ¬ 40 < n ∧ ¬ acks < 0 ∧ n < acks)) :
    Calls Tryz.prog 4 #[.int .i64 many, .int .i64 n, .int .i64 acks, .int .i64 keep] W (Holds W) := by
  have CU := Lib.hid (up_spill W hL)
  clear hL
  rcases h with h | ⟨h, h2⟩ | ⟨h, h2, h3⟩ | ⟨h, h2, h3, h4⟩
  all_goals
    go_enter Tryz.func4, Tryz.ntmps4
    go_wp2_with fail
    refine CU.out.mono ?_
    rintro e w1 ⟨rfl, b1⟩
    have C1 := Lib.hid (new_good w1 60000 (by omega) (by omega))
    have B1 := Lib.hid b1
    clear b1
    go_wp2_with fail
    refine C1.out.mono ?_
    rintro e w2 ⟨ad, F, rfl, _, b2, _⟩
    have B2 := Lib.hid (B1.out.trans (b2.mono B1.out.size))
    clear C1 b2
    go_wp2_with fail
    go_ret
    exact ⟨rfl, B2.out⟩
set_option maxRecDepth 100000 in
theorem lasts_many (many keep : Int) (n acks : Nat) (W : World) (hL : Laid W) (hn : n ≤ 40) (ha : acks ≤ n) (hm : many < 1 ∨ 100 < many) :
    Calls Tryz.prog 4 #[.int .i64 many, .int .i64 (n : Nat), .int .i64 (acks : Nat), .int .i64 keep] W (Holds W) := by
  have CU := Lib.hid (up_spill W hL)
  have x1 : ¬ (n : Int) < 0 := by omega
  have x2 : ¬ (40 : Int) < (n : Int) := by omega
  have x3 : ¬ (acks : Int) < 0 := by omega
  have x4 : ¬ (n : Int) < (acks : Int) := by omega
  have HM := Lib.hid hm
  clear hL hm
  go_enter Tryz.func4, Tryz.ntmps4
  go_wp2_with fail
  refine CU.out.mono ?_
  rintro e w1 ⟨rfl, b1⟩
  have C1 := Lib.hid (new_good w1 60000 (by omega) (by omega))
  have B1 := Lib.hid b1
  clear b1
  go_wp2_with fail
  refine C1.out.mono ?_
  rintro e w2 ⟨ad, F, rfl, _, b2, _⟩
  have B2 := Lib.hid (B1.out.trans (b2.mono B1.out.size))
  have C2 := Lib.hid (many_bad w2 ad many 1000 (by omega) HM.out)
  clear C1 b2
  go_wp2_with fail
  refine C2.out.mono ?_
  rintro e w3 ⟨rfl, rfl⟩
  go_wp2_with fail
  go_ret
  exact ⟨rfl, B2.out⟩
/-- Behind the crash: the disk as it was, nothing else of the call's turned but what may. -/
def Cr21 (W w : World) (ad : Nat) (many : Int) (n i : Nat) (v : Value) (l : List Rc) : Prop :=
  ∃ F, Dsk w F ad 60000 true (pts' (tN many n i)) ∧ Laid w ∧ (∀ g, F g → 6 ≤ g) ∧ (∀ g, F g → W.heap.size ≤ g) ∧ Below W.heap.size W w ∧ OS w W.heap.size v l ∧ ∀ x, v.ownBlock = some x → ¬ F x
/-- .. opened again. -/
def Op21 (W w : World) (sp : Nat) (many : Int) (n i : Nat) (v : Value) (l : List Rc) : Prop :=
  ∃ K ad aj, Sw W w K sp ad aj 60000 many 1000 (fsG (tN many n i)) (tN many n i) ∧ OS w W.heap.size v l
section
variable {W w w' : World} {K : Nat → Prop} {sp ad aj : Nat} {many : Int} {n i : Nat} {v : Value} {l : List Rc} {head : Int}
theorem os_step {F : Nat → Prop} (o : OS w W.heap.size v l) (hd : ∀ x, v.ownBlock = some x → ¬ K x) (m : Mv8 w K w' F) : OS w' W.heap.size v l ∧ ∀ x, v.ownBlock = some x → ¬ F x :=
  ⟨owns_keeps o m.keeps hd, fun x hx hF => by
    rcases m.own x hF with e | e
    · exact hd x hx e
    · have := (owns_block o hx).2.1; omega⟩
theorem crash21 (h : Sw W w K sp ad aj 60000 many 1000 head (tN many n i)) (t : TOk many n i) (o : OS w W.heap.size v l) (hd : ∀ x, v.ownBlock = some x → ¬ K x) (k : Int) (hk : k ≤ 9223372036854775807) :
    Calls Tryz.prog 18 #[.pointer (some ⟨ad, 0, none⟩), .int .i64 k] w fun e w' => e = .returned (.tuple #[]) ∧ Cr21 W w' ad many n i v l := by
  obtain ⟨h1, h2, h3⟩ := h
  refine (crashS h1 t.ok.g k hk).mono ?_
  rintro e w' ⟨rfl, L', F, d, q1, m⟩
  obtain ⟨b1, b2⟩ := m.below h2 h3.size
  obtain ⟨o1, o2⟩ := os_step o hd m
  exact ⟨rfl, F, d, L', q1, b2, h3.trans b1, o1, o2⟩
theorem open21 (h : Cr21 W w ad many n i v l) (t : TOk many n i) :
    Calls Tryz.prog 9 #[.pointer (some ⟨ad, 0, none⟩), .int .i64 many, .int .i64 1000] w fun e w' => ∃ sp, e = .returned (.tuple #[.pointer (some ⟨sp, 0, none⟩), .nilIface]) ∧ Op21 W w' sp many n i v l := by
  obtain ⟨F, d, hL, q1, q2, b, o, hd⟩ := h
  have ok := t.ok.g
  refine (openS (room := 1000) hL q1 d ok.inv (ok.clean.segs (by have := ok.len; omega)) ok.m (by omega)).mono ?_
  rintro e w' h
  rcases h with ⟨_, sp, aj, K', rfl, s, m⟩ | ⟨h, _⟩
  · rw [clean_cut ok.clean] at s
    obtain ⟨b1, b2⟩ := m.below q2 b.size
    obtain ⟨o1, _⟩ := os_step o hd m
    exact ⟨sp, rfl, K', ad, aj, ⟨s, b2, b.trans b1⟩, o1⟩
  · rw [rec_recOk t.ok.rec_] at h
    cases h
theorem Op21.still (h : Op21 W w sp many n i v l) (hb : Below w.heap.size w w') : Op21 W w' sp many n i v l := by
  obtain ⟨K, ad, aj, s, o⟩ := h
  exact ⟨K, ad, aj, s.still hb, owns_keeps o (Keeps.of_below hb (Nat.le_refl _) (fun _ => False)) (fun _ _ e => e)⟩
theorem Op21.below (h : Op21 W w sp many n i v l) : Below W.heap.size W w := by
  obtain ⟨K, ad, aj, s, o⟩ := h
  exact s.2.2
theorem Op21.next (h : Op21 W w sp many n i v l) (t : TOk many n i) :
    Calls Tryz.prog 24 #[.pointer (some ⟨sp, 0, none⟩)] w fun e w' => e = .returned (.int .i64 (n : Nat)) ∧ ∃ m, w' = w.drewN m := by
  obtain ⟨K, ad, aj, s, o⟩ := h
  have := nextS s.1 t.ok.g
  rw [t.nx] at this
  exact this
theorem Op21.len (h : Op21 W w sp many n i v l) (t : TOk many n i) {q : Nat} (hq : fsG (tN many n i) = (q : Nat)) :
    Calls Tryz.prog 22 #[.pointer (some ⟨sp, 0, none⟩)] w fun e w' => e = .returned (.int .i64 ((n : Int) - (q : Int))) ∧ ∃ m, w' = w.drewN m := by
  obtain ⟨K, ad, aj, s, o⟩ := h
  have := lenS s.1 t.ok.again
  rw [t.nx, hq] at this
  exact this
theorem Op21.top (h : Op21 W w sp many n i v l) (t : TOk many n i) {q : Nat} (hq : fsG (tN many n i) = (q : Nat)) (hr : (recs (tN many n i))[0]? = some (rcN q)) (hq2 : q ≤ 100) (hlt : q < n) :
    Calls Tryz.prog 20 #[.pointer (some ⟨sp, 0, none⟩)] w fun e w' => ∃ B c A cap, e = .returned (.tuple #[btVal (q : Nat) (q : Nat) B 0 c, .slice A (rcN q).length cap, .bool true]) ∧ RdS w' A cap (rcN q) ∧ Below w.heap.size w w' := by
  obtain ⟨K, ad, aj, s, o⟩ := h
  have hg : getF (rcN q) = some (btN q) := getF_put (b := btN q) (fun r h => by simp [btN] at h) (may_21 q (by omega) q (by omega))
  have hj : jFirst (ns (tN many n i)) = fsG (tN many n i) := rfl
  refine (headS s.1 t.ok.again hr (by rw [rcN_len (by omega)]; omega) (by rw [hj]; omega) hg (by rw [hq]; rfl)).mono ?_
  rintro e w' ⟨B, c, A, cap, rfl, _, r, b⟩
  exact ⟨B, c, A, cap, rfl, r, b⟩
theorem Op21.none_ (h : Op21 W w sp many n i v l) (t : TOk many n i) (h0 : n = 0) :
    Calls Tryz.prog 20 #[.pointer (some ⟨sp, 0, none⟩)] w fun e w' => e = .returned (.tuple #[btVal 0 0 none 0 0, .slice none 0 0, .bool false]) ∧ Below w.heap.size w w' := by
  obtain ⟨K, ad, aj, s, o⟩ := h
  have h1 := t.ok.again.bds
  exact headS_none s.1 t.ok.again (by rw [t.nx] at *; omega)
end
set_option maxHeartbeats 3000000 in
set_option maxRecDepth 100000 in
theorem lasts_walk (many keep : Int) (n acks : Nat) (W : World) (hL : Laid W) (hn : n ≤ 40) (ha : acks ≤ n) (hm : 1 ≤ many ∧ many ≤ 100) (hk0 : -9223372036854775808 ≤ keep) (hk1 : keep ≤ 9223372036854775807) :
    Calls Tryz.prog 4 #[.int .i64 many, .int .i64 (n : Nat), .int .i64 (acks : Nat), .int .i64 keep] W (Holds W) := by
  have CU := Lib.hid (up_spill W hL)
  have x1 : ¬ (n : Int) < 0 := by omega
  have x2 : ¬ (40 : Int) < (n : Int) := by omega
  have x3 : ¬ (acks : Int) < 0 := by omega
  have x4 : ¬ (n : Int) < (acks : Int) := by omega
  have HM := Lib.hid hm
  have HW : Hid (6 ≤ W.heap.size) := Lib.hid hL.n
  have HL := Lib.hid hL
  clear hL hm
  go_enter Tryz.func4, Tryz.ntmps4
  go_wp2_with fail
  refine CU.out.mono ?_
  rintro e w1 ⟨rfl, b1⟩
  have C1 := Lib.hid (new_good w1 60000 (by omega) (by omega))
  have B1 := Lib.hid b1
  clear b1 CU
  go_wp2_with fail
  refine C1.out.mono ?_
  rintro e w2 ⟨ad, F, rfl, d2, b2, hF⟩
  have C2 := openS (many := many) (room := 1000) (G := []) ((HL.out.below B1.out).below b2) (fun g hg => by have := hF g hg; have := B1.out.size; have := HW.out; omega) d2 (Inv.nil (by omega)) segs_nil HM.out (by omega)
  have C2 : Hid (Calls Tryz.prog 9 #[.pointer (some ⟨ad, 0, none⟩), .int .i64 many, .int .i64 1000] w2 fun e w' => ∃ sp aj K, e = .returned (.tuple #[.pointer (some ⟨sp, 0, none⟩), .nilIface]) ∧ Sw W w' K sp ad aj 60000 many 1000 0 []) := Lib.hid (C2.mono fun e w' h => by
    rcases h with ⟨_, sp, aj, K', rfl, s, m⟩ | ⟨h, _⟩
    · have h3 := B1.out.trans (b2.mono B1.out.size)
      obtain ⟨q1, q2⟩ := m.below (B := W.heap.size) (fun g hg => by have := hF g hg; have := B1.out.size; omega) h3.size
      exact ⟨sp, aj, K', rfl, s, q2, h3.trans q1⟩
    · cases h)
  clear C1 d2 b2 hF
  go_wp2_with fail
  refine C2.out.mono ?_
  rintro e w3 ⟨sp, aj, K3, rfl, S3⟩
  have S3 : Hid (Sw W w3 K3 sp ad aj 60000 many 1000 0 (gN many 0)) := Lib.hid S3
  clear C2 B1
  go_wp2_with fail
  go_loopg [15] n (fun g s15 wx => ∃ i K, i + g = n ∧ s15 = .int .i64 (i : Nat) ∧ Hid (Sw W wx K sp ad aj 60000 many 1000 0 (gN many i)))
  case atStart => exact ⟨0, K3, by omega, rfl, S3⟩
  case round =>
    clear S3
    obtain ⟨i, K, hi, rfl, HS⟩ := hrel
    cases gk with
    | succ g =>
      have z1 : decide ((i : Int) < (n : Int)) = true := decide_eq_true (by omega)
      have ok := gN_ok HM.out i (by omega)
      have h3 := rcN_len (i := i) (by omega)
      have CP := putS_ok (b := btN i) (A := none) (c := 0) HS.out.1 ok (RdR.nil _ _) sized_nil21 (fun r h => by simp [btN] at h) (may_21 i (by omega) i (by omega)) (by rw [gN_nx]; rfl) (by rw [gN_nx]; omega) (by rw [show putL (btN i) = rcN i from rfl, h3]; omega) (gN_room (by omega) ok.g.clean)
      unfold btVal PutS at CP
      have CP : Hid (Calls Tryz.prog 14 #[.pointer (some ⟨sp, 0, none⟩), .agg #[.int .i64 (i : Nat), .int .i64 (i : Nat), .slice none 0 0]] wr fun e w' => e = .returned .nilIface ∧ ∃ K', Sw W w' K' sp ad aj 60000 many 1000 0 (gN many (i + 1))) := Lib.hid (CP.mono fun e w' ⟨h1, K', h2, h3⟩ => ⟨h1, K', HS.out.step h2 h3⟩)
      clear HS ok h3
      go_wp2_with fail
      refine CP.out.mono ?_
      rintro e w4 ⟨rfl, K4, S4⟩
      have S4 := Lib.hid S4
      clear CP
      go_wp2_with fail
      go_roundg g
      case rel => exact ⟨i + 1, K4, by omega, by go_num, S4⟩
      case measure => omega
    | zero =>
      have z1 : decide ((i : Int) < (n : Int)) = false := decide_eq_false (by omega)
      have S4 : Hid (Sw W wr K sp ad aj 60000 many 1000 ((0 : Nat) : Int) (tN many n 0)) := Lib.hid (by
        have h1 : i = n := by omega
        have := HS.out
        rw [h1] at this
        exact this)
      have z1n : ¬ i < n := by omega
      clear HS hi
      go_wp2_with fail
      clear z1 z1n
      go_loopg [14, 17] n (fun g s14 s17 wx => ∃ j K B cb, j + g = n ∧ j ≤ acks ∧ s17 = .int .i64 (j : Nat) ∧ s14 = .slice B j cb ∧ Hid (Sw W wx K sp ad aj 60000 many 1000 (j : Nat) (tN many n j)) ∧ Hid (OS wx W.heap.size s14 ((List.range j).map rcN)) ∧ Hid (∀ x, s14.ownBlock = some x → ¬ K x))
      case atStart => exact ⟨0, K, none, 0, by omega, by omega, rfl, rfl, S4, Lib.hid (World.ownsRow_nil _ _ _ _), Lib.hid (fun x hx => by cases hx)⟩
      case round =>
        clear S4
        obtain ⟨j, K, B, cb, hj, hja, rfl, rfl, SW, OA, ND⟩ := hrel
        have TK := Lib.hid (tN_ok HM.out (n := n) (by omega) j (by omega))
        cases gk with
        | zero =>
          have z2 : decide ((j : Int) < (n : Int)) = false := decide_eq_false (by omega)
          have z2n : ¬ j < n := by omega
          have h1 : j = acks := by omega
          have HLEN : Hid (n ≤ j ∨ acks < j) := Lib.hid (.inl (by omega))
          have SW : Hid (Sw W wr K sp ad aj 60000 many 1000 (acks : Nat) (tN many n acks)) := Lib.hid (by have := SW.out; rw [h1] at this; exact this)
          have TK : Hid (TOk many n acks) := Lib.hid (by have := TK.out; rw [h1] at this; exact this)
          clear h1 hj hja
          go_wp2_with fail
          have C5 := Lib.hid (crash21 SW.out TK.out OA.out ND.out keep hk1)
          clear SW OA ND
          go_wp2_with fail
          refine C5.out.mono ?_
          rintro e w5 ⟨rfl, X5⟩
          have C6 := Lib.hid (open21 X5 TK.out)
          clear C5 X5
          go_wp2_with fail
          refine C6.out.mono ?_
          rintro e w6 ⟨sp2, rfl, X6⟩
          have X6 := Lib.hid X6
          clear C6
          by_cases hz : n = 0
          · have C7 := X6.out.none_ TK.out hz
            unfold btVal at C7
            have C7 := Lib.hid C7
            have hq0 : Hid (fsG (tN many n acks) = ((0 : Nat) : Int)) := Lib.hid (by
              have h1 := TK.out.nx
              have h2 := TK.out.ok.g.clean.lo
              rw [nxG_eq] at h1
              omega)
            go_wp2_with fail
            refine C7.out.mono ?_
            rintro e w7 ⟨rfl, b7⟩
            have X8 := Lib.hid (X6.out.still (b7.alloc b7.size (.cells #[.int .i64 0, .int .i64 0, .slice none 0 0] 48)))
            have CN := Lib.hid (X8.out.next TK.out)
            have CL := Lib.hid (fun m : Nat => (X8.out.still (below_drewN _ m)).len TK.out hq0.out)
            have y1 : ((n : Int) == 0) = true := by rw [hz]; rfl
            have y2 : decide ((n : Int) - ((0 : Nat) : Int) < (n : Int) - (acks : Int)) = false := decide_eq_false (by omega)
            have y3 : decide ((0 : Int) < (n : Int) - ((0 : Nat) : Int)) = false := decide_eq_false (by omega)
            have y3n : ¬ 0 < n := by omega
            have y4 : IntKind.i64.wrap ((n : Int) - (acks : Int)) = (n : Int) - (acks : Int) := IntWalk.i64_in _ (by omega)
            have B8 := Lib.hid X8.out.below
            clear C7 X6 X8 hq0 b7 hz TK
            go_wp2_with (first
              | (go_at_call 24; refine CN.out.mono ?_; rintro e w9 ⟨rfl, m9, rfl⟩)
              | (go_at_call 22; refine (CL.out _).mono ?_; rintro e w10 ⟨rfl, m10, rfl⟩)
              | fail)
            go_ret
            exact ⟨rfl, B8.out.trans ⟨rfl, rfl, rfl, Nat.le_refl _, fun _ _ => rfl⟩⟩
          · obtain ⟨q, hq, hqn, hqi, hr⟩ := TK.out.first (by omega)
            have C7 := X6.out.top TK.out hq hr (by omega) hqn
            unfold btVal at C7
            have C7 := Lib.hid C7
            have HQ := Lib.hid hq
            have hqL : q < j := by have := HLEN.out; omega
            clear hr hq
            obtain ⟨N3, hN3⟩ : ∃ N3, (rcN q).length = N3 := ⟨_, rfl⟩
            rw [hN3] at C7
            have HN3 := Lib.hid hN3
            clear hN3
            go_wp2_with fail
            refine C7.out.mono ?_
            rintro e w7 ⟨B7, c7, A7, cap7, rfl, r7, b7⟩
            have b8 := b7.alloc b7.size (.cells #[.int .i64 (q : Nat), .int .i64 (q : Nat), .slice B7 0 c7] 48)
            have X8 := Lib.hid (X6.out.still b8)
            have CN := Lib.hid (fun m : Nat => (X8.out.still (below_drewN _ m)).next TK.out)
            have CL := Lib.hid (fun m : Nat => (X8.out.still (below_drewN _ m)).len TK.out HQ.out)
            have r8 := r7.alloc (.cells #[.int .i64 (q : Nat), .int .i64 (q : Nat), .slice B7 0 c7] 48)
            have cv : ∀ m, (convert 22 9 (.slice A7 N3 cap7)).run Tryz.prog ((w7.alloc (.cells #[.int .i64 (q : Nat), .int .i64 (q : Nat), .slice B7 0 c7] 48)).drewN m) = .ok (.string ⟨(rcN q).toArray⟩) ((w7.alloc (.cells #[.int .i64 (q : Nat), .int .i64 (q : Nat), .slice B7 0 c7] 48)).drewN m) := fun m => by rw [← HN3.out]; exact rd_conv (r8.drew m)
            obtain ⟨ga, hga, hgc⟩ : ∃ ga, B = some ⟨ga, 0, none⟩ ∧ (w7.alloc (.cells #[.int .i64 (q : Nat), .int .i64 (q : Nat), .slice B7 0 c7] 48)).cell? ⟨ga, q, none⟩ = some (.string ⟨(rcN q).toArray⟩) := by
              obtain ⟨K, ad', aj', s, o⟩ := X8.out
              obtain ⟨A', cap', e, h1, h2⟩ := os_shape o
              rw [List.length_map, List.length_range] at e
              cases e
              have hrq : ((List.range (j)).map rcN)[q]? = some (rcN q) := by rw [List.getElem?_map, List.getElem?_range hqL]; rfl
              cases B with
              | none => have := (h1 rfl).2; rw [this] at hrq; cases hrq
              | some a =>
                obtain ⟨h3, h4⟩ := h2 a rfl
                have h5 := h4 q _ hrq
                rw [h3, Addr.add_lit, Nat.zero_add] at h5
                exact ⟨a.block, by rw [h3], h5⟩
            subst hga
            have y2 : decide ((n : Int) - (q : Int) < (n : Int) - (acks : Int)) = false := decide_eq_false (by omega)
            have y3 : decide ((0 : Int) < (n : Int) - (q : Int)) = true := decide_eq_true (by omega)
            have y2n : ¬ acks < q := by omega
            have y4 : IntKind.i64.wrap ((n : Int) - (acks : Int)) = (n : Int) - (acks : Int) := IntWalk.i64_in _ (by omega)
            have y5 : IntKind.i64.wrap ((n : Int) - ((n : Int) - (q : Int))) = (q : Int) := by rw [show (n : Int) - ((n : Int) - (q : Int)) = (q : Int) by omega]; exact IntWalk.i64_in _ (by omega)
            have y6 : decide ((q : Int) ≤ (acks : Int)) = true := decide_eq_true (by omega)
            have y7 : (q : Int) < ((j : Nat) : Int) := by omega
            have B8 := Lib.hid X8.out.below
            clear C7 X6 X8 HQ b7 b8 r7 r8 TK
            go_wp2_with (first
              | (go_at_call 24; refine (CN.out 0).mono ?_; rintro e w9 ⟨rfl, m9, rfl⟩)
              | (go_at_call 22; refine (CL.out _).mono ?_; rintro e w10 ⟨rfl, m10, rfl⟩)
              | fail)
            generalize hX9 : (w7.alloc (.cells #[.int .i64 (q : Nat), .int .i64 (q : Nat), .slice B7 0 c7] 48)).drewN _ = X9
            have k1 : X9.cell? ⟨ga, q, none⟩ = some (.string ⟨(rcN q).toArray⟩) := by rw [← hX9]; exact hgc
            have k2 : X9.cell? ⟨w7.heap.size, 0, none⟩ = some (.int .i64 (q : Nat)) := by rw [← hX9]; exact cell_of_block (heap_alloc_new w7 _)
            have k3 : ∀ m, (convert 22 9 (.slice A7 N3 cap7)).run Tryz.prog (X9.drewN m) = .ok (.string ⟨(rcN q).toArray⟩) (X9.drewN m) := fun m => by rw [← hX9, drew_drew]; exact cv _
            have k4 : Hid (∀ m, Calls Tryz.prog 22 #[.pointer (some ⟨sp2, 0, none⟩)] (X9.drewN m) fun e w' => e = .returned (.int .i64 ((n : Int) - (q : Int))) ∧ ∃ m', w' = (X9.drewN m).drewN m') := Lib.hid (fun m => by rw [← hX9, drew_drew]; exact CL.out _)
            have B9 : Hid (Below W.heap.size W X9) := Lib.hid (by rw [← hX9]; exact B8.out.trans ⟨rfl, rfl, rfl, Nat.le_refl _, fun _ _ => rfl⟩)
            clear hX9 hgc cv CL B8 CN
            go_quiet ((go_at_call 22; exact Calls.quiet_of (k4.out _)))
            all_goals go_wp2
            all_goals go_ret
            all_goals exact ⟨rfl, B9.out.trans ⟨rfl, rfl, rfl, Nat.le_refl _, fun _ _ => rfl⟩⟩
        | succ g =>
          have z2 : decide ((j : Int) < (n : Int)) = true := decide_eq_true (by omega)
          have z2n : j < n := by omega
          have hlt : ((j : Nat) : Int) < nxG (tN many n j) := by rw [TK.out.nx]; omega
          obtain ⟨k, r, b, hk, hr, hnn, hb, hs⟩ := TK.out.ok.at hlt
          have hrq : r = rcN j := by
            have h1 : k = j - (fsG (tN many n j)).toNat := by
              have h2 : jFirst (ns (tN many n j)) = fsG (tN many n j) := rfl
              have h3 := TK.out.ok.g.clean.lo
              rw [h2] at hnn
              omega
            have h4 := TK.out.ok.h0
            have h5 := TK.out.ok.g.clean.lo
            rw [TK.out.rc, List.getElem?_drop, show (fsG (tN many n j)).toNat + k = j by omega, List.getElem?_map, List.getElem?_range (by omega)] at hk
            exact (Option.some.inj hk).symm
          have CH := headS SW.out.1 TK.out.ok hk hr hnn hb hs
          rw [hrq] at CH
          have h3 := rcN_len (i := j) (by omega)
          unfold ReadGood btVal at CH
          rw [h3] at CH
          have CH := Lib.hid CH
          have H3 := Lib.hid h3
          clear hk hr hnn hb hs hrq hlt h3
          generalize b.rows.length = NB at *
          go_wp2_with fail
          refine CH.out.mono ?_
          rintro e w4 ⟨B4, c4, A4, cap4, rfl, _, r4, b4⟩
          have b5 := b4.alloc b4.size (.cells #[.int .i64 b.seq, .int .i64 b.start, .slice B4 NB c4] 48)
          have SW5 := SW.out.still b5
          have OA5 : OS (w4.alloc (.cells #[.int .i64 b.seq, .int .i64 b.start, .slice B4 NB c4] 48)) W.heap.size (.slice B j cb) ((List.range j).map rcN) := owns_keeps OA.out (Keeps.of_below b5 (Nat.le_refl _) (fun _ => False)) (fun _ _ e => e)
          have r5 := r4.alloc (.cells #[.int .i64 b.seq, .int .i64 b.start, .slice B4 NB c4] 48)
          have cv : (convert 22 9 (.slice A4 3 cap4)).run Tryz.prog (w4.alloc (.cells #[.int .i64 b.seq, .int .i64 b.start, .slice B4 NB c4] 48)) = .ok (.string ⟨(rcN j).toArray⟩) (w4.alloc (.cells #[.int .i64 b.seq, .int .i64 b.start, .slice B4 NB c4] 48)) := by have := rd_conv r5; rw [H3.out] at this; exact this
          obtain ⟨A6, cap6, w6, h6, s6, o6, n6⟩ := SW5.grow HW.out OA5 ND.out (rcN j) (by simp; omega)
          simp only [World.size_alloc, List.length_map, List.length_range] at h6 o6 n6 s6
          have R6 := Lib.hid h6
          have SW := Lib.hid s6
          have OA : Hid (OS w6 W.heap.size (.slice A6 (j + 1) cap6) ((List.range (j + 1)).map rcN)) := Lib.hid (by rw [List.range_succ, List.map_append]; simpa using o6)
          have ND : Hid (∀ x, (Value.slice A6 (j + 1) cap6).ownBlock = some x → ¬ K x) := Lib.hid (by simpa using n6)
          clear b4 b5 SW5 OA5 r4 r5 h6 s6 o6 n6 CH
          by_cases hb : acks ≤ j
          · have h1 : j = acks := by omega
            have z3 : decide ((acks : Int) ≤ (j : Int)) = true := decide_eq_true (by omega)
            have z3n : acks ≤ j := hb
            have HLEN : Hid (n ≤ j + 1 ∨ acks < j + 1) := Lib.hid (.inr (by omega))
            have SW : Hid (Sw W w6 K sp ad aj 60000 many 1000 (acks : Nat) (tN many n acks)) := Lib.hid (by have := SW.out; rw [h1] at this; exact this)
            have TK : Hid (TOk many n acks) := Lib.hid (by have := TK.out; rw [h1] at this; exact this)
            clear h1 hb hj hja
            go_wp2_with (first
              | (at_builtin; refine wpList_append_two rfl (.tmp 106) (.tmp 109) 65 65 rfl _ _ _ rfl rfl R6.out ?_)
              | fail)
            have C5 := Lib.hid (crash21 SW.out TK.out OA.out ND.out keep hk1)
            clear SW OA ND
            go_wp2_with fail
            refine C5.out.mono ?_
            rintro e w5 ⟨rfl, X5⟩
            have C6 := Lib.hid (open21 X5 TK.out)
            clear C5 X5
            go_wp2_with fail
            refine C6.out.mono ?_
            rintro e w6 ⟨sp2, rfl, X6⟩
            have X6 := Lib.hid X6
            clear C6
            by_cases hz : n = 0
            · omega
            · obtain ⟨q, hq, hqn, hqi, hr⟩ := TK.out.first (by omega)
              have C7 := X6.out.top TK.out hq hr (by omega) hqn
              unfold btVal at C7
              have C7 := Lib.hid C7
              have HQ := Lib.hid hq
              have hqL : q < j + 1 := by have := HLEN.out; omega
              clear hr hq
              obtain ⟨N3, hN3⟩ : ∃ N3, (rcN q).length = N3 := ⟨_, rfl⟩
              rw [hN3] at C7
              have HN3 := Lib.hid hN3
              clear hN3
              go_wp2_with fail
              refine C7.out.mono ?_
              rintro e w7 ⟨B7, c7, A7, cap7, rfl, r7, b7⟩
              have b8 := b7.alloc b7.size (.cells #[.int .i64 (q : Nat), .int .i64 (q : Nat), .slice B7 0 c7] 48)
              have X8 := Lib.hid (X6.out.still b8)
              have CN := Lib.hid (fun m : Nat => (X8.out.still (below_drewN _ m)).next TK.out)
              have CL := Lib.hid (fun m : Nat => (X8.out.still (below_drewN _ m)).len TK.out HQ.out)
              have r8 := r7.alloc (.cells #[.int .i64 (q : Nat), .int .i64 (q : Nat), .slice B7 0 c7] 48)
              have cv : ∀ m, (convert 22 9 (.slice A7 N3 cap7)).run Tryz.prog ((w7.alloc (.cells #[.int .i64 (q : Nat), .int .i64 (q : Nat), .slice B7 0 c7] 48)).drewN m) = .ok (.string ⟨(rcN q).toArray⟩) ((w7.alloc (.cells #[.int .i64 (q : Nat), .int .i64 (q : Nat), .slice B7 0 c7] 48)).drewN m) := fun m => by rw [← HN3.out]; exact rd_conv (r8.drew m)
              obtain ⟨ga, hga, hgc⟩ : ∃ ga, A6 = some ⟨ga, 0, none⟩ ∧ (w7.alloc (.cells #[.int .i64 (q : Nat), .int .i64 (q : Nat), .slice B7 0 c7] 48)).cell? ⟨ga, q, none⟩ = some (.string ⟨(rcN q).toArray⟩) := by
                obtain ⟨K, ad', aj', s, o⟩ := X8.out
                obtain ⟨A', cap', e, h1, h2⟩ := os_shape o
                rw [List.length_map, List.length_range] at e
                cases e
                have hrq : ((List.range (j + 1)).map rcN)[q]? = some (rcN q) := by rw [List.getElem?_map, List.getElem?_range hqL]; rfl
                cases A6 with
                | none => have := (h1 rfl).2; rw [this] at hrq; cases hrq
                | some a =>
                  obtain ⟨h3, h4⟩ := h2 a rfl
                  have h5 := h4 q _ hrq
                  rw [h3, Addr.add_lit, Nat.zero_add] at h5
                  exact ⟨a.block, by rw [h3], h5⟩
              subst hga
              have y2 : decide ((n : Int) - (q : Int) < (n : Int) - (acks : Int)) = false := decide_eq_false (by omega)
              have y3 : decide ((0 : Int) < (n : Int) - (q : Int)) = true := decide_eq_true (by omega)
              have y2n : ¬ acks < q := by omega
              have y4 : IntKind.i64.wrap ((n : Int) - (acks : Int)) = (n : Int) - (acks : Int) := IntWalk.i64_in _ (by omega)
              have y5 : IntKind.i64.wrap ((n : Int) - ((n : Int) - (q : Int))) = (q : Int) := by rw [show (n : Int) - ((n : Int) - (q : Int)) = (q : Int) by omega]; exact IntWalk.i64_in _ (by omega)
              have y6 : decide ((q : Int) ≤ (acks : Int)) = true := decide_eq_true (by omega)
              have y7 : (q : Int) < ((j + 1 : Nat) : Int) := by omega
              have B8 := Lib.hid X8.out.below
              clear C7 X6 X8 HQ b7 b8 r7 r8 TK
              go_wp2_with (first
                | (go_at_call 24; refine (CN.out 0).mono ?_; rintro e w9 ⟨rfl, m9, rfl⟩)
                | (go_at_call 22; refine (CL.out _).mono ?_; rintro e w10 ⟨rfl, m10, rfl⟩)
                | fail)
              generalize hX9 : (w7.alloc (.cells #[.int .i64 (q : Nat), .int .i64 (q : Nat), .slice B7 0 c7] 48)).drewN _ = X9
              have k1 : X9.cell? ⟨ga, q, none⟩ = some (.string ⟨(rcN q).toArray⟩) := by rw [← hX9]; exact hgc
              have k2 : X9.cell? ⟨w7.heap.size, 0, none⟩ = some (.int .i64 (q : Nat)) := by rw [← hX9]; exact cell_of_block (heap_alloc_new w7 _)
              have k3 : ∀ m, (convert 22 9 (.slice A7 N3 cap7)).run Tryz.prog (X9.drewN m) = .ok (.string ⟨(rcN q).toArray⟩) (X9.drewN m) := fun m => by rw [← hX9, drew_drew]; exact cv _
              have k4 : Hid (∀ m, Calls Tryz.prog 22 #[.pointer (some ⟨sp2, 0, none⟩)] (X9.drewN m) fun e w' => e = .returned (.int .i64 ((n : Int) - (q : Int))) ∧ ∃ m', w' = (X9.drewN m).drewN m') := Lib.hid (fun m => by rw [← hX9, drew_drew]; exact CL.out _)
              have B9 : Hid (Below W.heap.size W X9) := Lib.hid (by rw [← hX9]; exact B8.out.trans ⟨rfl, rfl, rfl, Nat.le_refl _, fun _ _ => rfl⟩)
              clear hX9 hgc cv CL B8 CN
              go_quiet ((go_at_call 22; exact Calls.quiet_of (k4.out _)))
              all_goals go_wp2
              all_goals go_ret
              all_goals exact ⟨rfl, B9.out.trans ⟨rfl, rfl, rfl, Nat.le_refl _, fun _ _ => rfl⟩⟩
          · have z3 : decide ((acks : Int) ≤ (j : Int)) = false := decide_eq_false (by omega)
            have z3n : ¬ acks ≤ j := hb
            have hlt : ((j : Nat) : Int) < nxG (tN many n j) := by rw [TK.out.nx]; omega
            have CA : Hid (Calls Tryz.prog 16 #[.pointer (some ⟨sp, 0, none⟩), .int .i64 (j : Nat)] w6 fun e w' => e = .returned .nilIface ∧ ∃ K', Sw W w' K' sp ad aj 60000 many 1000 ((j + 1 : Nat) : Int) (tN many n (j + 1)) ∧ OS w' W.heap.size (.slice A6 (j + 1) cap6) ((List.range (j + 1)).map rcN) ∧ ∀ x, (Value.slice A6 (j + 1) cap6).ownBlock = some x → ¬ K' x) := Lib.hid ((ackS_ok SW.out.1 TK.out.ok hlt).mono fun e w' ⟨h1, K', h2, h3⟩ => ⟨h1, K', SW.out.step h2 h3, (os_step OA.out ND.out h3).1, (os_step OA.out ND.out h3).2⟩)
            clear SW OA ND TK hlt hb
            go_wp2_with (first
              | (at_builtin; refine wpList_append_two rfl (.tmp 106) (.tmp 109) 65 65 rfl _ _ _ rfl rfl R6.out ?_)
              | fail)
            refine CA.out.mono ?_
            rintro e w7 ⟨rfl, K7, s7, o7, n7⟩
            have s7 := Lib.hid s7
            have o7 := Lib.hid o7
            have n7 := Lib.hid n7
            clear CA
            go_wp2_with fail
            go_roundg g
            case rel => exact ⟨j + 1, K7, A6, cap6, by omega, by omega, by go_num, rfl, s7, o7, n7⟩
            case measure => omega
theorem lasts_any {many n acks keep : Int} {W : World} (hL : Laid W) (hk0 : -9223372036854775808 ≤ keep) (hk1 : keep ≤ 9223372036854775807) :
    Calls Tryz.prog 4 #[.int .i64 many, .int .i64 n, .int .i64 acks, .int .i64 keep] W (Holds W) := by
  by_cases h1 : n < 0
  · exact lasts_early many n acks keep W hL (.inl h1)
  · by_cases h2 : 40 < n
    · exact lasts_early many n acks keep W hL (.inr (.inl ⟨h1, h2⟩))
    · by_cases h3 : acks < 0
      · exact lasts_early many n acks keep W hL (.inr (.inr (.inl ⟨h1, h2, h3⟩)))
      · by_cases h4 : n < acks
        · exact lasts_early many n acks keep W hL (.inr (.inr (.inr ⟨h1, h2, h3, h4⟩)))
        · obtain ⟨N, rfl⟩ : ∃ N : Nat, n = (N : Int) := ⟨n.toNat, by omega⟩
          obtain ⟨A, rfl⟩ : ∃ A : Nat, acks = (A : Int) := ⟨acks.toNat, by omega⟩
          by_cases hm : many < 1 ∨ 100 < many
          · exact lasts_many many keep N A W hL (by omega) (by omega) hm
          · exact lasts_walk many keep N A W hL (by omega) (by omega) (by omega) hk0 hk1
end Go.Proofs.YtgnkkcnmepafpaaGreatDoor
