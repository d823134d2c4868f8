/-
  Layer 8: the program's disk and the document's side by side; pick, Code.
-/
import Derived.Test.YtodleafebjkdmaaDiskUp
import Derived.Test.YtodleafebjkdmaaDiskRef3
import Derived.Test.YtodleafebjkdmaaDiskRef4
namespace Go.Proofs.Ytodleafebjkdmaa
open Go.ChangeShapes Go.WideShapes Go.ChangeAt Go.RowKit
set_option linter.unusedVariables false

/-- Both disks, and other blocks of the call's own (E) that neither holds; what was there is as it was. -/
def Bo (W w : World) (E : List Nat) (a m rm : Nat) (dn : Bool) (L : List Pt) (dn2 : Bool) (L2 : List Pt) : Prop :=
  ∃ F G, Dsk w F a rm dn L ∧ Rfd w G m rm dn2 L2 ∧ (∀ g, F g → W.heap.size ≤ g) ∧ (∀ g, G g → W.heap.size ≤ g) ∧ (∀ g, F g → ¬ G g) ∧ Below W.heap.size W w ∧ ∀ k ∈ E, ¬ F k ∧ ¬ G k ∧ W.heap.size ≤ k ∧ k < w.heap.size
def Same (E : List Nat) (w w' : World) : Prop := ∀ k ∈ E, w'.heap[k]? = w.heap[k]?
theorem Same.refl (E : List Nat) (w : World) : Same E w w := fun _ _ => rfl
theorem Same.trans {E : List Nat} {w w1 w2 : World} (h : Same E w w1) (k : Same E w1 w2) : Same E w w2 := fun i hi => (k i hi).trans (h i hi)
section
variable {W w w' : World} {E : List Nat} {a m rm : Nat} {dn dn2 : Bool} {L L2 : List Pt}
theorem Bo.below (h : Bo W w E a m rm dn L dn2 L2) : Below W.heap.size W w := by
  obtain ⟨F, G, _, _, _, _, _, h, _⟩ := h
  exact h
theorem Bo.still (h : Bo W w E a m rm dn L dn2 L2) (hb : Below w.heap.size w w') : Bo W w' E a m rm dn L dn2 L2 ∧ Same E w w' := by
  obtain ⟨F, G, h1, h2, h3, h4, h5, h6, h7⟩ := h
  refine ⟨⟨F, G, h1.below hb, h2.below hb, h3, h4, h5, h6.trans (hb.mono h6.size), fun k hk => ?_⟩, fun k hk => hb.block k (h7 k hk).2.2.2⟩
  obtain ⟨k1, k2, k3, k4⟩ := h7 k hk
  exact ⟨k1, k2, k3, Nat.lt_of_lt_of_le k4 hb.size⟩
theorem Bo.set (h : Bo W w E a m rm dn L dn2 L2) (p : Addr) (v : Value) (hp : p.block ∈ E) : Bo W (w.setCell p v) E a m rm dn L dn2 L2 := by
  obtain ⟨F, G, h1, h2, h3, h4, h5, h6, h7⟩ := h
  obtain ⟨k1, k2, k3, k4⟩ := h7 _ hp
  have k : Keeps (fun g => g = p.block) w (w.setCell p v) := (Keeps.refl _ w).set _ _ (.inl rfl)
  refine ⟨F, G, h1.keeps k (fun g hg e => k1 (by rw [← e]; exact hg)), h2.keeps k (fun g hg e => k2 (by rw [← e]; exact hg)), h3, h4, h5, h6.setCell k3 v, fun j hj => ?_⟩
  obtain ⟨j1, j2, j3, j4⟩ := h7 j hj
  exact ⟨j1, j2, j3, by rw [World.size_setCell]; exact j4⟩
theorem Bo.drewN (h : Bo W w E a m rm dn L dn2 L2) (n : Nat) : Bo W (w.drewN n) E a m rm dn L dn2 L2 :=
  (h.still (below_drewN8 (Below.refl _ _) n)).1
theorem Bo.less (h : Bo W w E a m rm dn L dn2 L2) : Bo W w [] a m rm dn L dn2 L2 := by
  obtain ⟨F, G, h1, h2, h3, h4, h5, h6, h7⟩ := h
  exact ⟨F, G, h1, h2, h3, h4, h5, h6, fun k hk => by cases hk⟩
/-- A block more, laid just now. -/
theorem Bo.more (h : Bo W w E a m rm dn L dn2 L2) (hb : Below w.heap.size w w') {j : Nat} (h1 : w.heap.size ≤ j) (h2 : j < w'.heap.size) : Bo W w' (j :: E) a m rm dn L dn2 L2 := by
  obtain ⟨F, G, r1, r2, r3, r4, r5, r6, r7⟩ := h
  have hs := r6.size
  have hz := hb.size
  refine ⟨F, G, r1.below hb, r2.below hb, r3, r4, r5, r6.trans (hb.mono hs), fun k hk => ?_⟩
  rcases List.mem_cons.1 hk with rfl | hk
  · exact ⟨fun e => by have := r1.lt e; omega, fun e => by have := r2.lt e; omega, by omega, h2⟩
  · obtain ⟨k1, k2, k3, k4⟩ := r7 k hk
    exact ⟨k1, k2, k3, by omega⟩
theorem Bo.stepP {w' : World} {F F' G : Nat → Prop} {dn' : Bool} {L' : List Pt} (r2 : Rfd w G m rm dn2 L2) (r3 : ∀ g, F g → W.heap.size ≤ g) (r4 : ∀ g, G g → W.heap.size ≤ g) (r5 : ∀ g, F g → ¬ G g) (r6 : Below W.heap.size W w)
    (r7 : ∀ k ∈ E, ¬ F k ∧ ¬ G k ∧ W.heap.size ≤ k ∧ k < w.heap.size) (hd : Dsk w' F' a rm dn' L') (hm : Mv8 w F w' F') : Bo W w' E a m rm dn' L' dn2 L2 ∧ Same E w w' := by
  have hs := hm.keeps.size
  have h6 := r6.size
  refine ⟨⟨F', G, hd, r2.keeps hm.keeps (fun g hg hf => r5 g hf hg), fun g hg => ?_, r4, fun g hg hG => ?_, r6.trans (hm.keeps.below r3 h6), fun k hk => ?_⟩, fun k hk => ?_⟩
  · rcases hm.own g hg with e | e
    · exact r3 g e
    · omega
  · rcases hm.own g hg with e | e
    · exact r5 g e hG
    · have := r2.lt hG; omega
  · obtain ⟨k1, k2, k3, k4⟩ := r7 k hk
    refine ⟨fun e => ?_, k2, k3, by omega⟩
    rcases hm.own k e with e | e
    · exact k1 e
    · omega
  · obtain ⟨k1, k2, k3, k4⟩ := r7 k hk
    exact hm.keeps.block k k4 k1
theorem Bo.stepR {w' : World} {F G G' : Nat → Prop} {dn' : Bool} {L' : List Pt} (r1 : Dsk w F a rm dn L) (r3 : ∀ g, F g → W.heap.size ≤ g) (r4 : ∀ g, G g → W.heap.size ≤ g) (r5 : ∀ g, F g → ¬ G g) (r6 : Below W.heap.size W w)
    (r7 : ∀ k ∈ E, ¬ F k ∧ ¬ G k ∧ W.heap.size ≤ k ∧ k < w.heap.size) (hd : Rfd w' G' m rm dn' L') (hm : Mv8 w G w' G') : Bo W w' E a m rm dn L dn' L' ∧ Same E w w' := by
  have hs := hm.keeps.size
  have h6 := r6.size
  refine ⟨⟨F, G', r1.keeps hm.keeps (fun g hg hf => r5 g hg hf), hd, r3, fun g hg => ?_, fun g hg hG => ?_, r6.trans (hm.keeps.below r4 h6), fun k hk => ?_⟩, fun k hk => ?_⟩
  · rcases hm.own g hg with e | e
    · exact r4 g e
    · omega
  · rcases hm.own g hG with e | e
    · exact r5 g hg e
    · have := r1.lt hg; omega
  · obtain ⟨k1, k2, k3, k4⟩ := r7 k hk
    refine ⟨k1, fun e => ?_, k3, by omega⟩
    rcases hm.own k e with e | e
    · exact k2 e
    · omega
  · obtain ⟨k1, k2, k3, k4⟩ := r7 k hk
    exact hm.keeps.block k k4 k2
theorem Bo.callP {K : FuncId} {args : Array Value} {Q : Ending → Prop} {dn' : Bool} {L' : List Pt} (h : Bo W w E a m rm dn L dn2 L2)
    (hc : ∀ F, Dsk w F a rm dn L → Calls Try.prog K args w fun e w' => Q e ∧ ∃ F', Dsk w' F' a rm dn' L' ∧ Mv8 w F w' F') :
    Calls Try.prog K args w fun e w' => Q e ∧ Bo W w' E a m rm dn' L' dn2 L2 ∧ Same E w w' := by
  obtain ⟨F, G, r1, r2, r3, r4, r5, r6, r7⟩ := h
  refine (hc F r1).mono ?_
  rintro e w' ⟨q, F', hd, hm⟩
  exact ⟨q, Bo.stepP r2 r3 r4 r5 r6 r7 hd hm⟩
theorem Bo.callR {K : FuncId} {args : Array Value} {Q : Ending → Prop} {dn' : Bool} {L' : List Pt} (h : Bo W w E a m rm dn L dn2 L2)
    (hc : ∀ G, Rfd w G m rm dn2 L2 → Calls Try.prog K args w fun e w' => Q e ∧ ∃ G', Rfd w' G' m rm dn' L' ∧ Mv8 w G w' G') :
    Calls Try.prog K args w fun e w' => Q e ∧ Bo W w' E a m rm dn L dn' L' ∧ Same E w w' := by
  obtain ⟨F, G, r1, r2, r3, r4, r5, r6, r7⟩ := h
  refine (hc G r2).mono ?_
  rintro e w' ⟨q, G', hd, hm⟩
  exact ⟨q, Bo.stepR r1 r3 r4 r5 r6 r7 hd hm⟩
theorem Bo.readP (h : Bo W w E a m rm dn L dn2 L2) (n : Int) (hi : Inv rm L) (h0 : -9223372036854775808 ≤ n) (h1 : n ≤ 9223372036854775807) :
    Calls Try.prog 16 #[.pointer (some ⟨a, 0, none⟩), .int .i64 n] w fun e w' => ∃ A cap, e = .returned (.tuple #[.slice A (opRead dn L n).2.length cap, ErrV (opRead dn L n).1]) ∧ RdS w' A cap (opRead dn L n).2 ∧ Bo W w' E a m rm dn L dn2 L2 ∧ Same E w w' := by
  have H := h
  obtain ⟨F, G, r1, r2, r3, r4, r5, r6, r7⟩ := h
  refine (readD w F a rm dn L n r1 hi h0 h1).mono ?_
  rintro e w' ⟨v, rfl, o, b⟩
  obtain ⟨A, cap, rfl, r⟩ := o.rd
  exact ⟨A, cap, rfl, r, H.still b⟩
theorem Bo.readR (h : Bo W w E a m rm dn L dn2 L2) (n : Int) (hi : Inv rm L2) (hl : L2.length ≤ 1000) :
    Calls Try.prog 17 #[.pointer (some ⟨m, 0, none⟩), .int .i64 n] w (RefReads w (opRead dn2 L2 n)) := by
  obtain ⟨F, G, r1, r2, r3, r4, r5, r6, r7⟩ := h
  exact refRead w G m rm dn2 L2 n r2 hi hl
theorem Bo.usedP (h : Bo W w E a m rm dn L dn2 L2) :
    Calls Try.prog 22 #[.pointer (some ⟨a, 0, none⟩)] w fun e w' => e = .returned (.int .i64 (used L : Nat)) ∧ w' = w := by
  obtain ⟨F, G, r1, r2, r3, r4, r5, r6, r7⟩ := h
  exact used_walk w F a rm dn L r1
theorem Bo.usedR (h : Bo W w E a m rm dn L dn2 L2) (hi : Inv rm L2) (hl : L2.length ≤ 1000) :
    Calls Try.prog 23 #[.pointer (some ⟨m, 0, none⟩)] w fun e w' => e = .returned (.int .i64 (used L2 : Nat)) ∧ w' = w := by
  obtain ⟨F, G, r1, ⟨A, cap, r2, _⟩, r3, r4, r5, r6, r7⟩ := h
  exact refUsed w m rm dn2 A cap L2 r2 hl (by have := hi.fits; have := hi.room; omega)
theorem Bo.parts (h : Bo W w E a m rm dn L dn2 L2) (hi : Rises L) (hl : L.length ≤ 1000) :
    Calls Try.prog 24 #[.pointer (some ⟨a, 0, none⟩)] w fun e w' => ∃ v, e = .returned v ∧ OI w' w.heap.size v (nums L) ∧ Bo W w' E a m rm dn L dn2 L2 ∧ Same E w w' := by
  have H := h
  obtain ⟨F, G, r1, r2, r3, r4, r5, r6, r7⟩ := h
  refine (partsD w F a rm dn L r1 hi hl).mono ?_
  rintro e w' ⟨v, rfl, o, b⟩
  exact ⟨v, rfl, o, H.still b⟩
/-- The document's disk as it lies. -/
theorem Bo.ref (h : Bo W w E a m rm dn L dn2 L2) : ∃ A cap, RfB w m rm dn2 A cap L2 := by
  obtain ⟨F, G, r1, ⟨A, cap, r2, _⟩, r3, r4, r5, r6, r7⟩ := h
  exact ⟨A, cap, r2⟩
theorem Bo.upR (h : Bo W w E a m rm dn L dn2 L2) : Bo W (w.setCell ⟨m, 2, none⟩ (.bool false)) E a m rm dn L false L2 ∧ Same E w (w.setCell ⟨m, 2, none⟩ (.bool false)) := by
  obtain ⟨F, G, r1, ⟨A, cap, r2, hG⟩, r3, r4, r5, r6, r7⟩ := h
  exact Bo.stepR r1 r3 r4 r5 r6 r7 ⟨A, cap, r2.setD false, hG⟩ ⟨(Keeps.refl G w).set _ _ (.inl ((hG m).2 (.inl rfl))), fun g hg => .inl hg⟩
end

theorem ret_i64 {a b : Int} (h : a = b) : Ending.returned (.int .i64 a) = .returned (.int .i64 b) := by rw [h]
/-- Which deed it is. -/
def pickN (c : Int) : Nat := (if c < 0 then (-(c + 1)) % 8 else c % 8).toNat
theorem pickN_lt (c : Int) : pickN c < 8 := by
  unfold pickN
  split <;> omega
theorem pick_walk (w : World) (c : Int) (h0 : -9223372036854775808 ≤ c) (h1 : c ≤ 9223372036854775807) :
    Calls Try.prog 7 #[.int .i64 c, .int .i64 8] w fun e w' => e = .returned (.int .i64 (pickN c : Nat)) ∧ w' = w := by
  by_cases hc : c < 0
  · have e : ((pickN c : Nat) : Int) = (-(c + 1)) % 8 := by unfold pickN; rw [if_pos hc]; omega
    rw [e]
    go_enter Try.func7, Try.ntmps7
    go_wp2_with fail
    go_ret
    exact ⟨ret_i64 (by have t := Int.tmod_eq_emod_of_nonneg (a := -(c + 1)) (b := 8) (by omega); rw [Int.neg_tmod] at t; omega), rfl⟩
  · have e : ((pickN c : Nat) : Int) = c % 8 := by unfold pickN; rw [if_neg hc]; omega
    rw [e]
    go_enter Try.func7, Try.ntmps7
    go_wp2_with fail
    go_ret
    exact ⟨ret_i64 (by omega), rfl⟩
theorem code_walk (w : World) (c : Nat) (hc : c ≤ 10) :
    Calls Try.prog 21 #[ErrV c] w fun e w' => e = .returned (.int .i64 (c : Nat)) ∧ w' = w := by
  by_cases h0 : c = 0
  · subst h0
    rw [ErrV_0]
    go_enter Try.func21, Try.ntmps21
    go_wp2_with fail
    go_ret
    exact ⟨rfl, rfl⟩
  · rw [ErrV_code c h0]
    have eqc := eql_codes
    go_enter Try.func21, Try.ntmps21
    go_wp2_with fail
    go_loop [3] (fun s => ∃ k : Nat, 1 ≤ k ∧ k ≤ c ∧ s = .int .i64 k) (fun s => c - (intOf s).toNat)
    case atStart => exact ⟨1, by omega, by omega, rfl⟩
    case round =>
      obtain ⟨k, hk1, hk, rfl⟩ := hrel
      have x1 : decide ((k : Int) ≤ 10) = true := decide_eq_true (by omega)
      by_cases e : k = c
      · subst e
        have x2 : ((k : Int) == (k : Int)) = true := by simp
        go_wp2_with fail
        go_ret
        exact ⟨rfl, rfl⟩
      · have x2 : ((c : Int) == (k : Int)) = false := beq_eq_false_iff_ne.2 (by omega)
        go_wp2_with fail
        go_round
        case rel => exact ⟨k + 1, by omega, by omega, by go_num⟩
        case measure => simp [intOf]; omega
end Go.Proofs.Ytodleafebjkdmaa
