/-
  Layer 13 (timer): the law's own parts: one of n, the first of what is due; the document's example.
-/
import Derived.Test.YtnainhdhfjokmaaTimerSet
import Derived.Test.YtnainhdhfjokmaaTriples
namespace Go.Proofs.Ytnainhdhfjokmaa
open Go.ChangeShapes Go.WideShapes Go.ChangeAt Go.RowKit Go.Shelf
set_option linter.unusedVariables false

theorem ret_i64 {a b : Int} (h : a = b) : Ending.returned (.int .i64 a) = .returned (.int .i64 b) := by rw [h]
/-- One of n. -/
def pickN (c : Int) (n : Nat) : Nat := (if c < 0 then (-(c + 1)) % (n : Int) else c % (n : Int)).toNat
theorem pickN_lt (c : Int) {n : Nat} (hn : 0 < n) : pickN c n < n := by
  have h1 := Int.emod_lt_of_pos (-(c + 1)) (show (0 : Int) < n by omega)
  have h2 := Int.emod_lt_of_pos c (show (0 : Int) < n by omega)
  unfold pickN
  split <;> omega
theorem pick_walk (w : World) (c : Int) (n : Nat) (hc : InI c) (hn : 0 < n) (hn1 : n ≤ 1000) :
    Calls Try.prog 7 #[.int .i64 c, .int .i64 (n : Nat)] w fun e w' => e = .returned (.int .i64 (pickN c n : Nat)) ∧ w' = w := by
  obtain ⟨h0, h1⟩ := hc
  have hz : ¬ (n : Int) = 0 := by omega
  by_cases hc : c < 0
  · have e : (-(c + 1)).tmod (n : Int) = ((pickN c n : Nat) : Int) := by
      have := Int.emod_nonneg (-(c + 1)) (show (n : Int) ≠ 0 by omega)
      rw [Int.tmod_eq_emod_of_nonneg (by omega)]; unfold pickN; rw [if_pos hc]; omega
    have t := Int.neg_tmod (a := c + 1) (b := (n : Int))
    generalize pickN c n = p at *
    have z1 : IntKind.i64.wrap (c + 1) = c + 1 := by rw [IntKind.wrap_i64]; omega
    have z2 : IntKind.i64.wrap (-(c + 1)) = -(c + 1) := by rw [IntKind.wrap_i64]; omega
    go_enter Try.func7, Try.ntmps7
    go_wp2_with fail
    go_ret
    exact ⟨ret_i64 (by first | exact e | omega), rfl⟩
  · have e : c.tmod (n : Int) = ((pickN c n : Nat) : Int) := by
      have := Int.emod_nonneg c (show (n : Int) ≠ 0 by omega)
      rw [Int.tmod_eq_emod_of_nonneg (by omega)]; unfold pickN; rw [if_neg hc]; omega
    generalize pickN c n = p at *
    go_enter Try.func7, Try.ntmps7
    go_wp2_with fail
    go_ret
    exact ⟨ret_i64 (by first | exact e | omega), rfl⟩
section
variable {w w' : World} {base : Nat} {v : Value} {l : List Du} {d : Du}
/-- Where one that is due lies. -/
theorem OwnD.at (h : OwnD w base v l) {i : Nat} (hi : l[i]? = some d) :
    ∃ g cap, v = .slice (some ⟨g, 0, none⟩) l.length cap ∧ base ≤ g ∧ ∀ w', Below w.heap.size w w' → w'.cell? ⟨g, i * 2, none⟩ = some (.int .i64 d.1) ∧ w'.cell? ⟨g, i * 2 + 1, none⟩ = some (.int .i64 d.2) := by
  have hl := (List.getElem?_eq_some_iff.1 hi).1
  rcases h.parts with ⟨_, e⟩ | ⟨g, cap, cur, rfl, hb, hg, _⟩
  · subst e; simp at hl
  · refine ⟨g, cap, rfl, hb, fun w' b => ?_⟩
    have h' : OwnD w' base (.slice (some ⟨g, 0, none⟩) l.length cap) l := h.keeps (Keeps.of_below b (Nat.le_refl _) (fun _ => False)) (fun _ _ e => e)
    have k0 := World.ownsRow.cellAt h' (i * 2) (by omega)
    have k1 := World.ownsRow.cellAt h' (i * 2 + 1) (by omega)
    exact ⟨k0.trans (dueCells_at hi (j := 0) (by omega)), k1.trans (dueCells_at hi (j := 1) (by omega))⟩
/-- The place of the first of the least among the first i. -/
def Best (l : List Du) (i : Nat) (z : Int) : Prop := (i = 0 ∧ z = -1) ∨ ∃ (b : Nat) (d : Du), z = (b : Int) ∧ b < i ∧ l[b]? = some d ∧ (∀ (j : Nat) (e : Du), j < b → l[j]? = some e → d.1 < e.1) ∧ ∀ (j : Nat) (e : Du), j < i → l[j]? = some e → d.1 ≤ e.1
/-- What first tells. -/
def FirstZ (l : List Du) (z : Int) : Prop := (l = [] ∧ z = -1) ∨ ∃ (b : Nat) (d : Du), z = (b : Int) ∧ IsFirst l b d
theorem best_end {z : Int} (h : Best l l.length z) : FirstZ l z := by
  rcases h with ⟨h0, h1⟩ | ⟨b, d, h0, h1, h2, h3, h4⟩
  · exact .inl ⟨List.length_eq_zero_iff.1 h0, h1⟩
  · exact .inr ⟨b, d, h0, h2, h3, fun j e he => h4 j e (List.getElem?_eq_some_iff.1 he).1 he⟩
theorem best_one (h : l[0]? = some d) : Best l 1 0 := .inr ⟨0, d, rfl, by omega, h, fun j e hj _ => by omega, fun j e hj he => by
  obtain rfl : j = 0 := by omega
  rw [h] at he; cases he; omega⟩
theorem best_new {i b : Nat} {d e : Du} (h : Best l i (b : Int)) (hb : l[b]? = some d) (he : l[i]? = some e) (hlt : e.1 < d.1) : Best l (i + 1) (i : Int) := by
  rcases h with ⟨_, h1⟩ | ⟨b', d', h0, h1, h2, h3, h4⟩
  · omega
  · obtain rfl : b = b' := by omega
    rw [hb] at h2; cases h2
    refine .inr ⟨i, e, rfl, by omega, he, fun j f hj hf => ?_, fun j f hj hf => ?_⟩
    · have := h4 j f hj hf; omega
    · by_cases hji : j = i
      · subst hji; rw [he] at hf; cases hf; omega
      · have := h4 j f (by omega) hf; omega
theorem best_old {i b : Nat} {d e : Du} (h : Best l i (b : Int)) (hb : l[b]? = some d) (he : l[i]? = some e) (hle : ¬ e.1 < d.1) : Best l (i + 1) (b : Int) := by
  rcases h with ⟨_, h1⟩ | ⟨b', d', h0, h1, h2, h3, h4⟩
  · omega
  · obtain rfl : b = b' := by omega
    rw [hb] at h2; cases h2
    refine .inr ⟨b, d, rfl, by omega, hb, h3, fun j f hj hf => ?_⟩
    by_cases hji : j = i
    · subst hji; rw [he] at hf; cases hf; omega
    · exact h4 j f (by omega) hf
set_option maxRecDepth 100000 in
set_option maxHeartbeats 400000 in
theorem first_walk (h : OwnD w base v l) (hl : l.length ≤ 1000) :
    Calls Try.prog 10 #[v] w fun e w' => ∃ z, e = .returned (.int .i64 z) ∧ FirstZ l z ∧ ∃ n, w' = w.drewN n := by
  have H := Lib.hid h
  obtain ⟨A, cap, rfl, hs0, hA0⟩ := h.src
  obtain ⟨N, hN⟩ : ∃ N, l.length = N := ⟨_, rfl⟩
  have HN := Lib.hid hN
  rw [hN] at hl H ⊢
  clear h hN hs0 hA0
  go_enter Try.func10, Try.ntmps10
  go_wp2_with fail
  go_loopg [3, 4] N (fun g s3 s4 wx => ∃ (i : Nat) (z : Int), i + g = N ∧ s3 = .int .i64 z ∧ s4 = .int .i64 (i : Nat) ∧ Hid (Best l i z) ∧ Hid (∃ n, wx = w.drewN n))
  case atStart => exact ⟨0, -1, by omega, rfl, rfl, Lib.hid (.inl ⟨rfl, rfl⟩), Lib.hid ⟨0, rfl⟩⟩
  case round =>
    obtain ⟨i, z, hi, rfl, rfl, HB, HW⟩ := hrel
    cases gk with
    | zero =>
      obtain rfl : i = N := by omega
      go_wp2_with fail
      go_ret
      exact ⟨z, rfl, best_end (by rw [HN.out]; exact HB.out), HW.out⟩
    | succ g =>
      have x1 : (i : Int) < N := by omega
      have hil : i < l.length := by rw [HN.out]; omega
      obtain ⟨e, he⟩ : ∃ e, l[i]? = some e := ⟨l[i]'hil, List.getElem?_eq_getElem _⟩
      obtain ⟨n0, rfl⟩ := HW.out
      have HI := Lib.hid hi
      have HE := Lib.hid he
      rcases HB.out with ⟨hi0, rfl⟩ | ⟨b, d, rfl, hb, hd, hx1, hx2⟩
      · obtain ⟨gb, cap', e1, hx3, hc⟩ := H.out.at he
        rw [HN.out] at e1
        cases e1
        obtain ⟨k0, k1⟩ := hc w (Below.refl _ _)
        have H0 := Lib.hid hi0
        have x4 : ¬ e.1 < e.1 := by omega
        clear he hc hil HB hi hi0 hx3 k1
        go_wp2_with fail
        go_quiet (fail)
        go_wp2_with fail
        go_roundg g
        case rel => exact ⟨i + 1, i, by have := HI.out; omega, rfl, by go_num, Lib.hid (by have h0 := H0.out; have h1 := HE.out; subst h0; exact best_one h1), Lib.hid ⟨n0 + nq, by rw [← drew_drew]⟩⟩
        case measure => omega
      · obtain ⟨gb, cap', e1, hx3, hc⟩ := H.out.at he
        rw [HN.out] at e1
        cases e1
        obtain ⟨g2, c2, e2, hx4, hc2⟩ := H.out.at hd
        rw [HN.out] at e2
        cases e2
        obtain ⟨k0, k2⟩ := hc w (Below.refl _ _)
        obtain ⟨k1, k3⟩ := hc2 w (Below.refl _ _)
        have HD := Lib.hid hd
        have x2 : ¬ (b : Int) < 0 := by omega
        have x3 : (b : Int) < N := by omega
        have HL := Lib.hid hb
        clear he hc hc2 hil hd hi hb hx1 hx2 hx3 hx4 k2 k3
        by_cases hlt : e.1 < d.1
        · go_wp2_with fail
          go_quiet (fail)
          go_wp2_with fail
          go_roundg g
          case rel => exact ⟨i + 1, i, by have := HI.out; omega, rfl, by go_num, Lib.hid (best_new HB.out HD.out HE.out hlt), Lib.hid ⟨n0 + nq, by rw [← drew_drew]⟩⟩
          case measure => omega
        · go_wp2_with fail
          go_quiet (fail)
          go_wp2_with fail
          go_roundg g
          case rel => exact ⟨i + 1, b, by have := HI.out; omega, rfl, by go_num, Lib.hid (best_old HB.out HD.out HE.out (by omega)), Lib.hid ⟨n0 + nq, by rw [← drew_drew]⟩⟩
          case measure => omega
end
theorem cut_nil (now : Int) : CutAt [] now 0 := ⟨Nat.le_refl _, fun i d hi _ => by omega, fun i d _ hd => by simp at hd⟩
set_option maxRecDepth 100000 in
set_option maxHeartbeats 1000000 in
theorem up_timer (w : World) : Calls Try.prog 5 #[] w (Holds w) := by
  have CN := Lib.hid (new_walk w)
  have eqc := eql_codes
  have e1 : Hid (insD [] 0 ((5 : Int), (1 : Int)) = [(5, 1)]) := Lib.hid rfl
  have e2 : Hid (insD [((5 : Int), (1 : Int))] 0 (3, 2) = [(3, 2), (5, 1)]) := Lib.hid rfl
  have s1 : Hid (Srt [((5 : Int), (1 : Int))]) := Lib.hid (List.pairwise_singleton _ _)
  go_enter Try.func5, Try.ntmps5
  go_wp2_with fail
  refine CN.out.mono ?_
  rintro e w1 ⟨rfl, q1, b1⟩
  have C1 := Lib.hid (set_good q1 (at' := 5) (what := 1) (k := 0) (by omega) (cut_nil 5) (by simp))
  have M1 : Hid (Mv8 w (fun _ => False) w1 (fun g => w.heap.size ≤ g)) := Lib.hid ⟨Keeps.of_below b1 (Nat.le_refl _) _, fun g hg => .inr hg⟩
  obtain ⟨a, ha⟩ : ∃ a, w.heap.size = a := ⟨_, rfl⟩
  rw [ha] at C1 ⊢
  have HA := Lib.hid ha
  clear CN q1 b1 ha
  go_wp2_with fail
  refine C1.out.mono ?_
  rintro e w2 ⟨rfl, F2, q2, m2⟩
  rw [e1.out] at q2
  have C2 := Lib.hid (set_good q2 (at' := 3) (what := 2) (k := 0) (by omega) (cut_zero s1.out (by decide)) (by simp))
  have M2 : Hid (Mv8 w (fun _ => False) w2 (fun g => w.heap.size ≤ g)) := Lib.hid ⟨M1.out.keeps.trans (m2.keeps) (fun g hg => by have := HA.out; have hg : g = a := hg; exact .inr (by omega)), fun g hg => .inr hg⟩
  have G2 : Hid (∀ g, F2 g → w.heap.size ≤ g) := Lib.hid (fun g hg => by
    have := HA.out
    have := M1.out.keeps.size
    rcases m2.own g hg with e | e
    · have e : g = a := e; omega
    · omega)
  clear C1 q2 m2 M1
  go_wp2_with fail
  refine C2.out.mono ?_
  rintro e w3 ⟨rfl, F3, q3, m3⟩
  rw [e2.out] at q3
  have C3 := Lib.hid (set_early q3 (-1) 0 (by omega))
  have C4 := Lib.hid (take_walk q3 (now := 9) (k := 2) (cut_cons (cut_cons (cut_nil 9) (by decide)) (by decide)) (by simp))
  have M3 : Hid (Mv8 w (fun _ => False) w3 (fun g => w.heap.size ≤ g)) := Lib.hid ⟨M2.out.keeps.trans (m3.keeps) (fun g hg => .inr (G2.out g hg)), fun g hg => .inr hg⟩
  have G3 : Hid (∀ g, F3 g → w.heap.size ≤ g) := Lib.hid (fun g hg => by
    have := M2.out.keeps.size
    rcases m3.own g hg with e | e
    · exact G2.out g e
    · omega)
  clear C2 q3 m3 M2 G2
  unfold errT at C3
  go_wp2_with fail
  refine C3.out.mono ?_
  rintro e w4 ⟨rfl, rfl⟩
  clear C3
  go_wp2_with fail
  refine C4.out.mono ?_
  rintro e w5 ⟨v, rfl, o5, q5, m5⟩
  have B5 : Hid (Below w.heap.size w w5) := Lib.hid ((M3.out.keeps.trans m5.keeps (fun g hg => .inr (G3.out g hg))).below (fun g hg => hg.elim) (Nat.le_refl _))
  have C5 := Lib.hid (len_walk q5)
  obtain ⟨g, cap, hv, hx1, k5⟩ := o5.at (i := 0) (d := (3, 2)) rfl
  obtain ⟨g', cap', hv', hx2, k6⟩ := o5.at (i := 1) (d := (5, 1)) rfl
  rw [hv] at hv'
  cases hv'
  have k7 : w5.cell? ⟨g, 0, none⟩ = some (.int .i64 3) := (k5 w5 (Below.refl _ _)).1
  have k8 : w5.cell? ⟨g, 3, none⟩ = some (.int .i64 1) := (k6 w5 (Below.refl _ _)).2
  have hv : v = .slice (some ⟨g, 0, none⟩) 2 cap := hv
  subst hv
  clear C4 o5 q5 m5 M3 G3 k5 k6 hx1 hx2
  go_wp2_with fail
  refine C5.out.mono ?_
  rintro e w6 ⟨rfl, rfl⟩
  clear C5
  go_wp2_with fail
  go_ret
  exact ⟨rfl, B5.out⟩
end Go.Proofs.Ytnainhdhfjokmaa
