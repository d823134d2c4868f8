/-
  Layer 2's Least and Most, and the document's own answer, walked; the law on them: it is true at every list, and turns nothing that was there.
-/
import Derived.Test.YthjdcailnibeiaaEdgeUp
import Derived.LoopTactic
namespace Go.Proofs.Ythjdcailnibeiaa
open Go.ChangeShapes Go.WideShapes Go.ChangeAt Go.RowKit
set_option linter.unusedVariables false

def bestStep (bf : Nat → Nat → Bool) (p : Nat × Bool) (x : Nat) : Nat × Bool := if isNan x = true then p else if (!p.2 || bf x p.1) = true then (x, true) else p
/-- The best of the first k: the number, and whether there is one. -/
def bestUp (bf : Nat → Nat → Bool) (d : Array UInt64) : Nat → Nat × Bool
  | 0 => (0, false)
  | k + 1 => bestStep bf (bestUp bf d k) d[k]!.toNat
theorem bestUp_bd (bf : Nat → Nat → Bool) (d : Array UInt64) (k : Nat) : (bestUp bf d k).1 < 18446744073709551616 := by
  induction k with
  | zero => exact (by decide : (0 : Nat) < 18446744073709551616)
  | succ k ih =>
    show (bestStep bf _ _).1 < _
    unfold bestStep
    split
    · exact ih
    · split
      · exact lt64 _
      · exact ih
theorem best_nan {bf : Nat → Nat → Bool} {d : Array UInt64} {k x b : Nat} {f : Bool} (h : bestUp bf d k = (b, f)) (hx : d[k]!.toNat = x) (hn : isNan x = true) : bestUp bf d (k + 1) = (b, f) := by
  show bestStep bf _ _ = _
  rw [h, hx]; unfold bestStep; rw [if_pos hn]
theorem best_take {bf : Nat → Nat → Bool} {d : Array UInt64} {k x b : Nat} {f : Bool} (h : bestUp bf d k = (b, f)) (hx : d[k]!.toNat = x) (hn : isNan x = false) (hb : f = false ∨ bf x b = true) : bestUp bf d (k + 1) = (x, true) := by
  show bestStep bf _ _ = _
  rw [h, hx]; unfold bestStep; rw [if_neg (by rw [hn]; decide), if_pos (by rcases hb with hb | hb <;> simp [hb])]
theorem best_keep {bf : Nat → Nat → Bool} {d : Array UInt64} {k x b : Nat} (h : bestUp bf d k = (b, true)) (hx : d[k]!.toNat = x) (hn : isNan x = false) (hb : bf x b = false) : bestUp bf d (k + 1) = (b, true) := by
  show bestStep bf _ _ = _
  rw [h, hx]; unfold bestStep; rw [if_neg (by rw [hn]; decide), if_neg (by simp [hb])]

def Bests (p : Nat × Bool) (w : World) (e : Ending) (w' : World) : Prop := e = .returned (.tuple #[.float .f64 p.1, .bool p.2]) ∧ w = w'
theorem ret_best {p : Nat × Bool} {b : Nat} {f : Bool} (h : p = (b, f)) : Ending.returned (.tuple #[.float .f64 b, .bool f]) = .returned (.tuple #[.float .f64 p.1, .bool p.2]) := by rw [h]

set_option maxHeartbeats 1000000 in
theorem pick_walk (g : Nat) (bf : Nat → Nat → Bool) (A : Option Addr) (d : Array UInt64) (cap : Nat) (w : World) (hl : d.size ≤ 9223372036854775807) (hr : RdF w A d)
    (eg : ∀ args w, (callFunc g args).run Try.prog w = .ok (.enter g args) w)
    (hg : ∀ x y w, x < 18446744073709551616 → y < 18446744073709551616 → Calls Try.prog g #[.float .f64 x, .float .f64 y] w (Bools (bf x y) w)) :
    Calls Try.prog 26 #[.slice A d.size cap, .func (.func g) #[] #[]] w (Bests (bestUp bf d d.size) w) := by
  have HR := Lib.hid hr
  have HG := Lib.hid hg
  clear hr hg
  go_enter Try.func26, Try.ntmps26
  go_wp2
  go_loop [6, 7, 12] (fun vb vf i => ∃ (k b : Nat) (f : Bool), k ≤ d.size ∧ i = .int .i64 k ∧ Hid (bestUp bf d k = (b, f)) ∧ vb = .float .f64 b ∧ vf = .bool f) (fun _ _ i => d.size - (intOf i).toNat)
  case atStart => exact ⟨0, 0, false, Nat.zero_le _, rfl, rfl, rfl, rfl⟩
  case round =>
    obtain ⟨k, b, f, hk, rfl, hs, rfl, rfl⟩ := hrel
    have hb : b < 18446744073709551616 := by have := bestUp_bd bf d k; rw [hs.out] at this; exact this
    by_cases hlt : k < d.size
    · obtain ⟨ad, rfl, hc0⟩ := HR.out k hlt
      obtain ⟨x, hx⟩ : ∃ x, d[k]!.toNat = x := ⟨_, rfl⟩
      have hx64 : x < 18446744073709551616 := by rw [← hx]; exact lt64 _
      have hc : w.cell? (ad.add k) = some (.float .f64 x) := by rw [hc0, ← hx]; rfl
      have c1 := fun w => Lib.hid (isNaN_walk x w hx64)
      have c2 := fun w => Lib.hid (HG.out x b w hx64 hb)
      have HX := Lib.hid hx
      clear hx hb hx64 hc0
      cases hn : isNan x
      · rw [hn] at c1
        have HN := Lib.hid hn
        clear hn
        cases f
        · have HS := Lib.hid (best_take hs.out HX.out HN.out (Or.inl rfl))
          clear c2
          go_wp2_with (((go_at_call 17; with_reducible refine (c1 _).out.mono ?_); rintro e w' ⟨rfl, rfl⟩))
          go_round
          case rel => exact ⟨k + 1, x, true, by omega, by go_num, HS, rfl, rfl⟩
          case measure => simp [intOf]; omega
        · cases hbf : bf x b
          · rw [hbf] at c2
            have HS := Lib.hid (best_keep hs.out HX.out HN.out hbf)
            clear hbf
            go_wp2_with (first
              | ((go_at_call 17; with_reducible refine (c1 _).out.mono ?_); rintro e w' ⟨rfl, rfl⟩)
              | ((go_at_fn g; with_reducible refine (c2 _).out.mono ?_); rintro e w' ⟨rfl, rfl⟩))
            go_round
            case rel => exact ⟨k + 1, b, true, by omega, by go_num, HS, rfl, rfl⟩
            case measure => simp [intOf]; omega
          · rw [hbf] at c2
            have HS := Lib.hid (best_take hs.out HX.out HN.out (Or.inr hbf))
            clear hbf
            go_wp2_with (first
              | ((go_at_call 17; with_reducible refine (c1 _).out.mono ?_); rintro e w' ⟨rfl, rfl⟩)
              | ((go_at_fn g; with_reducible refine (c2 _).out.mono ?_); rintro e w' ⟨rfl, rfl⟩))
            go_round
            case rel => exact ⟨k + 1, x, true, by omega, by go_num, HS, rfl, rfl⟩
            case measure => simp [intOf]; omega
      · rw [hn] at c1
        have HS := Lib.hid (best_nan hs.out HX.out hn)
        clear hn c2
        go_wp2_with (((go_at_call 17; with_reducible refine (c1 _).out.mono ?_); rintro e w' ⟨rfl, rfl⟩))
        go_round
        case rel => exact ⟨k + 1, b, f, by omega, by go_num, HS, rfl, rfl⟩
        case measure => simp [intOf]; omega
    · go_wp2
      go_ret2
      obtain rfl : k = d.size := by omega
      exact ⟨ret_best hs.out, rfl⟩

theorem least_walk (A : Option Addr) (d : Array UInt64) (cap : Nat) (w : World) (hl : d.size ≤ 9223372036854775807) (hr : RdF w A d) :
    Calls Try.prog 12 #[.slice A d.size cap] w (Bests (bestUp ahead d d.size) w) := by
  have c := Lib.hid (pick_walk 8 ahead A d cap w hl hr (enters_of Try.func8 (by kernel_rfl) rfl) (fun x y w hx hy => less_walk x y w hx hy))
  clear hr
  go_enter Try.func12, Try.ntmps12
  go_wp2_with (((go_at_call 26; refine c.out.mono ?_); rintro e w' ⟨rfl, rfl⟩))
  go_ret2
  exact ⟨rfl, rfl⟩
theorem most_walk (A : Option Addr) (d : Array UInt64) (cap : Nat) (w : World) (hl : d.size ≤ 9223372036854775807) (hr : RdF w A d) :
    Calls Try.prog 13 #[.slice A d.size cap] w (Bests (bestUp (fun x y => ahead y x) d d.size) w) := by
  have c := Lib.hid (pick_walk 27 (fun x y => ahead y x) A d cap w hl hr (enters_of Try.func27 (by kernel_rfl) rfl) (fun x y w hx hy => most1_walk x y w hx hy))
  clear hr
  go_enter Try.func13, Try.ntmps13
  go_wp2_with (((go_at_call 26; refine c.out.mono ?_); rintro e w' ⟨rfl, rfl⟩))
  go_ret2
  exact ⟨rfl, rfl⟩

set_option maxHeartbeats 1000000 in
theorem best_walk (most : Bool) (bf : Nat → Nat → Bool) (hbf : bf = if most = true then (fun x y => ahead y x) else ahead) (A : Option Addr) (d : Array UInt64) (cap : Nat) (w : World) (hl : d.size ≤ 9223372036854775807) (hr : RdF w A d) :
    Calls Try.prog 14 #[.slice A d.size cap, .bool most] w (Bests (bestUp bf d d.size) w) := by
  have HR := Lib.hid hr
  have HBF := Lib.hid hbf
  clear hr hbf
  go_enter Try.func14, Try.ntmps14
  go_wp2
  go_loop [6, 7, 8] (fun vf vb i => ∃ (k b : Nat) (f : Bool), k ≤ d.size ∧ i = .int .i64 k ∧ Hid (bestUp bf d k = (b, f)) ∧ vb = .float .f64 b ∧ vf = .bool f) (fun _ _ i => d.size - (intOf i).toNat)
  case atStart => exact ⟨0, 0, false, Nat.zero_le _, rfl, rfl, rfl, rfl⟩
  case round =>
    obtain ⟨k, b, f, hk, rfl, hs, rfl, rfl⟩ := hrel
    have hb : b < 18446744073709551616 := by have := bestUp_bd bf d k; rw [hs.out] at this; exact this
    by_cases hlt : k < d.size
    · obtain ⟨ad, rfl, hc0⟩ := HR.out k hlt
      obtain ⟨x, hx⟩ : ∃ x, d[k]!.toNat = x := ⟨_, rfl⟩
      have hx64 : x < 18446744073709551616 := by rw [← hx]; exact lt64 _
      have hc : w.cell? (ad.add k) = some (.float .f64 x) := by rw [hc0, ← hx]; rfl
      have c1 := fun w => Lib.hid (none_walk x w hx64)
      have c2 := fun w => Lib.hid (refLess_walk x b w hx64 hb)
      have c3 := fun w => Lib.hid (refLess_walk b x w hb hx64)
      have HX := Lib.hid hx
      clear hx hb hx64 hc0
      cases hn : isNan x
      · rw [hn] at c1
        have HN := Lib.hid hn
        clear hn
        have hbest : Hid (∀ r : Bool, bf x b = r → (r = true ∨ f = false → bestUp bf d (k + 1) = (x, true)) ∧ (r = false → f = true → bestUp bf d (k + 1) = (b, f))) := fun r hr =>
          ⟨fun h => best_take hs.out HX.out HN.out (by rcases h with h | h <;> simp [h, hr]), fun h1 h2 => by subst h2; exact best_keep hs.out HX.out HN.out (by rw [hr, h1])⟩
        have hr1 : Hid (most = true → bf x b = ahead b x) := fun h => by rw [HBF.out, if_pos h]
        have hr2 : Hid (most = false → bf x b = ahead x b) := fun h => by rw [HBF.out, if_neg (by rw [h]; decide)]
        generalize ahead x b = l1 at c2 hr2
        generalize ahead b x = l2 at c3 hr1
        have hfin : ∃ r : Nat × Bool, Hid (bestUp bf d (k + 1) = r) ∧ r = (if (!f || (!most && l1) || (most && l2)) = true then (x, true) else (b, true)) := by
          refine ⟨_, rfl, ?_⟩
          cases hf : f
          · exact (hbest.out _ rfl).1 (Or.inr hf)
          · cases hm : most
            · have h := hr2.out hm
              cases hl1 : l1
              · rw [hl1] at h; rw [(hbest.out _ rfl).2 h hf, hf]; rfl
              · rw [hl1] at h; exact (hbest.out _ rfl).1 (Or.inl h)
            · have h := hr1.out hm
              cases hl2 : l2
              · rw [hl2] at h; rw [(hbest.out _ rfl).2 h hf, hf]; cases l1 <;> rfl
              · rw [hl2] at h; rw [(hbest.out _ rfl).1 (Or.inl h)]; cases l1 <;> rfl
        obtain ⟨r, HS, hr⟩ := hfin
        clear hbest hr1 hr2
        cases most <;> cases f <;> cases l1 <;> cases l2
        all_goals
          obtain rfl := hr
          go_wp2_with (first
            | ((go_at_call 24; with_reducible refine (c1 _).out.mono ?_); rintro e w' ⟨rfl, rfl⟩)
            | ((go_at_call 9; with_reducible refine (c2 _).out.mono ?_); rintro e w' ⟨rfl, rfl⟩)
            | ((go_at_call 9; with_reducible refine (c3 _).out.mono ?_); rintro e w' ⟨rfl, rfl⟩))
          go_round
          case rel => exact ⟨k + 1, _, _, by omega, by go_num, HS, rfl, rfl⟩
          case measure => simp [intOf]; omega
      · rw [hn] at c1
        have HS := Lib.hid (best_nan hs.out HX.out hn)
        clear hn c2 c3
        go_wp2_with (((go_at_call 24; with_reducible refine (c1 _).out.mono ?_); rintro e w' ⟨rfl, rfl⟩))
        go_round
        case rel => exact ⟨k + 1, b, f, by omega, by go_num, HS, rfl, rfl⟩
        case measure => simp [intOf]; omega
    · go_wp2
      go_ret2
      obtain rfl : k = d.size := by omega
      exact ⟨ret_best hs.out, rfl⟩

theorem alike_self (a : Nat) : alike a a = true := by unfold alike; simp

theorem edgeBest_far (A : Option Addr) (n cap : Nat) (w : World) (hn : 200 < n) (hl : n ≤ 9223372036854775807) :
    Calls Try.prog 4 #[.slice A n cap] w (Holds w) := by
  go_enter Try.func4, Try.ntmps4
  go_wp2_with ((go_at_call 7; refine (up_any _).mono ?_); rintro e w' ⟨rfl, hB⟩)
  go_ret
  exact ⟨rfl, hB⟩

theorem RdF.below {w w' : World} {A : Option Addr} {d : Array UInt64} (h : RdF w A d) (hA : ∀ ad, A = some ad → 0 < d.size → ad.block < w.heap.size) (hB : Below w.heap.size w w') : RdF w' A d := by
  intro i hi
  obtain ⟨ad, e, hc⟩ := h i hi
  exact ⟨ad, e, by rw [hB.cell (by rw [add_block]; exact hA ad e (by omega)), hc]⟩

theorem edgeBest_walk (A : Option Addr) (d : Array UInt64) (cap : Nat) (w : World) (hl : d.size ≤ 9223372036854775807) (hr : RdF w A d) (hA : ∀ ad, A = some ad → 0 < d.size → ad.block < w.heap.size) :
    Calls Try.prog 4 #[.slice A d.size cap] w (Holds w) := by
  by_cases h2 : 200 < d.size
  · exact edgeBest_far A _ cap w h2 hl
  have C1 : Hid (∀ w', RdF w' A d → Calls Try.prog 12 #[.slice A d.size cap] w' (Bests (bestUp ahead d d.size) w')) := fun w' h => least_walk A d cap w' hl h
  have C2 : Hid (∀ w', RdF w' A d → Calls Try.prog 13 #[.slice A d.size cap] w' (Bests (bestUp (fun x y => ahead y x) d d.size) w')) := fun w' h => most_walk A d cap w' hl h
  have C3 : Hid (∀ w', RdF w' A d → Calls Try.prog 14 #[.slice A d.size cap, .bool false] w' (Bests (bestUp ahead d d.size) w')) := fun w' h => best_walk false _ rfl A d cap w' hl h
  have C4 : Hid (∀ w', RdF w' A d → Calls Try.prog 14 #[.slice A d.size cap, .bool true] w' (Bests (bestUp (fun x y => ahead y x) d d.size) w')) := fun w' h => best_walk true _ rfl A d cap w' hl h
  have b1 := bestUp_bd ahead d d.size
  have b2 := bestUp_bd (fun x y => ahead y x) d d.size
  generalize bestUp ahead d d.size = p at C1 C3 b1
  generalize bestUp (fun x y => ahead y x) d d.size = q at C2 C4 b2
  obtain ⟨p1, p2⟩ := p
  obtain ⟨q1, q2⟩ := q
  have c5 := fun w => Lib.hid (same_walk p1 p1 w b1 b1)
  have c6 := fun w => Lib.hid (same_walk q1 q1 w b2 b2)
  rw [alike_self] at c5 c6
  have HR := Lib.hid hr
  have HA := Lib.hid hA
  clear b1 b2 hr hA
  cases p2 <;> cases q2
  all_goals
    go_enter Try.func4, Try.ntmps4
    go_wp2_with (first
      | ((go_at_call 7; refine (up_any _).mono ?_); rintro e w' ⟨rfl, hB⟩; have HW := Lib.hid (RdF.below HR.out HA.out hB))
      | ((go_at_call 12; refine (C1.out _ HW.out).mono ?_); rintro e w' ⟨rfl, rfl⟩)
      | ((go_at_call 13; refine (C2.out _ HW.out).mono ?_); rintro e w' ⟨rfl, rfl⟩)
      | ((go_at_call 14; with_reducible refine (C3.out _ HW.out).mono ?_); rintro e w' ⟨rfl, rfl⟩)
      | ((go_at_call 14; with_reducible refine (C4.out _ HW.out).mono ?_); rintro e w' ⟨rfl, rfl⟩)
      | ((go_at_call 15; with_reducible refine (c5 _).out.mono ?_); rintro e w' ⟨rfl, rfl⟩)
      | ((go_at_call 15; with_reducible refine (c6 _).out.mono ?_); rintro e w' ⟨rfl, rfl⟩))
    go_ret
    exact ⟨rfl, hB⟩
end Go.Proofs.Ythjdcailnibeiaa
