/-
  Pure facts on arrays: one element put into a sorted range; two sorted ranges merged by halves.
-/
import Derived.Test.YthjdcailnibeiaaSwapPure
namespace Go.Proofs.Ythjdcailnibeiaa
open Go.Sort
set_option linter.unusedVariables false

theorem ltF_asym {x y : UInt64} (h : ltF x y = true) : ltF y x = false := by
  unfold ltF ahead at *; simp at *; omega
theorem ltF_le {x y z : UInt64} (h1 : ltF y x = false) (h2 : ltF z y = false) : ltF z x = false := swoF.ntrans _ _ _ h2 h1

/-- The first one, put where it belongs among the others. -/
theorem put_first {a b i : Nat} {d d' : Array UInt64} (hs : SortedIn ltF (a + 1) b d) (h1 : a + 1 ≤ i) (h2 : i ≤ b)
    (hl : ∀ x, a + 1 ≤ x → x < i → ltF d[x]! d[a]! = true) (hr : ∀ x, i ≤ x → x < b → ltF d[x]! d[a]! = false)
    (e1 : ∀ x, a ≤ x → x < i - 1 → d'[x]! = d[x + 1]!) (e2 : d'[i - 1]! = d[a]!) (e3 : ∀ x, i ≤ x → d'[x]! = d[x]!) : SortedIn ltF a b d' := by
  intro p q hp hpq hq
  by_cases c1 : q < i - 1
  · rw [e1 p hp (by omega), e1 q (by omega) c1]
    exact hs _ _ (by omega) (by omega) (by omega)
  · by_cases c2 : q = i - 1
    · subst c2
      rw [e2, e1 p hp (by omega)]
      exact ltF_asym (hl _ (by omega) (by omega))
    · rw [e3 q (by omega)]
      by_cases c3 : p < i - 1
      · rw [e1 p hp c3]
        exact hs _ _ (by omega) (by omega) (by omega)
      · by_cases c4 : p = i - 1
        · subst c4
          rw [e2]
          exact hr _ (by omega) hq
        · rw [e3 p (by omega)]
          exact hs _ _ (by omega) (by omega) (by omega)

/-- The last one, put where it belongs among the others. -/
theorem put_last {a m i : Nat} {d d' : Array UInt64} (hs : SortedIn ltF a m d) (h1 : a ≤ i) (h2 : i ≤ m)
    (hl : ∀ x, a ≤ x → x < i → ltF d[m]! d[x]! = false) (hr : ∀ x, i ≤ x → x < m → ltF d[m]! d[x]! = true)
    (e1 : ∀ x, i < x → x ≤ m → d'[x]! = d[x - 1]!) (e2 : d'[i]! = d[m]!) (e3 : ∀ x, x < i → d'[x]! = d[x]!) : SortedIn ltF a (m + 1) d' := by
  intro p q hp hpq hq
  by_cases c1 : q < i
  · rw [e3 p (by omega), e3 q c1]
    exact hs _ _ (by omega) (by omega) (by omega)
  · by_cases c2 : q = i
    · subst c2
      rw [e2, e3 p (by omega)]
      exact hl _ hp (by omega)
    · rw [e1 q (by omega) (by omega)]
      by_cases c3 : p < i
      · rw [e3 p c3]
        exact hs _ _ (by omega) (by omega) (by omega)
      · by_cases c4 : p = i
        · subst c4
          rw [e2]
          exact ltF_asym (hr _ (by omega) (by omega))
        · rw [e1 p (by omega) (by omega)]
          exact hs _ _ (by omega) (by omega) (by omega)

/-- What the search of symMerge has found: s, with all that is asked of it. -/
structure Found (a m b s : Nat) (d : Array UInt64) : Prop where
  le1 : a ≤ s
  le2 : s ≤ m
  le3 : s ≤ (a + b) / 2
  le4 : (a + b) / 2 + m ≤ b + s
  below : ∀ c, a ≤ c → (a + b) / 2 + m ≤ b + c → c < s → ltF d[(a + b) / 2 + m - 1 - c]! d[c]! = false
  above : ∀ c, s ≤ c → c < m → c < (a + b) / 2 → ltF d[(a + b) / 2 + m - 1 - c]! d[c]! = true

/-- Four sorted parts, and what lies in the first half stands behind nothing of the second one. -/
structure Halves (a s t e b : Nat) (d : Array UInt64) : Prop where
  s1 : SortedIn ltF a s d
  s2 : SortedIn ltF s t d
  s3 : SortedIn ltF t e d
  s4 : SortedIn ltF e b d
  cross : ∀ x y, a ≤ x → x < t → t ≤ y → y < b → ltF d[y]! d[x]! = false

theorem Found.halves {a m b s : Nat} {d d1 : Array UInt64} (F : Found a m b s d) (ham : a < m) (hmb : m < b) (hs1 : SortedIn ltF a m d) (hs2 : SortedIn ltF m b d)
    (hr : ∀ x, d1[x]! = d[rotIx s m ((a + b) / 2 + m - s) x]!) : Halves a s ((a + b) / 2) ((a + b) / 2 + m - s) b d1 := by
  obtain ⟨l1, l2, l3, l4, hbl, hab⟩ := F
  generalize ht : (a + b) / 2 = t at *
  have r1 : ∀ x, x < s → d1[x]! = d[x]! := fun x hx => by rw [hr x]; congr 1; unfold rotIx; rw [if_neg (by omega), if_neg (by omega)]
  have r2 : ∀ x, s ≤ x → x < t → d1[x]! = d[x + (m - s)]! := fun x h1 h2 => by rw [hr x]; congr 1; unfold rotIx; rw [if_pos (by omega)]
  have r3 : ∀ x, t ≤ x → x < t + m - s → d1[x]! = d[x - (t - s)]! := fun x h1 h2 => by
    rw [hr x]; congr 1; unfold rotIx; rw [if_neg (by omega), if_pos (by omega)]; omega
  have r4 : ∀ x, t + m - s ≤ x → d1[x]! = d[x]! := fun x hx => by rw [hr x]; congr 1; unfold rotIx; rw [if_neg (by omega), if_neg (by omega)]
  -- the four bounds across
  have k1 : ∀ x y, a ≤ x → x < s → t + m - s ≤ y → y < b → ltF d[y]! d[x]! = false := by
    intro x y h1 h2 h3 h4
    have hc := hbl (s - 1) (by omega) (by omega) (by omega)
    have e : t + m - 1 - (s - 1) = t + m - s := by omega
    rw [e] at hc
    have hx : ltF d[s - 1]! d[x]! = false := by
      by_cases hxs : x = s - 1
      · subst hxs; exact swoF.irrefl _
      · exact hs1 _ _ h1 (by omega) (by omega)
    have hy : ltF d[y]! d[t + m - s]! = false := by
      by_cases hys : y = t + m - s
      · subst hys; exact swoF.irrefl _
      · exact hs2 _ _ (by omega) (by omega) h4
    exact ltF_le hx (ltF_le hc hy)
  have k2 : ∀ x y, m ≤ x → x < t + m - s → s ≤ y → y < m → ltF d[y]! d[x]! = false := by
    intro x y h1 h2 h3 h4
    have hc := hab s (by omega) (by omega) (by omega)
    have hc := ltF_asym hc
    have hx : ltF d[t + m - 1 - s]! d[x]! = false := by
      by_cases hxs : x = t + m - 1 - s
      · subst hxs; exact swoF.irrefl _
      · exact hs2 _ _ h1 (by omega) (by omega)
    have hy : ltF d[y]! d[s]! = false := by
      by_cases hys : y = s
      · subst hys; exact swoF.irrefl _
      · exact hs1 _ _ (by omega) (by omega) h4
    exact ltF_le hx (ltF_le hc hy)
  refine ⟨?_, ?_, ?_, ?_, ?_⟩
  · intro p q h1 h2 h3
    rw [r1 p (by omega), r1 q h3]
    exact hs1 _ _ h1 h2 (by omega)
  · intro p q h1 h2 h3
    rw [r2 p h1 (by omega), r2 q (by omega) h3]
    exact hs2 _ _ (by omega) (by omega) (by omega)
  · intro p q h1 h2 h3
    rw [r3 p h1 (by omega), r3 q (by omega) h3]
    exact hs1 _ _ (by omega) (by omega) (by omega)
  · intro p q h1 h2 h3
    rw [r4 p h1, r4 q (by omega)]
    exact hs2 _ _ (by omega) h2 h3
  · intro x y h1 h2 h3 h4
    by_cases c1 : x < s
    · rw [r1 x c1]
      by_cases c2 : y < t + m - s
      · rw [r3 y h3 c2]
        exact hs1 _ _ h1 (by omega) (by omega)
      · rw [r4 y (by omega)]
        exact k1 x y h1 c1 (by omega) h4
    · rw [r2 x (by omega) h2]
      by_cases c2 : y < t + m - s
      · rw [r3 y h3 c2]
        exact k2 _ _ (by omega) (by omega) (by omega) (by omega)
      · rw [r4 y (by omega)]
        exact hs2 _ _ (by omega) (by omega) h4

/-- One of two neighbouring sorted parts is empty: both are one sorted part. -/
theorem sorted_join {a s t : Nat} {d : Array UInt64} (h1 : SortedIn ltF a s d) (h2 : SortedIn ltF s t d) (h : ¬ (a < s ∧ s < t)) (has : a ≤ s) (hst : s ≤ t) : SortedIn ltF a t d := by
  intro p q hp hpq hq
  by_cases c : a < s
  · exact h1 _ _ hp hpq (by omega)
  · exact h2 _ _ (by omega) hpq hq

theorem Halves.left {a s t e b : Nat} {d d' : Array UInt64} (H : Halves a s t e b d) (hP : PermIn a t d d') (hS : SortedIn ltF a t d') (hat : a ≤ t) (htb : t ≤ b) (hte : t ≤ e) (hb : b ≤ d.size) :
    Halves a t t e b d' := by
  obtain ⟨_, h2, h3⟩ := hP
  have hall := permIn_all d d' a t
  refine ⟨hS, fun p q h1 h2' h3' => by omega, ?_, ?_, ?_⟩
  · intro p q c1 c2 c3
    rw [h2 p (by omega), h2 q (by omega)]
    exact H.s3 _ _ c1 c2 c3
  · intro p q c1 c2 c3
    rw [h2 p (by omega), h2 q (by omega)]
    exact H.s4 _ _ c1 c2 c3
  · intro x y c1 c2 c3 c4
    rw [h2 y (by omega)]
    exact hall (fun v => ltF d[y]! v = false) (by omega) ⟨by assumption, h2, h3⟩ (fun i i1 i2 => H.cross i y i1 i2 c3 c4) x c1 c2

theorem Halves.right {a t e b : Nat} {d d' : Array UInt64} (H : Halves a t t e b d) (hP : PermIn t b d d') (hS : SortedIn ltF t b d') (hat : a ≤ t) (htb : t ≤ b) (hb : b ≤ d.size) :
    SortedIn ltF a b d' := by
  obtain ⟨h1, h2, h3⟩ := hP
  have hall := permIn_all d d' t b
  intro p q c1 c2 c3
  by_cases k1 : q < t
  · rw [h2 p (by omega), h2 q (by omega)]
    exact H.s1 _ _ c1 c2 k1
  · by_cases k2 : p < t
    · rw [h2 p (by omega)]
      exact hall (fun v => ltF v d[p]! = false) (by omega) ⟨h1, h2, h3⟩ (fun i i1 i2 => H.cross p i c1 k2 i1 i2) q (by omega) c3
    · exact hS _ _ (by omega) c2 c3

theorem cfF_neg {x y : UInt64} (h : ltF x y = true) : cfF x y < 0 := by
  rw [← ltOf_cfF] at h; exact of_decide_eq_true h
theorem cfF_pos {x y : UInt64} (h : ltF x y = false) : ¬ cfF x y < 0 := by
  rw [← ltOf_cfF] at h; exact of_decide_eq_false h

/-- The first one has been carried up to k. -/
structure ShiftUp (a k b : Nat) (d dk : Array UInt64) : Prop where
  perm : PermIn a b d dk
  low : ∀ x, a ≤ x → x < k → dk[x]! = d[x + 1]!
  at_ : dk[k]! = d[a]!
  high : ∀ x, k < x → dk[x]! = d[x]!
theorem ShiftUp.start (a b : Nat) (d : Array UInt64) : ShiftUp a a b d d := ⟨permIn_refl _ _ _, fun x h1 h2 => by omega, rfl, fun _ _ => rfl⟩
theorem ShiftUp.step {a k b : Nat} {d dk : Array UInt64} (h : ShiftUp a k b d dk) (hk : a ≤ k) (hb : k + 1 < b) (hz : b ≤ dk.size) : ShiftUp a (k + 1) b d (swp dk k (k + 1)) := by
  refine ⟨permIn_trans _ _ _ _ _ h.perm (swp_permIn _ a b k (k + 1) hk (by omega) (by omega) hb hz), ?_, ?_, ?_⟩
  · intro x h1 h2
    by_cases e : x = k
    · subst e
      rw [swp_left _ _ _ (by omega) (by omega)]
      exact h.high _ (by omega)
    · rw [swp_other _ _ _ _ e (by omega)]
      exact h.low x h1 (by omega)
  · rw [swp_right _ _ _ (by omega)]; exact h.at_
  · intro x hx
    rw [swp_other _ _ _ _ (by omega) (by omega)]
    exact h.high x (by omega)
/-- The last one has been carried down to k. -/
structure ShiftDown (a k b m : Nat) (d dk : Array UInt64) : Prop where
  perm : PermIn a b d dk
  high : ∀ x, k < x → x ≤ m → dk[x]! = d[x - 1]!
  at_ : dk[k]! = d[m]!
  low : ∀ x, x < k → dk[x]! = d[x]!
theorem ShiftDown.start (a b m : Nat) (d : Array UInt64) : ShiftDown a m b m d d := ⟨permIn_refl _ _ _, fun x h1 h2 => by omega, rfl, fun _ _ => rfl⟩
theorem ShiftDown.step {a k b m : Nat} {d dk : Array UInt64} (h : ShiftDown a (k + 1) b m d dk) (hk : a ≤ k) (hb : k + 1 < b) (hz : b ≤ dk.size) : ShiftDown a k b m d (swp dk (k + 1) k) := by
  refine ⟨permIn_trans _ _ _ _ _ h.perm (swp_permIn _ a b (k + 1) k (by omega) (by omega) (by omega) (by omega) hz), ?_, ?_, ?_⟩
  · intro x h1 h2
    by_cases e : x = k + 1
    · subst e
      rw [swp_left _ _ _ (by omega) (by omega)]
      exact h.low _ (by omega)
    · rw [swp_other _ _ _ _ e (by omega)]
      exact h.high x (by omega) h2
  · rw [swp_right _ _ _ (by omega)]; exact h.at_
  · intro x hx
    rw [swp_other _ _ _ _ (by omega) (by omega)]
    exact h.low x (by omega)

/-- A search by halves among what is sorted: what holds at h holds below it, or above it. -/
theorem below_first {m b h : Nat} {d : Array UInt64} {v : UInt64} (hs : SortedIn ltF m b d) (hh : h < b) (hl : ltF d[h]! v = true) : ∀ x, m ≤ x → x < h + 1 → ltF d[x]! v = true := by
  intro x h1 h2
  by_cases e : x = h
  · subst e; exact hl
  · have := hs x h h1 (by omega) hh
    unfold ltF ahead at *; simp at *; omega
theorem above_first {m b h : Nat} {d : Array UInt64} {v : UInt64} (hs : SortedIn ltF m b d) (hh : m ≤ h) (hl : ltF d[h]! v = false) : ∀ x, h ≤ x → x < b → ltF d[x]! v = false := by
  intro x h1 h2
  by_cases e : x = h
  · subst e; exact hl
  · have := hs h x hh (by omega) h2
    unfold ltF ahead at *; simp at *; omega
theorem below_last {a m h : Nat} {d : Array UInt64} {v : UInt64} (hs : SortedIn ltF a m d) (hh : h < m) (hl : ltF v d[h]! = false) : ∀ x, a ≤ x → x < h + 1 → ltF v d[x]! = false := by
  intro x h1 h2
  by_cases e : x = h
  · subst e; exact hl
  · have := hs x h h1 (by omega) hh
    unfold ltF ahead at *; simp at *; omega
theorem above_last {a m h : Nat} {d : Array UInt64} {v : UInt64} (hs : SortedIn ltF a m d) (hh : a ≤ h) (hl : ltF v d[h]! = true) : ∀ x, h ≤ x → x < m → ltF v d[x]! = true := by
  intro x h1 h2
  by_cases e : x = h
  · subst e; exact hl
  · have := hs h x hh (by omega) h2
    unfold ltF ahead at *; simp at *; omega
end Go.Proofs.Ythjdcailnibeiaa
