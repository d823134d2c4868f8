/-
  Layer 12 (deficit): turns as steps, and that they end.
-/
import Derived.Test.YtjlmefjgolbfiaaKit
namespace Go.Proofs.Ytjlmefjgolbfiaa
set_option linter.unusedVariables false

/-- Turns: the credits, the class that they stand at, whether that one was visited. -/
structure Tn where
  c : List Int
  k : Nat
  v : Bool
def held (q : List Int) (s : Tn) : Int := if s.v then s.c.getD s.k 0 else s.c.getD s.k 0 + q.getD s.k 0
/-- One round: was one picked, and how they stand behind it. -/
def stepT (q l : List Int) (s : Tn) : Bool × Tn :=
  if l.getD s.k 0 = 0 then (false, ⟨s.c.set s.k 0, (s.k + 1) % q.length, false⟩)
  else if held q s < l.getD s.k 0 then (false, ⟨s.c.set s.k (held q s), (s.k + 1) % q.length, false⟩)
  else (true, ⟨s.c.set s.k (held q s - l.getD s.k 0), s.k, true⟩)
/-- So many rounds pick none, the next one picks. -/
def Goes (q l : List Int) : Nat → Tn → Tn → Prop
  | 0, s, s' => stepT q l s = (true, s')
  | g + 1, s, s' => ∃ s1, stepT q l s = (false, s1) ∧ Goes q l g s1 s'
structure Qok (q : List Int) : Prop where
  n1 : 1 ≤ q.length
  n4 : q.length ≤ 4
  qq : ∀ (i : Nat) (x : Int), q[i]? = some x → 1 ≤ x ∧ x ≤ 1000
structure Tok (q : List Int) (s : Tn) : Prop where
  ok : Qok q
  len : s.c.length = q.length
  kl : s.k < q.length
  cc : ∀ (i : Nat) (x : Int), s.c[i]? = some x → 0 ≤ x ∧ x ≤ 1999 ∧ (¬ (i = s.k ∧ s.v = true) → x ≤ 999)
structure Lok (q l : List Int) : Prop where
  len : l.length = q.length
  ll : ∀ (i : Nat) (x : Int), l[i]? = some x → 0 ≤ x ∧ x ≤ 1000
section
variable {q l : List Int} {s s' s1 : Tn}
theorem new_tok (h : Qok q) : Tok q ⟨List.replicate q.length 0, 0, false⟩ :=
  ⟨h, by simp, h.n1, fun i x hx => by
    have := List.mem_replicate.1 (List.mem_of_getElem? hx)
    omega⟩
theorem none_tok (h : Tok q s) : Tok q ⟨List.replicate q.length 0, s.k, s.v⟩ :=
  ⟨h.ok, by simp, h.kl, fun i x hx => by
    have := List.mem_replicate.1 (List.mem_of_getElem? hx)
    omega⟩
/-- What there is at the class that they stand at. -/
theorem Tok.three (h : Tok q s) (hl : Lok q l) : ∃ x y z, s.c[s.k]? = some x ∧ q[s.k]? = some y ∧ l[s.k]? = some z ∧ 0 ≤ x ∧ x ≤ 1999 ∧ (s.v = false → x ≤ 999) ∧ 1 ≤ y ∧ y ≤ 1000 ∧ 0 ≤ z ∧ z ≤ 1000 := by
  have h1 := h.kl
  have e1 : s.c[s.k]? = some (s.c[s.k]'(by rw [h.len]; exact h1)) := List.getElem?_eq_getElem _
  have e2 : q[s.k]? = some (q[s.k]'h1) := List.getElem?_eq_getElem _
  have e3 : l[s.k]? = some (l[s.k]'(by rw [hl.len]; exact h1)) := List.getElem?_eq_getElem _
  obtain ⟨a1, a2, a3⟩ := h.cc _ _ e1
  obtain ⟨b1, b2⟩ := h.ok.qq _ _ e2
  obtain ⟨c1, c2⟩ := hl.ll _ _ e3
  exact ⟨_, _, _, e1, e2, e3, a1, a2, (fun hv => a3 (fun e => by rw [hv] at e; cases e.2)), b1, b2, c1, c2⟩
theorem getD_some {l : List Int} {i : Nat} {x : Int} (h : l[i]? = some x) : l.getD i 0 = x := by rw [List.getD_eq_getElem?_getD, h]; rfl
theorem step_none {z : Int} (hz : l[s.k]? = some z) (h : z = 0) : stepT q l s = (false, ⟨s.c.set s.k 0, (s.k + 1) % q.length, false⟩) := by
  unfold stepT
  rw [getD_some hz, if_pos h]
theorem step_less {x y z : Int} (hx : s.c[s.k]? = some x) (hy : q[s.k]? = some y) (hz : l[s.k]? = some z) (h : z ≠ 0) (hl : (if s.v then x else x + y) < z) :
    stepT q l s = (false, ⟨s.c.set s.k (if s.v then x else x + y), (s.k + 1) % q.length, false⟩) := by
  unfold stepT held
  rw [getD_some hz, getD_some hx, getD_some hy, if_neg h, if_pos hl]
theorem step_pick {x y z : Int} (hx : s.c[s.k]? = some x) (hy : q[s.k]? = some y) (hz : l[s.k]? = some z) (h : z ≠ 0) (hl : ¬ (if s.v then x else x + y) < z) :
    stepT q l s = (true, ⟨s.c.set s.k ((if s.v then x else x + y) - z), s.k, true⟩) := by
  unfold stepT held
  rw [getD_some hz, getD_some hx, getD_some hy, if_neg h, if_neg hl]
theorem set_tok {x y : Int} {k' : Nat} {v' : Bool} (h : Tok q s) (hk : k' < q.length) (h0 : 0 ≤ y) (h1 : y ≤ 1999) (h2 : ¬ (s.k = k' ∧ v' = true) → y ≤ 999) : Tok q ⟨s.c.set s.k y, k', v'⟩ := by
  refine ⟨h.ok, by simp [h.len], hk, fun i x hx => ?_⟩
  by_cases e : i = s.k
  · subst e
    rw [List.getElem?_set_self (by rw [h.len]; exact h.kl)] at hx
    cases hx
    exact ⟨h0, h1, h2⟩
  · rw [List.getElem?_set_ne (fun e' => e e'.symm)] at hx
    obtain ⟨a1, a2, a3⟩ := h.cc i x hx
    have a4 := a3 (fun hh => e hh.1)
    exact ⟨a1, a2, fun _ => a4⟩
theorem step_tok (h : Tok q s) (hl : Lok q l) {b : Bool} (e : stepT q l s = (b, s1)) : Tok q s1 := by
  obtain ⟨x, y, z, hx, hy, hz, x0, x1, x2, y0, y1, z0, z1⟩ := h.three hl
  have hn : (s.k + 1) % q.length < q.length := Nat.mod_lt _ h.ok.n1
  by_cases hz0 : z = 0
  · rw [step_none hz hz0] at e
    cases e
    exact set_tok (x := x) h hn (by omega) (by omega) (by omega)
  · by_cases hh : (if s.v then x else x + y) < z
    · rw [step_less hx hy hz hz0 hh] at e
      cases e
      have : 0 ≤ (if s.v then x else x + y) := by split <;> omega
      exact set_tok (x := x) h hn this (by omega) (fun _ => by omega)
    · rw [step_pick hx hy hz hz0 hh] at e
      cases e
      have : (if s.v then x else x + y) ≤ 1999 := by
        cases hv : s.v with
        | true => simpa using x1
        | false => have := x2 hv; simp; omega
      exact set_tok (x := x) h h.kl (by omega) (by omega) (fun hh => absurd ⟨rfl, rfl⟩ hh)
def dist (n j k : Nat) (v : Bool) : Nat := if k = j ∧ v = true then n else (j + n - k) % n
theorem dist_next {n j k : Nat} (h1 : 1 ≤ n) (h4 : n ≤ 4) (hj : j < n) (hk : k < n) (v : Bool) (h : k = j → v = true) : dist n j ((k + 1) % n) false < dist n j k v := by
  have hd : dist n j ((k + 1) % n) false = (j + n - (k + 1) % n) % n := by unfold dist; rw [if_neg (fun e => by cases e.2)]
  rw [hd]
  unfold dist
  by_cases e : k = j
  · rw [if_pos ⟨e, h e⟩]
    exact Nat.mod_lt _ h1
  · rw [if_neg (fun h => e h.1)]
    obtain rfl | rfl | rfl | rfl : n = 1 ∨ n = 2 ∨ n = 3 ∨ n = 4 := by omega
    all_goals omega
theorem dist_le {n j k : Nat} (h1 : 1 ≤ n) (v : Bool) : dist n j k v ≤ n := by
  unfold dist
  split
  · exact Nat.le_refl _
  · exact Nat.le_of_lt (Nat.mod_lt _ h1)
def mu (q : List Int) (j : Nat) (s : Tn) : Nat := (2000 - s.c.getD j 0).toNat * 5 + dist q.length j s.k s.v
theorem mu_next {j : Nat} {z' : Int} (h : Tok q s) (hl : Lok q l) (hj : l[j]? = some z') (hz' : 0 < z') (e : stepT q l s = (false, s1)) : mu q j s1 < mu q j s := by
  obtain ⟨x, y, z, hx, hy, hz, x0, x1, x2, y0, y1, z0, z1⟩ := h.three hl
  have hjn : j < q.length := by rw [← hl.len]; exact (List.getElem?_eq_some_iff.1 hj).1
  have h1 := h.ok.n1
  have h4 := h.ok.n4
  have hk := h.kl
  have hcl : s.k < s.c.length := by rw [h.len]; exact hk
  have self : ∀ y, (s.c.set s.k y).getD s.k 0 = y := fun y => getD_some (List.getElem?_set_self hcl)
  have other : ∀ y, s.k ≠ j → (s.c.set s.k y).getD j 0 = s.c.getD j 0 := fun y hne => by rw [List.getD_eq_getElem?_getD, List.getElem?_set_ne hne, ← List.getD_eq_getElem?_getD]
  by_cases hz0 : z = 0
  · have hne : s.k ≠ j := fun e' => by rw [← e', hz] at hj; cases hj; omega
    rw [step_none hz hz0] at e
    cases e
    unfold mu
    simp only
    rw [other _ hne]
    have := dist_next h1 h4 hjn hk s.v (fun e' => absurd e' hne)
    omega
  · by_cases hh : (if s.v then x else x + y) < z
    · rw [step_less hx hy hz hz0 hh] at e
      cases e
      unfold mu
      simp only
      by_cases e' : s.k = j
      · have ex : s.c.getD j 0 = x := by rw [← e']; exact getD_some hx
        have es := self (if s.v then x else x + y)
        rw [← e'] at ex ⊢
        rw [es, ex]
        cases hv : s.v with
        | true =>
          simp only [if_true]
          have := dist_next (j := s.k) h1 h4 hk hk true (fun _ => rfl)
          omega
        | false =>
          have hx2 := x2 hv
          rw [hv] at hh
          simp only [Bool.false_eq_true, if_false] at hh ⊢
          have := dist_le (n := q.length) (j := s.k) (k := (s.k + 1) % q.length) h1 false
          have hz' : 0 ≤ dist q.length s.k s.k false := Nat.zero_le _
          omega
      · rw [other _ e']
        have := dist_next h1 h4 hjn hk s.v (fun e'' => absurd e'' e')
        omega
    · rw [step_pick hx hy hz hz0 hh] at e
      cases e
/-- Where one has something, one is picked at last. -/
theorem goes_any {j : Nat} {z' : Int} (hl : Lok q l) (hj : l[j]? = some z') (hz' : 0 < z') : ∀ (m : Nat) (s : Tn), mu q j s ≤ m → Tok q s → ∃ g s', Goes q l g s s' ∧ Tok q s' := by
  intro m
  induction m with
  | zero =>
    intro s hm h
    match e : stepT q l s with
    | (true, s1) => exact ⟨0, s1, e, step_tok h hl e⟩
    | (false, s1) => have := mu_next h hl hj hz' e; omega
  | succ m ih =>
    intro s hm h
    match e : stepT q l s with
    | (true, s1) => exact ⟨0, s1, e, step_tok h hl e⟩
    | (false, s1) =>
      have := mu_next h hl hj hz' e
      obtain ⟨g, s', h1, h2⟩ := ih s1 (by omega) (step_tok h hl e)
      exact ⟨g + 1, s', ⟨s1, e, h1⟩, h2⟩
/-- What a Pick of costs that may be makes of turns. -/
def Picks (q l : List Int) (s : Tn) (r : Int) (s' : Tn) : Prop :=
  ((∀ x ∈ l, ¬ 0 < x) ∧ r = -1 ∧ s' = ⟨List.replicate q.length 0, s.k, s.v⟩) ∨ ((∃ x ∈ l, 0 < x) ∧ r = s'.k ∧ ∃ g, Goes q l g s s')
theorem picks_any (h : Tok q s) (hl : Lok q l) : ∃ r s', Picks q l s r s' ∧ Tok q s' := by
  by_cases e : ∃ x ∈ l, 0 < x
  · obtain ⟨x, hx, h0⟩ := e
    obtain ⟨j, hj⟩ := List.getElem?_of_mem hx
    obtain ⟨g, s', h1, h2⟩ := goes_any hl hj h0 _ s (Nat.le_refl _) h
    exact ⟨s'.k, s', .inr ⟨⟨x, hx, h0⟩, rfl, g, h1⟩, h2⟩
  · exact ⟨-1, _, .inl ⟨fun x hx h0 => e ⟨x, hx, h0⟩, rfl, rfl⟩, none_tok h⟩
end
end Go.Proofs.Ytjlmefjgolbfiaa
