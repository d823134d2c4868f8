/-
  Layer 11 (delay): roots and pauses as natural numbers; a control as a step.
-/
import Derived.Test.YtljklehlmahbgaaKit
import Derived.Laws.BitsAllLaws
namespace Go.Proofs.Ytljklehlmahbgaa
open Go.ChangeShapes Go.WideShapes Go.ChangeAt Go.RowKit
set_option linter.unusedVariables false

/-- The greatest whole number whose square is no greater. -/
structure IsRoot (n r : Nat) : Prop where
  le : r * r ≤ n
  lt : n < (r + 1) * (r + 1)
def rootN : Nat → Nat
  | 0 => 0
  | n + 1 => if (rootN n + 1) * (rootN n + 1) ≤ n + 1 then rootN n + 1 else rootN n
theorem sq_mono {a b : Nat} (h : a ≤ b) : a * a ≤ b * b := Nat.mul_le_mul h h
theorem sq_step (r : Nat) : (r + 1) * (r + 1) = r * r + 2 * r + 1 := by
  rw [Nat.add_mul, Nat.mul_add]; omega
theorem isRoot : ∀ n, IsRoot n (rootN n)
  | 0 => ⟨by decide, by decide⟩
  | n + 1 => by
    have h := isRoot n
    unfold rootN
    split
    · rename_i hc
      refine ⟨hc, ?_⟩
      have := h.lt
      rw [sq_step (rootN n + 1)]
      omega
    · exact ⟨Nat.le_succ_of_le h.le, by omega⟩
theorem IsRoot.le_of {n m r s : Nat} (h : IsRoot n r) (k : IsRoot m s) (hn : n ≤ m) : r ≤ s := by
  rcases Nat.lt_or_ge s r with e | e
  · have := sq_mono (show s + 1 ≤ r from e)
    have := h.le
    have := k.lt
    omega
  · exact e
theorem IsRoot.unique {n r s : Nat} (h : IsRoot n r) (k : IsRoot n s) : r = s := Nat.le_antisymm (h.le_of k (Nat.le_refl _)) (k.le_of h (Nat.le_refl _))
theorem root_mono {a b : Nat} (h : a ≤ b) : rootN a ≤ rootN b := (isRoot a).le_of (isRoot b) h
theorem root_eq {n r : Nat} (h : IsRoot n r) : rootN n = r := (isRoot n).unique h
theorem root_lt {n : Nat} (h : n < 18446744073709551616) : rootN n < 4294967296 := by
  rcases Nat.lt_or_ge (rootN n) 4294967296 with e | e
  · exact e
  · have := sq_mono e
    have := (isRoot n).le
    omega

/-- The pause of so many drops. -/
def pauseN (I c : Nat) : Nat := I * 1024 / rootN (1048576 * c)
theorem root_1 : ∃ n, 1048576 * 1 = n ∧ rootN n = 1024 := ⟨1048576, rfl, root_eq ⟨by decide, by decide⟩⟩
theorem root_4 : ∃ n, 1048576 * 4 = n ∧ rootN n = 2048 := ⟨4194304, rfl, root_eq ⟨by decide, by decide⟩⟩
theorem root_million {c : Nat} (h : 1 ≤ c) : 1024 ≤ rootN (1048576 * c) := by
  obtain ⟨n, hn, e⟩ := root_1
  have := root_mono (a := n) (b := 1048576 * c) (by omega)
  omega
theorem pause_mono {I a b : Nat} (h : a ≤ b) (h1 : 1 ≤ a) : pauseN I b ≤ pauseN I a :=
  Nat.div_le_div_left (root_mono (by omega)) (by have := root_million h1; omega)
theorem pause_one (I : Nat) : pauseN I 1 = I := by
  obtain ⟨n, hn, e⟩ := root_1
  unfold pauseN
  rw [hn, e]
  omega
theorem pause_le {I c : Nat} (h : 1 ≤ c) : pauseN I c ≤ I := by
  have := pause_mono (I := I) h (Nat.le_refl 1)
  rw [pause_one] at this
  exact this
theorem pause_of {I c r : Nat} (h : IsRoot (1048576 * c) r) : pauseN I c = I * 1024 / r := by
  unfold pauseN
  rw [root_eq h]
theorem pause_four : pauseN 100 4 = 50 := (pause_of (I := 100) (c := 4) (r := 2048) ⟨by decide, by decide⟩).trans (by decide)

/-- The root while it is sought, k bits left. -/
structure Rt (n k r : Nat) : Prop where
  k32 : k ≤ 32
  dvd : r % 2 ^ k = 0
  top : r + 2 ^ k ≤ 4294967296
  le : r * r ≤ n
  lt : n < (r + 2 ^ k) * (r + 2 ^ k)
theorem Rt.start {n : Nat} (h : n < 18446744073709551616) : Rt n 32 0 :=
  ⟨Nat.le_refl _, rfl, by decide, by omega, by rw [show (0 + 2 ^ 32) * (0 + 2 ^ 32) = 18446744073709551616 from by decide]; exact h⟩
theorem Rt.end_ {n r : Nat} (h : Rt n 0 r) : IsRoot n r := ⟨h.le, h.lt⟩
theorem Rt.or {n k r : Nat} (h : Rt n (k + 1) r) : r ||| 2 ^ k = r + 2 ^ k :=
  nat_join (k + 1) r (2 ^ k) h.dvd (Nat.pow_lt_pow_succ (by omega))
theorem Rt.half {n k r : Nat} (h : Rt n (k + 1) r) : r % 2 ^ k = 0 := by
  have := h.dvd
  rw [Nat.pow_succ] at this
  exact Nat.mod_eq_zero_of_dvd (Nat.dvd_trans (Nat.dvd_mul_right _ 2) (Nat.dvd_of_mod_eq_zero this))
theorem Rt.yes {n k r : Nat} (h : Rt n (k + 1) r) (hm : (r + 2 ^ k) * (r + 2 ^ k) ≤ n) : Rt n k (r + 2 ^ k) := by
  have t := h.top
  have l := h.lt
  have e : r + 2 ^ (k + 1) = r + 2 ^ k + 2 ^ k := by rw [Nat.pow_succ]; omega
  rw [e] at t l
  exact ⟨by have := h.k32; omega, by rw [Nat.add_mod_right]; exact h.half, t, hm, l⟩
theorem Rt.no {n k r : Nat} (h : Rt n (k + 1) r) (hm : ¬ (r + 2 ^ k) * (r + 2 ^ k) ≤ n) : Rt n k r := by
  have t := h.top
  have e : r + 2 ^ (k + 1) = r + 2 ^ k + 2 ^ k := by rw [Nat.pow_succ]; omega
  have p : 0 < 2 ^ k := Nat.pow_pos (by omega)
  rw [e] at t
  exact ⟨by have := h.k32; omega, h.half, by omega, h.le, by omega⟩
theorem Rt.bound {n k r : Nat} (h : Rt n (k + 1) r) : r + 2 ^ k ≤ 4294967295 ∧ 2 ^ k < 4294967296 ∧ 0 < 2 ^ k := by
  have t := h.top
  have e : r + 2 ^ (k + 1) = r + 2 ^ k + 2 ^ k := by rw [Nat.pow_succ]; omega
  have p : 0 < 2 ^ k := Nat.pow_pos (by omega)
  rw [e] at t
  omega

def mayB (n : Int) : Prop := 1 ≤ n ∧ n ≤ 1000000
instance (n : Int) : Decidable (mayB n) := inferInstanceAs (Decidable (_ ∧ _))
/-- What Pause tells. -/
def pauseZ (I c : Int) : Int := if mayB I ∧ mayB c then (pauseN I.toNat c.toNat : Nat) else 0
theorem pauseZ_in {I c : Int} (hI : mayB I) (hc : mayB c) : pauseZ I c = (pauseN I.toNat c.toNat : Nat) := if_pos ⟨hI, hc⟩
theorem pauseZ_bd {I c : Int} (hI : mayB I) (hc : mayB c) : 0 ≤ pauseZ I c ∧ pauseZ I c ≤ I := by
  rw [pauseZ_in hI hc]
  have := pause_le (I := I.toNat) (c := c.toNat) (by have := hc.1; omega)
  have := hI.1
  omega
theorem pauseZ_mono {I c : Int} (hc : 1 ≤ c) (h1 : c < 1000000) : pauseZ I (c + 1) ≤ pauseZ I c := by
  unfold pauseZ
  by_cases hI : mayB I
  · rw [if_pos ⟨hI, by unfold mayB; omega⟩, if_pos ⟨hI, by unfold mayB; omega⟩]
    have := pause_mono (I := I.toNat) (a := c.toNat) (b := (c + 1).toNat) (by omega) (by omega)
    omega
  · rw [if_neg (fun h => hI h.1), if_neg (fun h => hI h.1)]
    exact Int.le_refl _
theorem pauseZ_one {I : Int} (hI : mayB I) : pauseZ I 1 = I := by
  rw [pauseZ_in hI (by unfold mayB; omega), show (1 : Int).toNat = 1 from rfl, pause_one]
  have := hI.1
  omega
theorem pauseZ_out {I : Int} (hI : ¬ mayB I) (c : Int) : pauseZ I c = 0 := if_neg (fun h => hI h.1)
theorem pauseZ_four : pauseZ 100 4 = 50 := by rw [pauseZ_in (by decide) (by decide)]; exact congrArg _ pause_four

/-- A control. -/
structure Cs where
  is : Int
  last : Int
  till : Int
  next : Int
  count : Int
def beginC (I : Int) (s : Cs) (now : Int) : Int := if 2 < s.count ∧ now - s.next < 16 * I then s.count - 2 else 1
def beginP (I : Int) (s : Cs) (now : Int) : Bool × Cs :=
  if now < s.till then (false, s) else (true, { s with is := 2, count := beginC I s now, next := now + pauseZ I (beginC I s now) })
def goOnC (s : Cs) : Int := min (s.count + 1) 1000000
def goOnP (I : Int) (s : Cs) (now : Int) : Bool × Cs :=
  if now < s.next then (false, s) else (true, { s with count := goOnC s, next := s.next + pauseZ I (goOnC s) })
def askP (T I : Int) (s : Cs) (now waited : Int) : Bool × Cs :=
  if now < s.last ∨ 1099511627776 < now ∨ waited < 0 then (false, s)
  else if waited < T then (false, { s with last := now, is := 0 })
  else if s.is = 0 then (false, { s with last := now, is := 1, till := now + I })
  else if s.is = 1 then beginP I { s with last := now } now
  else goOnP I { s with last := now } now
structure CsOk (s : Cs) : Prop where
  is0 : 0 ≤ s.is
  is2 : s.is ≤ 2
  l0 : 0 ≤ s.last
  l1 : s.last ≤ 1099511627776
  t0 : 0 ≤ s.till
  t1 : s.till ≤ 1099512627776
  n0 : 0 ≤ s.next
  n1 : s.next ≤ 1099512627776
  c0 : 0 ≤ s.count
  c1 : s.count ≤ 1000000
def Cs.calm : Cs := ⟨0, 0, 0, 0, 0⟩
theorem CsOk.calm : CsOk Cs.calm := ⟨by decide, by decide, by decide, by decide, by decide, by decide, by decide, by decide, by decide, by decide⟩
theorem beginC_may {I : Int} {s : Cs} (h : CsOk s) (now : Int) : mayB (beginC I s now) := by
  have := h.c1
  unfold beginC mayB
  split <;> omega
theorem goOnC_may {s : Cs} (h : CsOk s) : mayB (goOnC s) := by
  have := h.c0
  have := h.c1
  unfold goOnC mayB
  omega
theorem begin_ok {I : Int} {s : Cs} (hI : mayB I) (h : CsOk s) {now : Int} (n0 : 0 ≤ now) (n1 : now ≤ 1099511627776) : CsOk (beginP I s now).2 := by
  have hc := beginC_may (I := I) h now
  have p := pauseZ_bd hI hc
  have := hI.2
  unfold beginP
  split
  · exact h
  · have c1 := hc.1
    exact ⟨by dsimp only; omega, by dsimp only; omega, h.l0, h.l1, h.t0, h.t1, by dsimp only; omega, by dsimp only; omega, by dsimp only; omega, hc.2⟩
theorem goOn_ok {I : Int} {s : Cs} (hI : mayB I) (h : CsOk s) {now : Int} (n1 : now ≤ 1099511627776) : CsOk (goOnP I s now).2 := by
  have hc := goOnC_may h
  have p := pauseZ_bd hI hc
  have := hI.2
  have := h.n0
  unfold goOnP
  split
  · exact h
  · rename_i hn
    have c1 := hc.1
    exact ⟨h.is0, h.is2, h.l0, h.l1, h.t0, h.t1, by dsimp only; omega, by dsimp only; omega, by dsimp only; omega, hc.2⟩
theorem CsOk.seen {s : Cs} (h : CsOk s) {now : Int} (n0 : 0 ≤ now) (n1 : now ≤ 1099511627776) : CsOk { s with last := now } := ⟨h.is0, h.is2, n0, n1, h.t0, h.t1, h.n0, h.n1, h.c0, h.c1⟩
theorem ask_ok {T I : Int} {s : Cs} (hI : mayB I) (h : CsOk s) (now waited : Int) : CsOk (askP T I s now waited).2 := by
  have l0 := h.l0
  have i1 := hI.1
  have i2 := hI.2
  unfold askP
  split
  · exact h
  · rename_i hb
    have n0 : 0 ≤ now := by omega
    have n1 : now ≤ 1099511627776 := by omega
    split
    · exact ⟨by dsimp only; omega, by dsimp only; omega, n0, n1, h.t0, h.t1, h.n0, h.n1, h.c0, h.c1⟩
    split
    · exact ⟨by dsimp only; omega, by dsimp only; omega, n0, n1, by dsimp only; omega, by dsimp only; omega, h.n0, h.n1, h.c0, h.c1⟩
    split
    · exact begin_ok hI (h.seen n0 n1) n0 n1
    · exact goOn_ok hI (h.seen n0 n1) n1
/-- What waited less than the target is never dropped; what isn't dropped isn't counted. -/
theorem ask_target {T I : Int} {s : Cs} {now waited : Int} (h : (askP T I s now waited).1 = true) : ¬ waited < T := by
  intro hw
  unfold askP at h
  rw [if_pos hw] at h
  split at h <;> cases h
theorem ask_count {T I : Int} {s : Cs} {now waited : Int} (h : (askP T I s now waited).1 = false) : (askP T I s now waited).2.count = s.count := by
  unfold askP at h ⊢
  split
  · rfl
  · rename_i h1
    rw [if_neg h1] at h
    split
    · rfl
    · rename_i h2
      rw [if_neg h2] at h
      split
      · rfl
      · rename_i h3
        rw [if_neg h3] at h
        split
        · rename_i h4
          rw [if_pos h4] at h
          unfold beginP at h ⊢
          split
          · rfl
          · rename_i h5
            rw [if_neg h5] at h
            cases h
        · rename_i h4
          rw [if_neg h4] at h
          unfold goOnP at h ⊢
          split
          · rfl
          · rename_i h5
            rw [if_neg h5] at h
            cases h
end Go.Proofs.Ytljklehlmahbgaa
