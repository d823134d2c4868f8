/-
  Layer 22 (backoff), the pure part: the wait behind so many failures, less a jitter.
  Layer 23 (fuse), the pure part: a fuse as a step.
  Layer 22 (backoff): a wait behind a pointer, the program's and the document's; New, Good, Fails.
  Layer 23 (fuse): a fuse behind a pointer, the program's and the document's, with all their calls.
  Layer 23 (fuse): Ask and Bad, the program's and the document's; the document's Good.
-/
import Derived.Test.YtgeahpfdaehjaaaGreatDoorGrpA
import Derived.Deep.QuietTactic
import Derived.BigQuiet
import Derived.RegionTactic
import Derived.Deep.RegionLaw
import Derived.Deep.LoopGhost
import Derived.Lib.MinMax
namespace Go.Proofs.YtgeahpfdaehjaaaGreatDoor
set_option linter.unusedVariables false

/-- What may be. -/
structure GoodB (b l : Int) : Prop where
  b1 : 1 ≤ b
  bl : b ≤ l
  l1 : l ≤ 1000000
/-- The base, doubled so often, at most the cap. -/
def bwZ (b l : Int) : Nat → Int
  | 0 => b
  | n + 1 => min (bwZ b l n * 2) l
section
variable {b l : Int}
theorem bw_bd (g : GoodB b l) : ∀ n, b ≤ bwZ b l n ∧ bwZ b l n ≤ l
  | 0 => ⟨Int.le_refl _, g.bl⟩
  | n + 1 => by
    have := bw_bd g n
    have := g.b1
    have := g.bl
    unfold bwZ
    omega
theorem bw_up (g : GoodB b l) (n : Nat) : bwZ b l n ≤ bwZ b l (n + 1) := by
  have := bw_bd g n
  have := g.b1
  show bwZ b l n ≤ min (bwZ b l n * 2) l
  omega
theorem bw_top (g : GoodB b l) {k : Nat} (h : bwZ b l k = l) : ∀ m, bwZ b l (k + m) = l
  | 0 => h
  | m + 1 => by
    have := bw_top g h m
    have := g.b1
    have := g.bl
    show min (bwZ b l (k + m) * 2) l = l
    omega
theorem bw_big (g : GoodB b l) : ∀ n, bwZ b l n = l ∨ ((2 ^ n : Nat) : Int) ≤ bwZ b l n
  | 0 => .inr g.b1
  | n + 1 => by
    have h := bw_bd g n
    have := g.b1
    have e : bwZ b l (n + 1) = min (bwZ b l n * 2) l := rfl
    rcases bw_big g n with x | x
    · exact .inl (bw_top g x 1)
    · rw [e, Nat.pow_succ]
      omega
theorem bw_40 (g : GoodB b l) {n : Nat} (h : 40 ≤ n) : bwZ b l n = l := by
  have e : bwZ b l 40 = l := by
    rcases bw_big g 40 with x | x
    · exact x
    · have := (bw_bd g 40).2
      have := g.l1
      omega
  have := bw_top g e (n - 40)
  rwa [show 40 + (n - 40) = n by omega] at this
/-- What the program's doubling has come to, i times doubled. -/
structure Dbl (b l : Int) (i : Nat) (v : Int) : Prop where
  e : min v l = bwZ b l i
  v1 : 1 ≤ v
  v2 : v ≤ 2 * l
theorem Dbl.start (g : GoodB b l) : Dbl b l 0 b := ⟨by have := g.bl; show min b l = b; omega, g.b1, by have := g.b1; have := g.bl; omega⟩
theorem Dbl.next {i : Nat} {v : Int} (g : GoodB b l) (h : Dbl b l i v) (hv : v < l) : Dbl b l (i + 1) (v * 2) := by
  have := g.b1
  have := h.e
  have := h.v1
  exact ⟨by show min (v * 2) l = min (bwZ b l i * 2) l; omega, by omega, by omega⟩
theorem Dbl.top {i n : Nat} {v : Int} (g : GoodB b l) (h : Dbl b l i v) (hv : ¬ v < l) (hi : i ≤ n) : min v l = bwZ b l n := by
  have e : bwZ b l i = l := by have := h.e; omega
  have := bw_top g e (n - i)
  rw [show i + (n - i) = n by omega] at this
  omega
/-- A wait less a jitter. -/
def jitZ (j w : Int) : Int := w - (max j 0) % (w / 2 + 1)
theorem jit_zero {w : Int} (h : 1 ≤ w) : jitZ 0 w = w := by
  have e : (max (0 : Int) 0) = 0 := rfl
  unfold jitZ
  rw [e, Int.zero_emod]
  omega
theorem jit_bd {w : Int} (h : 1 ≤ w) (j : Int) : 1 ≤ jitZ j w ∧ jitZ j w ≤ w ∧ w ≤ 2 * jitZ j w := by
  have h1 := Int.emod_nonneg (max j 0) (show w / 2 + 1 ≠ 0 by omega)
  have h2 := Int.emod_lt_of_pos (max j 0) (show 0 < w / 2 + 1 by omega)
  unfold jitZ
  omega
end
end Go.Proofs.YtgeahpfdaehjaaaGreatDoor
namespace Go.Proofs.YtgeahpfdaehjaaaGreatDoor
set_option linter.unusedVariables false

/-- What may be. -/
structure GoodF (b p : Int) : Prop where
  b1 : 1 ≤ b
  b2 : b ≤ 1000
  p1 : 1 ≤ p
  p2 : p ≤ 1000000
/-- A tick that there is. -/
def WiF (n : Int) : Prop := 0 ≤ n ∧ n ≤ 1099511627776
instance (n : Int) : Decidable (WiF n) := inferInstanceAs (Decidable (_ ∧ _))
/-- A fuse: what it is (0 whole, 1 blown, 2 on trial), how many failures, and when it was blown. -/
structure Fz where
  st : Nat
  fl : Nat
  bl : Int
def Fz.new : Fz := ⟨0, 0, 0⟩
structure FzOk (b : Int) (s : Fz) : Prop where
  st : s.st ≤ 2
  fl : s.fl ≤ 1000
  wh : s.st = 0 → (s.fl : Int) < b
  bl : WiF s.bl
/-- Is one let through? -/
def YesF (p : Int) (s : Fz) (n : Int) : Prop := WiF n ∧ (s.st = 0 ∨ (s.st = 1 ∧ s.bl + p ≤ n))
instance (p : Int) (s : Fz) (n : Int) : Decidable (YesF p s n) := inferInstanceAs (Decidable (_ ∧ _))
def askF (p : Int) (s : Fz) (n : Int) : Fz := if YesF p s n ∧ s.st = 1 then ⟨2, s.fl, s.bl⟩ else s
def goodF (s : Fz) : Fz := ⟨0, 0, s.bl⟩
def badF (b : Int) (s : Fz) (n : Int) : Fz :=
  if ¬ WiF n ∨ s.st = 1 then s
  else if s.st = 2 then ⟨1, s.fl, n⟩
  else if (s.fl : Int) + 1 < b then ⟨0, s.fl + 1, s.bl⟩
  else ⟨1, s.fl + 1, n⟩
section
variable {b p n : Int} {s : Fz}
theorem FzOk.new (g : GoodF b p) : FzOk b Fz.new := ⟨Nat.zero_le _, Nat.zero_le _, fun _ => by have := g.b1; show (0 : Int) < b; omega, by show WiF 0; unfold WiF; decide⟩
theorem FzOk.ask (h : FzOk b s) (p n : Int) : FzOk b (askF p s n) := by
  unfold askF
  split
  · exact ⟨Nat.le_refl _, h.fl, (fun e => by cases e), h.bl⟩
  · exact h
theorem FzOk.good (g : GoodF b p) (h : FzOk b s) : FzOk b (goodF s) := ⟨Nat.zero_le _, Nat.zero_le _, fun _ => by have := g.b1; show (0 : Int) < b; omega, h.bl⟩
theorem FzOk.bad (g : GoodF b p) (h : FzOk b s) (n : Int) : FzOk b (badF b s n) := by
  unfold badF
  split
  · exact h
  · rename_i h1
    have hn : WiF n := Decidable.byContradiction (fun x => h1 (.inl x))
    split
    · exact ⟨Nat.le_succ 1, h.fl, (fun e => by cases e), hn⟩
    · rename_i h2
      have h0 : s.st = 0 := by have := h.st; omega
      have hw := h.wh h0
      have := g.b2
      split
      · rename_i h3
        exact ⟨Nat.zero_le _, by show s.fl + 1 ≤ 1000; omega, fun _ => by show ((s.fl + 1 : Nat) : Int) < b; omega, h.bl⟩
      · exact ⟨Nat.le_succ 1, by show s.fl + 1 ≤ 1000; omega, (fun e => by cases e), hn⟩
theorem wif_out (h : ¬ WiF n) : n < 0 ∨ (¬ n < 0 ∧ 1099511627776 < n) := by
  unfold WiF at h
  omega
/-- The five ways of an Ask. -/
theorem ask_ways (h : FzOk b s) (p n : Int) :
    (¬ WiF n ∧ ¬ YesF p s n ∧ askF p s n = s) ∨
    (WiF n ∧ s.st = 0 ∧ YesF p s n ∧ askF p s n = s) ∨
    (WiF n ∧ s.st = 1 ∧ s.bl + p ≤ n ∧ YesF p s n ∧ askF p s n = ⟨2, s.fl, s.bl⟩) ∨
    (WiF n ∧ s.st = 1 ∧ n < s.bl + p ∧ ¬ YesF p s n ∧ askF p s n = s) ∨
    (WiF n ∧ s.st = 2 ∧ ¬ YesF p s n ∧ askF p s n = s) := by
  have h2 := h.st
  by_cases hn : WiF n
  · by_cases h0 : s.st = 0
    · refine .inr (.inl ⟨hn, h0, ⟨hn, .inl h0⟩, ?_⟩)
      unfold askF; rw [if_neg (by omega)]
    · by_cases h1 : s.st = 1
      · by_cases hp : s.bl + p ≤ n
        · refine .inr (.inr (.inl ⟨hn, h1, hp, ⟨hn, .inr ⟨h1, hp⟩⟩, ?_⟩))
          unfold askF; rw [if_pos ⟨⟨hn, .inr ⟨h1, hp⟩⟩, h1⟩]
        · have : ¬ YesF p s n := fun y => by have := y.2; omega
          refine .inr (.inr (.inr (.inl ⟨hn, h1, by omega, this, ?_⟩)))
          unfold askF; rw [if_neg (fun y => this y.1)]
      · have : ¬ YesF p s n := fun y => by have := y.2; omega
        refine .inr (.inr (.inr (.inr ⟨hn, by omega, this, ?_⟩)))
        unfold askF; rw [if_neg (fun y => this y.1)]
  · have : ¬ YesF p s n := fun y => hn y.1
    refine .inl ⟨hn, this, ?_⟩
    unfold askF; rw [if_neg (fun y => this y.1)]
/-- The five ways of a Bad. -/
theorem bad_ways (h : FzOk b s) (n : Int) :
    (¬ WiF n ∧ badF b s n = s) ∨
    (WiF n ∧ s.st = 1 ∧ badF b s n = s) ∨
    (WiF n ∧ s.st = 2 ∧ badF b s n = ⟨1, s.fl, n⟩) ∨
    (WiF n ∧ s.st = 0 ∧ (s.fl : Int) + 1 < b ∧ badF b s n = ⟨0, s.fl + 1, s.bl⟩) ∨
    (WiF n ∧ s.st = 0 ∧ ¬ (s.fl : Int) + 1 < b ∧ badF b s n = ⟨1, s.fl + 1, n⟩) := by
  have h2 := h.st
  by_cases hn : WiF n
  · by_cases h1 : s.st = 1
    · exact .inr (.inl ⟨hn, h1, by unfold badF; rw [if_pos (.inr h1)]⟩)
    · have e : ¬ (¬ WiF n ∨ s.st = 1) := fun y => y.elim (fun z => z hn) h1
      by_cases h3 : s.st = 2
      · exact .inr (.inr (.inl ⟨hn, h3, by unfold badF; rw [if_neg e, if_pos h3]⟩))
      · by_cases hb : (s.fl : Int) + 1 < b
        · exact .inr (.inr (.inr (.inl ⟨hn, by omega, hb, by unfold badF; rw [if_neg e, if_neg h3, if_pos hb]⟩)))
        · exact .inr (.inr (.inr (.inr ⟨hn, by omega, hb, by unfold badF; rw [if_neg e, if_neg h3, if_neg hb]⟩)))
  · exact .inl ⟨hn, by unfold badF; rw [if_pos (.inl hn)]⟩
end
end Go.Proofs.YtgeahpfdaehjaaaGreatDoor
namespace Go.Proofs.YtgeahpfdaehjaaaGreatDoor
open Go.ChangeShapes Go.WideShapes Go.ChangeAt Go.RowKit
set_option linter.unusedVariables false

/-- The program's wait behind a pointer at block a, behind n failures. -/
def Wp (w : World) (a : Nat) (b l : Int) (n : Nat) : Prop :=
  w.heap[a]? = some (.cells #[.int .i64 b, .int .i64 l, .int .i64 (n : Nat)] 116 (0, 0))
/-- The document's. -/
def Wr (w : World) (a : Nat) (b l : Int) (n : Nat) : Prop :=
  w.heap[a]? = some (.cells #[.int .i64 b, .int .i64 l, .int .i64 (n : Nat)] 37 (0, 0))
section
variable {w w' : World} {a : Nat} {b l : Int} {n : Nat}
theorem Wp.c0 (h : Wp w a b l n) : w.cell? ⟨a, 0, none⟩ = some (.int .i64 b) := cell_of_block h
theorem Wp.c1 (h : Wp w a b l n) : w.cell? ⟨a, 1, none⟩ = some (.int .i64 l) := cell_of_block h
theorem Wp.c2 (h : Wp w a b l n) : w.cell? ⟨a, 2, none⟩ = some (.int .i64 (n : Nat)) := cell_of_block h
theorem Wp.fr (h : Wp w a b l n) (o : Nat) : w.frozen? ⟨a, o, none⟩ = false := frozen_of_block h
theorem Wp.lt (h : Wp w a b l n) : a < w.heap.size := lt_of_block h
theorem Wp.keeps {F : Nat → Prop} (h : Wp w a b l n) (k : Keeps F w w') (ha : ¬ F a) : Wp w' a b l n := keeps_out k h ha
theorem Wp.still (h : Wp w a b l n) (k : Below w.heap.size w w') : Wp w' a b l n := h.keeps (Keeps.of_below k (Nat.le_refl _) (fun _ => False)) (fun e => e)
theorem Wp.drewN (h : Wp w a b l n) (q : Nat) : Wp (w.drewN q) a b l n := h
theorem Wp.set2 (h : Wp w a b l n) (x : Nat) : Wp (w.setCell ⟨a, 2, none⟩ (.int .i64 (x : Nat))) a b l x := by unfold Wp at *; rw [heap_set_same h]; rfl
theorem Wr.c0 (h : Wr w a b l n) : w.cell? ⟨a, 0, none⟩ = some (.int .i64 b) := cell_of_block h
theorem Wr.c1 (h : Wr w a b l n) : w.cell? ⟨a, 1, none⟩ = some (.int .i64 l) := cell_of_block h
theorem Wr.c2 (h : Wr w a b l n) : w.cell? ⟨a, 2, none⟩ = some (.int .i64 (n : Nat)) := cell_of_block h
theorem Wr.fr (h : Wr w a b l n) (o : Nat) : w.frozen? ⟨a, o, none⟩ = false := frozen_of_block h
theorem Wr.lt (h : Wr w a b l n) : a < w.heap.size := lt_of_block h
theorem Wr.keeps {F : Nat → Prop} (h : Wr w a b l n) (k : Keeps F w w') (ha : ¬ F a) : Wr w' a b l n := keeps_out k h ha
theorem Wr.still (h : Wr w a b l n) (k : Below w.heap.size w w') : Wr w' a b l n := h.keeps (Keeps.of_below k (Nat.le_refl _) (fun _ => False)) (fun e => e)
theorem Wr.drewN (h : Wr w a b l n) (q : Nat) : Wr (w.drewN q) a b l n := h
theorem Wr.set2 (h : Wr w a b l n) (x : Nat) : Wr (w.setCell ⟨a, 2, none⟩ (.int .i64 (x : Nat))) a b l x := by unfold Wr at *; rw [heap_set_same h]; rfl
/-- What a call makes of the program's wait. -/
structure Mwp (w w' : World) (a : Nat) (b l : Int) (n : Nat) : Prop where
  p : Wp w' a b l n
  kp : Keeps (fun g => g = a) w w'
theorem Mwp.refl (h : Wp w a b l n) : Mwp w w a b l n := ⟨h, Keeps.refl _ _⟩
theorem Mwp.drewN (h : Mwp w w' a b l n) (q : Nat) : Mwp w (w'.drewN q) a b l n := ⟨h.p, h.kp.drewN q⟩
theorem Mwp.set2 (h : Mwp w w' a b l n) (x : Nat) : Mwp w (w'.setCell ⟨a, 2, none⟩ (.int .i64 (x : Nat))) a b l x := ⟨h.p.set2 x, h.kp.set _ _ (.inl rfl)⟩
/-- .. and of the document's. -/
structure Mwr (w w' : World) (a : Nat) (b l : Int) (n : Nat) : Prop where
  p : Wr w' a b l n
  kp : Keeps (fun g => g = a) w w'
theorem Mwr.refl (h : Wr w a b l n) : Mwr w w a b l n := ⟨h, Keeps.refl _ _⟩
theorem Mwr.drewN (h : Mwr w w' a b l n) (q : Nat) : Mwr w (w'.drewN q) a b l n := ⟨h.p, h.kp.drewN q⟩
theorem Mwr.set2 (h : Mwr w w' a b l n) (x : Nat) : Mwr w (w'.setCell ⟨a, 2, none⟩ (.int .i64 (x : Nat))) a b l x := ⟨h.p.set2 x, h.kp.set _ _ (.inl rfl)⟩
def errB (c : Nat) : Value := .iface 41 (.int .i64 (c : Nat))
theorem not_goodB (h : ¬ GoodB b l) : b < 1 ∨ (¬ b < 1 ∧ l < b) ∨ (¬ b < 1 ∧ ¬ l < b ∧ 1000000 < l) := by
  by_cases a1 : b < 1
  · exact .inl a1
  by_cases a2 : l < b
  · exact .inr (.inl ⟨a1, a2⟩)
  by_cases a3 : 1000000 < l
  · exact .inr (.inr ⟨a1, a2, a3⟩)
  exact absurd ⟨by omega, by omega, by omega⟩ h
theorem newB_bad (w : World) (b l : Int) (h : ¬ GoodB b l) :
    Calls Tryz.prog 23 #[.int .i64 b, .int .i64 l] w fun e w' => e = .returned (.tuple #[.pointer none, errB 1]) ∧ w = w' := by
  rcases not_goodB h with x | ⟨x1, x2⟩ | ⟨x1, x2, x3⟩
  all_goals
    clear h
    go_enter Tryz.func23, Tryz.ntmps23
    go_wp2_with fail
    go_ret2
    exact ⟨rfl, rfl⟩
theorem newB_good (w : World) (b l : Int) (h : GoodB b l) :
    Calls Tryz.prog 23 #[.int .i64 b, .int .i64 l] w fun e w' => e = .returned (.tuple #[.pointer (some ⟨w.heap.size, 0, none⟩), .nilIface]) ∧ Wp w' w.heap.size b l 0 ∧ Below w.heap.size w w' := by
  obtain ⟨b1, bl, l1⟩ := h
  have x1 : ¬ b < 1 := by omega
  have x2 : ¬ l < b := by omega
  have x3 : ¬ 1000000 < l := by omega
  go_enter Tryz.func23, Tryz.ntmps23
  go_wp2_with fail
  go_ret2
  exact ⟨rfl, heap_alloc_new w _, (Below.refl w.heap.size w).alloc (Nat.le_refl _) _⟩
theorem goodB_walk (h : Wp w a b l n) :
    Calls Tryz.prog 66 #[.pointer (some ⟨a, 0, none⟩)] w fun e w' => e = .returned (.tuple #[]) ∧ Mwp w w' a b l 0 := by
  have c2 := h.c2
  have f2 := h.fr 2
  have M1 : Hid (Mwp w (w.setCell ⟨a, 2, none⟩ (.int .i64 ((0 : Nat) : Int))) a b l 0) := Lib.hid ((Mwp.refl h).set2 0)
  clear h
  go_enter Tryz.func66, Tryz.ntmps66
  go_wp2_with fail
  go_end0
  exact ⟨rfl, M1.out⟩
set_option maxRecDepth 100000 in
theorem whole_walk (h : Wp w a b l n) (g : GoodB b l) (hn : n ≤ 1000) :
    Calls Tryz.prog 91 #[.pointer (some ⟨a, 0, none⟩)] w fun e w' => e = .returned (.int .i64 (bwZ b l n)) ∧ w = w' := by
  have c0 := h.c0
  have c1 := h.c1
  have c2 := h.c2
  have HG := Lib.hid g
  have l1 := g.l1
  obtain ⟨q, hq⟩ : ∃ q, bwZ b l n = q := ⟨_, rfl⟩
  have HQ := Lib.hid hq
  rw [hq]
  clear h g hq
  go_enter Tryz.func91, Tryz.ntmps91
  go_wp2_with fail
  go_loopg [3, 4] n (fun k s3 s4 wx => ∃ (i : Nat) (v : Int), s3 = .int .i64 v ∧ s4 = .int .i64 (k : Nat) ∧ Hid (i + k = n ∧ Dbl b l i v) ∧ Hid (w = wx))
  case atStart => exact ⟨0, b, rfl, rfl, Lib.hid ⟨by omega, Dbl.start HG.out⟩, Lib.hid rfl⟩
  case round =>
    obtain ⟨i, v, rfl, rfl, HV, HW⟩ := hrel
    obtain rfl := HW.out
    cases gk with
    | zero =>
      have e : min v l = q := by rw [← HQ.out]; obtain rfl : n = i := by have := HV.out.1; omega
                                 exact HV.out.2.e
      go_wp2_with fail
      go_ret
      exact ⟨rfl, rfl⟩
    | succ k =>
      by_cases hv : v < l
      · have NX := Lib.hid (Dbl.next HG.out HV.out.2 hv)
        have v1 := HV.out.2.v1
        have hk : k ≤ 1000 := by have := HV.out.1; omega
        have z1 : IntKind.i64.wrap (v * 2) = v * 2 := by rw [IntKind.wrap_i64]; omega
        go_wp2_with fail
        go_roundg k
        case rel => exact ⟨i + 1, v * 2, rfl, by go_num, Lib.hid ⟨by have := HV.out.1; omega, NX.out⟩, Lib.hid rfl⟩
        case measure => omega
      · have e : min v l = q := by rw [← HQ.out]; exact HV.out.2.top HG.out hv (by have := HV.out.1; omega)
        go_wp2_with fail
        go_ret
        exact ⟨rfl, rfl⟩
theorem wrap_jit (j : Int) {w : Int} (h1 : 1 ≤ w) (h2 : w ≤ 1000000) : wrap64 (w - max j 0 % (w / 2 + 1)) = jitZ j w := by
  have e1 := Int.emod_nonneg (max j 0) (show w / 2 + 1 ≠ 0 by omega)
  have e2 := Int.emod_lt_of_pos (max j 0) (show 0 < w / 2 + 1 by omega)
  unfold jitZ
  generalize max j 0 % (w / 2 + 1) = x at *
  unfold wrap64
  omega
set_option maxRecDepth 100000 in
theorem fail_walk (h : Wp w a b l n) (g : GoodB b l) (hn : n ≤ 1000) (j : Int) (j0 : -9223372036854775808 ≤ j) (j1 : j ≤ 9223372036854775807) :
    Calls Tryz.prog 70 #[.pointer (some ⟨a, 0, none⟩), .int .i64 j] w fun e w' => e = .returned (.int .i64 (jitZ j (bwZ b l n))) ∧ Mwp w w' a b l (n + 1) := by
  have CW := Lib.hid (whole_walk h g hn)
  have c2 := h.c2
  have f2 := h.fr 2
  have M1 : Hid (Mwp w (w.setCell ⟨a, 2, none⟩ (.int .i64 ((n + 1 : Nat) : Int))) a b l (n + 1)) := Lib.hid ((Mwp.refl h).set2 (n + 1))
  obtain ⟨W1, W2⟩ := bw_bd g n
  have b1 := g.b1
  have l1 := g.l1
  obtain ⟨q, hq⟩ : ∃ q, bwZ b l n = q := ⟨_, rfl⟩
  rw [hq] at CW W1 W2 ⊢
  have HJ := Lib.hid (wrap_jit j (w := q) (by omega) (by omega))
  clear h g hq
  go_enter Tryz.func70, Tryz.ntmps70
  go_wp2_with fail
  refine CW.out.mono ?_
  rintro e w1 ⟨rfl, rfl⟩
  go_wp2_with fail
  go_ret
  exact ⟨congrArg (fun x => Ending.returned (.int .i64 x)) HJ.out, M1.out⟩
set_option maxRecDepth 100000 in
theorem ref_fail (h : Wr w a b l n) (g : GoodB b l) (hn : n ≤ 1000) (j : Int) (j0 : -9223372036854775808 ≤ j) (j1 : j ≤ 9223372036854775807) :
    Calls Tryz.prog 43 #[.pointer (some ⟨a, 0, none⟩), .int .i64 j] w fun e w' => e = .returned (.int .i64 (jitZ j (bwZ b l n))) ∧ Mwr w w' a b l (n + 1) := by
  have c0 := h.c0
  have c1 := h.c1
  have c2 := h.c2
  have f2 := h.fr 2
  have M1 : Hid (Mwr w (w.setCell ⟨a, 2, none⟩ (.int .i64 ((n + 1 : Nat) : Int))) a b l (n + 1)) := Lib.hid ((Mwr.refl h).set2 (n + 1))
  obtain ⟨W1, W2⟩ := bw_bd g n
  have b1 := g.b1
  have l1 := g.l1
  have HG := Lib.hid g
  obtain ⟨q, hq⟩ : ∃ q, bwZ b l n = q := ⟨_, rfl⟩
  have HQ := Lib.hid hq
  rw [hq] at W1 W2 ⊢
  have HJ := Lib.hid (wrap_jit j (w := q) (by omega) (by omega))
  obtain ⟨r, hr⟩ : ∃ r, jitZ j q = r := ⟨_, rfl⟩
  have HR := Lib.hid hr
  rw [hr] at HJ ⊢
  clear h g hq hr
  go_enter Tryz.func43, Tryz.ntmps43
  go_wp2_with fail
  go_loopg [5, 6] 40 (fun k s5 s6 wx => ∃ (i : Nat) (v : Int), s5 = .int .i64 v ∧ s6 = .int .i64 (i : Nat) ∧ i ≤ n ∧ Hid (i + k = 40 ∧ v = bwZ b l i) ∧ Hid (w = wx))
  case atStart => exact ⟨0, b, rfl, rfl, Nat.zero_le _, Lib.hid ⟨rfl, rfl⟩, Lib.hid rfl⟩
  case round =>
    obtain ⟨i, v, rfl, rfl, hi, HV, HW⟩ := hrel
    obtain rfl := HW.out
    by_cases hk : i < n ∧ i < 40
    · obtain ⟨k1, k2⟩ := hk
      obtain ⟨V1, V2⟩ := bw_bd HG.out i
      have HW1 := HV.out.2
      rw [← HW1] at V1 V2
      cases gk with
      | zero => exact absurd HV.out.1 (by omega)
      | succ k =>
        have HI := Lib.hid HV.out.1
        have N1 : Hid (min (v * 2) l = bwZ b l (i + 1)) := Lib.hid (by rw [HW1]; rfl)
        have z1 : IntKind.i64.wrap (v * 2) = v * 2 := by rw [IntKind.wrap_i64]; omega
        clear HW1 HV HQ HJ HR M1
        by_cases hv : l < v * 2
        · have E1 := Lib.hid (show l = bwZ b l (i + 1) by rw [← N1.out]; omega)
          clear N1
          go_wp2_with fail
          go_roundg k
          case rel => exact ⟨i + 1, l, rfl, by go_num, by omega, Lib.hid ⟨by have := HI.out; omega, E1.out⟩, Lib.hid rfl⟩
          case measure => omega
        · have E1 := Lib.hid (show v * 2 = bwZ b l (i + 1) by rw [← N1.out]; omega)
          clear N1
          go_wp2_with fail
          go_roundg k
          case rel => exact ⟨i + 1, v * 2, rfl, by go_num, by omega, Lib.hid ⟨by have := HI.out; omega, E1.out⟩, Lib.hid rfl⟩
          case measure => omega
    · have e : v = q := by
        rw [← HQ.out, HV.out.2]
        rcases Nat.lt_or_ge i n with x | x
        · rw [bw_40 HG.out (n := i) (by omega), bw_40 HG.out (n := n) (by omega)]
        · rw [show i = n by omega]
      subst e
      have E0 : Hid (j < 0 → v = r) := Lib.hid (fun y => by rw [← HR.out]; unfold jitZ; rw [show max j 0 = 0 by omega, Int.zero_emod]; omega)
      have E1 : Hid (¬ j < 0 → wrap64 (v - j % (v / 2 + 1)) = r) := Lib.hid (fun y => by have := HJ.out; rwa [show max j 0 = j by omega] at this)
      clear HJ HR HV HQ
      rcases Nat.lt_or_ge i n with x | x
      · have y1 : ¬ (i : Int) < 40 := by omega
        by_cases hj : j < 0
        · go_wp2_with fail
          go_ret
          exact ⟨congrArg (fun x => Ending.returned (.int .i64 x)) (E0.out hj), M1.out⟩
        · go_wp2_with fail
          go_ret
          exact ⟨congrArg (fun x => Ending.returned (.int .i64 x)) (E1.out (by omega)), M1.out⟩
      · have y1 : ¬ (i : Int) < n := by omega
        by_cases hj : j < 0
        · go_wp2_with fail
          go_ret
          exact ⟨congrArg (fun x => Ending.returned (.int .i64 x)) (E0.out hj), M1.out⟩
        · go_wp2_with fail
          go_ret
          exact ⟨congrArg (fun x => Ending.returned (.int .i64 x)) (E1.out (by omega)), M1.out⟩
theorem refB_yes (h : Wr w a b l n) (g : GoodB b l) :
    Calls Tryz.prog 9 #[.pointer (some ⟨a, 0, none⟩)] w fun e w' => e = .returned (.bool true) ∧ ∃ q, w' = w.drewN q := by
  have c0 := h.c0
  have c1 := h.c1
  obtain ⟨b1, bl, l1⟩ := g
  clear h
  go_enter Tryz.func9, Tryz.ntmps9
  go_wp2_with fail
  go_quiet (fail)
  go_wp2_with fail
  go_ret
  exact ⟨rfl, _, rfl⟩
theorem refB_no (h : Wr w a b l n) (g : ¬ GoodB b l) :
    Calls Tryz.prog 9 #[.pointer (some ⟨a, 0, none⟩)] w fun e w' => e = .returned (.bool false) ∧ ∃ q, w' = w.drewN q := by
  have c0 := h.c0
  have c1 := h.c1
  rcases not_goodB g with x | ⟨x1, x2⟩ | ⟨x1, x2, x3⟩
  · have y := Lib.hid (decide_eq_false (p := 1 ≤ b) (by omega))
    clear h g x
    go_enter Tryz.func9, Tryz.ntmps9
    go_wp2_with fail
    have y := y.out
    go_quiet (fail)
    go_wp2_with fail
    go_ret
    exact ⟨rfl, _, rfl⟩
  · have y := Lib.hid (decide_eq_false (p := b ≤ l) (by omega))
    clear h g x2
    go_enter Tryz.func9, Tryz.ntmps9
    go_wp2_with fail
    have y := y.out
    go_quiet (fail)
    go_wp2_with fail
    go_ret
    exact ⟨rfl, _, rfl⟩
  · have y := Lib.hid (decide_eq_false (p := l ≤ 1000000) (by omega))
    clear h g x3
    go_enter Tryz.func9, Tryz.ntmps9
    go_wp2_with fail
    go_quiet (fail)
    go_wp2_with fail
    go_ret
    exact ⟨congrArg (fun x => Ending.returned (.bool x)) y.out, _, rfl⟩
end
end Go.Proofs.YtgeahpfdaehjaaaGreatDoor
namespace Go.Proofs.YtgeahpfdaehjaaaGreatDoor
open Go.ChangeShapes Go.WideShapes Go.ChangeAt Go.RowKit
set_option linter.unusedVariables false

/-- A fuse behind a pointer at block a, the program's (t its type) or the document's. -/
def Fb (t : TypeId) (w : World) (a : Nat) (b p : Int) (s : Fz) : Prop :=
  w.heap[a]? = some (.cells #[.int .i64 b, .int .i64 p, .int .i64 (s.st : Nat), .int .i64 (s.fl : Nat), .int .i64 s.bl] t (0, 0))
section
variable {t : TypeId} {w w' : World} {a : Nat} {b p : Int} {s s' : Fz}
theorem Fb.c0 (h : Fb t w a b p s) : w.cell? ⟨a, 0, none⟩ = some (.int .i64 b) := cell_of_block h
theorem Fb.c1 (h : Fb t w a b p s) : w.cell? ⟨a, 1, none⟩ = some (.int .i64 p) := cell_of_block h
theorem Fb.c2 (h : Fb t w a b p s) : w.cell? ⟨a, 2, none⟩ = some (.int .i64 (s.st : Nat)) := cell_of_block h
theorem Fb.c3 (h : Fb t w a b p s) : w.cell? ⟨a, 3, none⟩ = some (.int .i64 (s.fl : Nat)) := cell_of_block h
theorem Fb.c4 (h : Fb t w a b p s) : w.cell? ⟨a, 4, none⟩ = some (.int .i64 s.bl) := cell_of_block h
theorem Fb.fr (h : Fb t w a b p s) (o : Nat) : w.frozen? ⟨a, o, none⟩ = false := frozen_of_block h
theorem Fb.lt (h : Fb t w a b p s) : a < w.heap.size := lt_of_block h
theorem Fb.keeps {F : Nat → Prop} (h : Fb t w a b p s) (k : Keeps F w w') (ha : ¬ F a) : Fb t w' a b p s := keeps_out k h ha
theorem Fb.still (h : Fb t w a b p s) (k : Below w.heap.size w w') : Fb t w' a b p s := h.keeps (Keeps.of_below k (Nat.le_refl _) (fun _ => False)) (fun e => e)
theorem Fb.drewN (h : Fb t w a b p s) (q : Nat) : Fb t (w.drewN q) a b p s := h
theorem Fb.set2 (h : Fb t w a b p s) (x : Nat) : Fb t (w.setCell ⟨a, 2, none⟩ (.int .i64 (x : Nat))) a b p ⟨x, s.fl, s.bl⟩ := by unfold Fb at *; rw [heap_set_same h]; rfl
theorem Fb.set3 (h : Fb t w a b p s) (x : Nat) : Fb t (w.setCell ⟨a, 3, none⟩ (.int .i64 (x : Nat))) a b p ⟨s.st, x, s.bl⟩ := by unfold Fb at *; rw [heap_set_same h]; rfl
theorem Fb.set4 (h : Fb t w a b p s) (x : Int) : Fb t (w.setCell ⟨a, 4, none⟩ (.int .i64 x)) a b p ⟨s.st, s.fl, x⟩ := by unfold Fb at *; rw [heap_set_same h]; rfl
/-- What a call makes of a fuse. -/
structure Mfz (t : TypeId) (w w' : World) (a : Nat) (b p : Int) (s : Fz) : Prop where
  f : Fb t w' a b p s
  kp : Keeps (fun g => g = a) w w'
theorem Mfz.refl (h : Fb t w a b p s) : Mfz t w w a b p s := ⟨h, Keeps.refl _ _⟩
theorem Mfz.drewN (h : Mfz t w w' a b p s) (q : Nat) : Mfz t w (w'.drewN q) a b p s := ⟨h.f, h.kp.drewN q⟩
theorem Mfz.drew (h : Mfz t w w' a b p s) : Mfz t w w'.drew a b p s := h.drewN 1
theorem Mfz.set2 (h : Mfz t w w' a b p s) (x : Nat) : Mfz t w (w'.setCell ⟨a, 2, none⟩ (.int .i64 (x : Nat))) a b p ⟨x, s.fl, s.bl⟩ := ⟨h.f.set2 x, h.kp.set _ _ (.inl rfl)⟩
theorem Mfz.set3 (h : Mfz t w w' a b p s) (x : Nat) : Mfz t w (w'.setCell ⟨a, 3, none⟩ (.int .i64 (x : Nat))) a b p ⟨s.st, x, s.bl⟩ := ⟨h.f.set3 x, h.kp.set _ _ (.inl rfl)⟩
theorem Mfz.set4 (h : Mfz t w w' a b p s) (x : Int) : Mfz t w (w'.setCell ⟨a, 4, none⟩ (.int .i64 x)) a b p ⟨s.st, s.fl, x⟩ := ⟨h.f.set4 x, h.kp.set _ _ (.inl rfl)⟩
def errF (c : Nat) : Value := .iface 41 (.int .i64 (c : Nat))
/-- What an Ask answers. -/
def askV (p : Int) (s : Fz) (n : Int) : Value := if YesF p s n then .nilIface else errF 9
theorem askV_yes {n : Int} (h : YesF p s n) : askV p s n = .nilIface := if_pos h
theorem askV_no {n : Int} (h : ¬ YesF p s n) : askV p s n = errF 9 := if_neg h
theorem not_goodF (h : ¬ GoodF b p) : b < 1 ∨ (¬ b < 1 ∧ 1000 < b) ∨ (¬ b < 1 ∧ ¬ 1000 < b ∧ p < 1) ∨ (¬ b < 1 ∧ ¬ 1000 < b ∧ ¬ p < 1 ∧ 1000000 < p) := by
  by_cases a1 : b < 1
  · exact .inl a1
  by_cases a2 : 1000 < b
  · exact .inr (.inl ⟨a1, a2⟩)
  by_cases a3 : p < 1
  · exact .inr (.inr (.inl ⟨a1, a2, a3⟩))
  by_cases a4 : 1000000 < p
  · exact .inr (.inr (.inr ⟨a1, a2, a3, a4⟩))
  exact absurd ⟨by omega, by omega, by omega, by omega⟩ h
theorem newF_bad (w : World) (b p : Int) (h : ¬ GoodF b p) :
    Calls Tryz.prog 24 #[.int .i64 b, .int .i64 p] w fun e w' => e = .returned (.tuple #[.pointer none, errF 1]) ∧ w = w' := by
  rcases not_goodF h with x | ⟨x1, x2⟩ | ⟨x1, x2, x3⟩ | ⟨x1, x2, x3, x4⟩
  all_goals
    clear h
    go_enter Tryz.func24, Tryz.ntmps24
    go_wp2_with fail
    go_ret2
    exact ⟨rfl, rfl⟩
theorem newF_good (w : World) (b p : Int) (h : GoodF b p) :
    Calls Tryz.prog 24 #[.int .i64 b, .int .i64 p] w fun e w' => e = .returned (.tuple #[.pointer (some ⟨w.heap.size, 0, none⟩), .nilIface]) ∧ Fb 118 w' w.heap.size b p Fz.new ∧ Below w.heap.size w w' := by
  obtain ⟨b1, b2, p1, p2⟩ := h
  have x1 : ¬ b < 1 := by omega
  have x2 : ¬ 1000 < b := by omega
  have x3 : ¬ p < 1 := by omega
  have x4 : ¬ 1000000 < p := by omega
  go_enter Tryz.func24, Tryz.ntmps24
  go_wp2_with fail
  go_ret2
  exact ⟨rfl, heap_alloc_new w _, (Below.refl w.heap.size w).alloc (Nat.le_refl _) _⟩
theorem withinF_in (w : World) {n : Int} (h : WiF n) :
    Calls Tryz.prog 65 #[.int .i64 n] w fun e w' => e = .returned (.bool true) ∧ w = w' := by
  obtain ⟨x1, x2⟩ := h
  go_enter Tryz.func65, Tryz.ntmps65
  go_wp2_with fail
  go_ret
  exact ⟨rfl, rfl⟩
theorem withinF_out (w : World) {n : Int} (h : ¬ WiF n) :
    Calls Tryz.prog 65 #[.int .i64 n] w fun e w' => e = .returned (.bool false) ∧ w = w' := by
  rcases wif_out h with x | ⟨x1, x2⟩
  · have x1 : ¬ 0 ≤ n := by omega
    clear h x
    go_enter Tryz.func65, Tryz.ntmps65
    go_wp2_with fail
    go_ret
    exact ⟨rfl, rfl⟩
  · have x3 : 0 ≤ n := by omega
    have x4 : ¬ n ≤ 1099511627776 := by omega
    clear h x1 x2
    go_enter Tryz.func65, Tryz.ntmps65
    go_wp2_with fail
    go_ret
    exact ⟨rfl, rfl⟩
theorem good_walk (h : Fb 118 w a b p s) :
    Calls Tryz.prog 67 #[.pointer (some ⟨a, 0, none⟩)] w fun e w' => e = .returned (.tuple #[]) ∧ Mfz 118 w w' a b p (goodF s) := by
  have f2 := h.fr 2
  have f3 := h.fr 3
  have c2 := h.c2
  have c3 := h.c3
  have M1 : Hid (Mfz 118 w ((w.setCell ⟨a, 2, none⟩ (.int .i64 ((0 : Nat) : Int))).setCell ⟨a, 3, none⟩ (.int .i64 ((0 : Nat) : Int))) a b p (goodF s)) := Lib.hid (((Mfz.refl h).set2 0).set3 0)
  clear h
  go_enter Tryz.func67, Tryz.ntmps67
  go_wp2_with fail
  go_end0
  exact ⟨rfl, M1.out⟩
theorem ref_well (h : Fb 40 w a b p s) :
    Calls Tryz.prog 40 #[.pointer (some ⟨a, 0, none⟩)] w fun e w' => e = .returned (.tuple #[]) ∧ Mfz 40 w w' a b p (goodF s) := by
  have f2 := h.fr 2
  have f3 := h.fr 3
  have c2 := h.c2
  have c3 := h.c3
  have M1 : Hid (Mfz 40 w ((w.setCell ⟨a, 2, none⟩ (.int .i64 ((0 : Nat) : Int))).setCell ⟨a, 3, none⟩ (.int .i64 ((0 : Nat) : Int))) a b p (goodF s)) := Lib.hid (((Mfz.refl h).set2 0).set3 0)
  clear h
  go_enter Tryz.func40, Tryz.ntmps40
  go_wp2_with fail
  go_end0
  exact ⟨rfl, M1.out⟩
end
end Go.Proofs.YtgeahpfdaehjaaaGreatDoor
namespace Go.Proofs.YtgeahpfdaehjaaaGreatDoor
open Go.ChangeShapes Go.WideShapes Go.ChangeAt Go.RowKit
set_option linter.unusedVariables false

section
variable {w w' : World} {a : Nat} {b p : Int} {s : Fz}
set_option maxRecDepth 100000 in
set_option maxHeartbeats 400000 in
theorem ask_walk (h : Fb 118 w a b p s) (g : GoodF b p) (k : FzOk b s) (n : Int) (n0 : -9223372036854775808 ≤ n) (n1 : n ≤ 9223372036854775807) :
    Calls Tryz.prog 35 #[.pointer (some ⟨a, 0, none⟩), .int .i64 n] w fun e w' => e = .returned (askV p s n) ∧ Mfz 118 w w' a b p (askF p s n) := by
  obtain ⟨b1, b2, p1, p2⟩ := g
  obtain ⟨l0, l1⟩ := k.bl
  rcases ask_ways k p n with ⟨y, no, e⟩ | ⟨y, z, yes, e⟩ | ⟨y, z, q, yes, e⟩ | ⟨y, z, q, no, e⟩ | ⟨y, z, no, e⟩
  all_goals
    obtain ⟨st, fl, bl⟩ := s
    dsimp only at *
    try subst z
    rw [e]
    first | rw [askV_yes yes] | (rw [askV_no no]; unfold errF)
    have HM := Lib.hid (Mfz.refl h)
    have HM2 := Lib.hid (fun q => (Mfz.drewN HM.out q).set2 2)
    have CI := Lib.hid (fun w hn => withinF_in w (n := n) hn)
    have CO := Lib.hid (fun w hn => withinF_out w (n := n) hn)
    have HY := Lib.hid y
    have c0 := h.c0
    have c1 := h.c1
    have c2 := h.c2
    have c3 := h.c3
    have c4 := h.c4
    have f2 := h.fr 2
    have f3 := h.fr 3
    have f4 := h.fr 4
    clear h k e y
    try clear yes
    try clear no
  · go_enter Tryz.func35, Tryz.ntmps35
    go_wp2_with fail
    refine (CO.out _ HY.out).mono ?_
    rintro e w1 ⟨rfl, rfl⟩
    clear CI CO HY
    go_wp2_with fail
    go_ret
    exact ⟨rfl, HM.out⟩
  · go_enter Tryz.func35, Tryz.ntmps35
    go_wp2_with fail
    refine (CI.out _ HY.out).mono ?_
    rintro e w1 ⟨rfl, rfl⟩
    clear CI CO HY
    go_wp2_with fail
    go_ret
    exact ⟨rfl, HM.out⟩
  · have z1 : IntKind.i64.wrap (bl + p) = bl + p := by rw [IntKind.wrap_i64]; omega
    go_enter Tryz.func35, Tryz.ntmps35
    go_wp2_with fail
    refine (CI.out _ HY.out).mono ?_
    rintro e w1 ⟨rfl, rfl⟩
    clear CI CO HY
    go_wp2_with fail
    go_quiet (fail)
    go_wp2_with fail
    go_ret
    exact ⟨rfl, HM2.out _⟩
  · have z1 : IntKind.i64.wrap (bl + p) = bl + p := by rw [IntKind.wrap_i64]; omega
    go_enter Tryz.func35, Tryz.ntmps35
    go_wp2_with fail
    refine (CI.out _ HY.out).mono ?_
    rintro e w1 ⟨rfl, rfl⟩
    clear CI CO HY
    go_wp2_with fail
    go_quiet (fail)
    go_wp2_with fail
    go_ret
    exact ⟨rfl, HM.out.drewN _⟩
  · have z1 : IntKind.i64.wrap (bl + p) = bl + p := by rw [IntKind.wrap_i64]; omega
    go_enter Tryz.func35, Tryz.ntmps35
    go_wp2_with fail
    refine (CI.out _ HY.out).mono ?_
    rintro e w1 ⟨rfl, rfl⟩
    clear CI CO HY
    go_wp2_with fail
    go_quiet (fail)
    go_wp2_with fail
    go_ret
    exact ⟨rfl, HM.out.drewN _⟩
set_option maxRecDepth 100000 in
set_option maxHeartbeats 400000 in
theorem ref_ask (h : Fb 40 w a b p s) (g : GoodF b p) (k : FzOk b s) (n : Int) (n0 : -9223372036854775808 ≤ n) (n1 : n ≤ 9223372036854775807) :
    Calls Tryz.prog 39 #[.pointer (some ⟨a, 0, none⟩), .int .i64 n] w fun e w' => e = .returned (.bool (decide (YesF p s n))) ∧ Mfz 40 w w' a b p (askF p s n) := by
  obtain ⟨b1, b2, p1, p2⟩ := g
  obtain ⟨l0, l1⟩ := k.bl
  rcases ask_ways k p n with ⟨y, no, e⟩ | ⟨y, z, yes, e⟩ | ⟨y, z, q, yes, e⟩ | ⟨y, z, q, no, e⟩ | ⟨y, z, no, e⟩
  all_goals
    obtain ⟨st, fl, bl⟩ := s
    dsimp only at *
    try subst z
    rw [e]
    first | rw [decide_eq_true yes] | rw [decide_eq_false no]
    have HM := Lib.hid (Mfz.refl h)
    have HM2 := Lib.hid (fun q => (Mfz.drewN HM.out q).set2 2)
    have HY := Lib.hid y
    have c0 := h.c0
    have c1 := h.c1
    have c2 := h.c2
    have c3 := h.c3
    have c4 := h.c4
    have f2 := h.fr 2
    have f3 := h.fr 3
    have f4 := h.fr 4
    clear h k e y
    try clear yes
    try clear no
  · rcases wif_out HY.out with x | ⟨x1, x2⟩
    all_goals
      go_enter Tryz.func39, Tryz.ntmps39
      go_wp2_with fail
      go_ret
      exact ⟨rfl, HM.out⟩
  · obtain ⟨y0, y1⟩ := HY.out
    go_enter Tryz.func39, Tryz.ntmps39
    go_wp2_with fail
    go_ret
    exact ⟨rfl, HM.out⟩
  · have z1 : IntKind.i64.wrap (n - bl) = n - bl := by rw [IntKind.wrap_i64]; obtain ⟨y0, y1⟩ := HY.out; omega
    obtain ⟨y0, y1⟩ := HY.out
    have z3 : ¬ n - bl < p := by omega
    go_enter Tryz.func39, Tryz.ntmps39
    go_wp2_with fail
    go_quiet (fail)
    go_wp2_with fail
    go_ret
    exact ⟨rfl, HM2.out _⟩
  · have z1 : IntKind.i64.wrap (n - bl) = n - bl := by rw [IntKind.wrap_i64]; obtain ⟨y0, y1⟩ := HY.out; omega
    obtain ⟨y0, y1⟩ := HY.out
    have z3 : n - bl < p := by omega
    go_enter Tryz.func39, Tryz.ntmps39
    go_wp2_with fail
    go_quiet (fail)
    go_wp2_with fail
    go_ret
    exact ⟨rfl, HM.out.drewN _⟩
  · obtain ⟨y0, y1⟩ := HY.out
    go_enter Tryz.func39, Tryz.ntmps39
    go_wp2_with fail
    go_ret
    exact ⟨rfl, HM.out⟩
set_option maxRecDepth 100000 in
set_option maxHeartbeats 400000 in
theorem bad_walk (h : Fb 118 w a b p s) (g : GoodF b p) (k : FzOk b s) (n : Int) (n0 : -9223372036854775808 ≤ n) (n1 : n ≤ 9223372036854775807) :
    Calls Tryz.prog 69 #[.pointer (some ⟨a, 0, none⟩), .int .i64 n] w fun e w' => e = .returned (.tuple #[]) ∧ Mfz 118 w w' a b p (badF b s n) := by
  obtain ⟨b1, b2, p1, p2⟩ := g
  obtain ⟨l0, l1⟩ := k.bl
  have l2 := k.fl
  rcases bad_ways k n with ⟨y, e⟩ | ⟨y, z, e⟩ | ⟨y, z, e⟩ | ⟨y, z, q, e⟩ | ⟨y, z, q, e⟩
  all_goals
    obtain ⟨st, fl, bl⟩ := s
    dsimp only at *
    try subst z
    rw [e]
    have HM := Lib.hid (Mfz.refl h)
    have CI := Lib.hid (fun w hn => withinF_in w (n := n) hn)
    have CO := Lib.hid (fun w hn => withinF_out w (n := n) hn)
    have HY := Lib.hid y
    have c0 := h.c0
    have c1 := h.c1
    have c2 := h.c2
    have c3 := h.c3
    have c4 := h.c4
    have f2 := h.fr 2
    have f3 := h.fr 3
    have f4 := h.fr 4
    clear h k e y
  · go_enter Tryz.func69, Tryz.ntmps69
    go_wp2_with fail
    refine (CO.out _ HY.out).mono ?_
    rintro e w1 ⟨rfl, rfl⟩
    clear CI CO HY
    go_wp2_with fail
    first | go_end0 | ((try simp only [Exit.inBlock, Exit.then]); refine bodyPost_ret (results_none rfl _ _ _) rfl ?_)
    exact ⟨rfl, HM.out⟩
  · go_enter Tryz.func69, Tryz.ntmps69
    go_wp2_with fail
    refine (CI.out _ HY.out).mono ?_
    rintro e w1 ⟨rfl, rfl⟩
    clear CI CO HY
    go_wp2_with fail
    first | go_end0 | ((try simp only [Exit.inBlock, Exit.then]); refine bodyPost_ret (results_none rfl _ _ _) rfl ?_)
    exact ⟨rfl, HM.out⟩
  · have M2 := Lib.hid ((HM.out.set2 1).set4 n)
    go_enter Tryz.func69, Tryz.ntmps69
    go_wp2_with fail
    refine (CI.out _ HY.out).mono ?_
    rintro e w1 ⟨rfl, rfl⟩
    clear CI CO HY
    go_wp2_with fail
    first | go_end0 | ((try simp only [Exit.inBlock, Exit.then]); refine bodyPost_ret (results_none rfl _ _ _) rfl ?_)
    exact ⟨rfl, M2.out⟩
  · have z1 : IntKind.i64.wrap ((fl : Int) + 1) = (fl : Int) + 1 := by rw [IntKind.wrap_i64]; omega
    have M3 : Hid (Mfz 118 w (w.setCell ⟨a, 3, none⟩ (.int .i64 ((fl : Int) + 1))) a b p ⟨0, fl + 1, bl⟩) := Lib.hid (HM.out.set3 (fl + 1))
    have q4 : (((fl + 1 : Nat) : Int)) < b := by omega
    go_enter Tryz.func69, Tryz.ntmps69
    go_wp2_with fail
    refine (CI.out _ HY.out).mono ?_
    rintro e w1 ⟨rfl, rfl⟩
    clear CI CO HY
    go_wp2_with fail
    clear c0 c1 c2 c3 c4 f2 f3 f4
    generalize w.setCell ⟨a, 3, none⟩ (.int .i64 ((fl : Int) + 1)) = w5 at *
    have c0 := M3.out.f.c0
    have c1 := M3.out.f.c1
    have c2 := M3.out.f.c2
    have c3 := M3.out.f.c3
    have c4 := M3.out.f.c4
    have f2 := M3.out.f.fr 2
    have f3 := M3.out.f.fr 3
    have f4 := M3.out.f.fr 4
    dsimp only at c2 c3 c4
    go_quiet (fail)
    go_wp2_with fail
    first | go_end0 | ((try simp only [Exit.inBlock, Exit.then]); refine bodyPost_ret (results_none rfl _ _ _) rfl ?_)
    exact ⟨rfl, M3.out.drewN _⟩
  · have z1 : IntKind.i64.wrap ((fl : Int) + 1) = (fl : Int) + 1 := by rw [IntKind.wrap_i64]; omega
    have M3 : Hid (Mfz 118 w (w.setCell ⟨a, 3, none⟩ (.int .i64 ((fl : Int) + 1))) a b p ⟨0, fl + 1, bl⟩) := Lib.hid (HM.out.set3 (fl + 1))
    have q4 : ¬ (((fl + 1 : Nat) : Int)) < b := by omega
    go_enter Tryz.func69, Tryz.ntmps69
    go_wp2_with fail
    refine (CI.out _ HY.out).mono ?_
    rintro e w1 ⟨rfl, rfl⟩
    clear CI CO HY
    go_wp2_with fail
    clear c0 c1 c2 c3 c4 f2 f3 f4
    generalize w.setCell ⟨a, 3, none⟩ (.int .i64 ((fl : Int) + 1)) = w5 at *
    have c0 := M3.out.f.c0
    have c1 := M3.out.f.c1
    have c2 := M3.out.f.c2
    have c3 := M3.out.f.c3
    have c4 := M3.out.f.c4
    have f2 := M3.out.f.fr 2
    have f3 := M3.out.f.fr 3
    have f4 := M3.out.f.fr 4
    dsimp only at c2 c3 c4
    go_quiet (fail)
    go_wp2_with fail
    first | go_end0 | ((try simp only [Exit.inBlock, Exit.then]); refine bodyPost_ret (results_none rfl _ _ _) rfl ?_)
    exact ⟨rfl, ((M3.out.drewN _).set2 1).set4 n⟩
set_option maxRecDepth 100000 in
set_option maxHeartbeats 400000 in
theorem ref_bad (h : Fb 40 w a b p s) (g : GoodF b p) (k : FzOk b s) (n : Int) (n0 : -9223372036854775808 ≤ n) (n1 : n ≤ 9223372036854775807) :
    Calls Tryz.prog 42 #[.pointer (some ⟨a, 0, none⟩), .int .i64 n] w fun e w' => e = .returned (.tuple #[]) ∧ Mfz 40 w w' a b p (badF b s n) := by
  obtain ⟨b1, b2, p1, p2⟩ := g
  obtain ⟨l0, l1⟩ := k.bl
  have l2 := k.fl
  rcases bad_ways k n with ⟨y, e⟩ | ⟨y, z, e⟩ | ⟨y, z, e⟩ | ⟨y, z, q, e⟩ | ⟨y, z, q, e⟩
  all_goals
    obtain ⟨st, fl, bl⟩ := s
    dsimp only at *
    try subst z
    rw [e]
    have HM := Lib.hid (Mfz.refl h)
    have HY := Lib.hid y
    have c0 := h.c0
    have c1 := h.c1
    have c2 := h.c2
    have c3 := h.c3
    have c4 := h.c4
    have f2 := h.fr 2
    have f3 := h.fr 3
    have f4 := h.fr 4
    clear h k e y
  · rcases wif_out HY.out with x | ⟨x1, x2⟩
    all_goals
      go_enter Tryz.func42, Tryz.ntmps42
      go_wp2_with fail
      first | go_end0 | ((try simp only [Exit.inBlock, Exit.then]); refine bodyPost_ret (results_none rfl _ _ _) rfl ?_)
      exact ⟨rfl, HM.out⟩
  · obtain ⟨y0, y1⟩ := HY.out
    go_enter Tryz.func42, Tryz.ntmps42
    go_wp2_with fail
    first | go_end0 | ((try simp only [Exit.inBlock, Exit.then]); refine bodyPost_ret (results_none rfl _ _ _) rfl ?_)
    exact ⟨rfl, HM.out⟩
  · have M2 := Lib.hid ((HM.out.set2 1).set4 n)
    obtain ⟨y0, y1⟩ := HY.out
    go_enter Tryz.func42, Tryz.ntmps42
    go_wp2_with fail
    first | go_end0 | ((try simp only [Exit.inBlock, Exit.then]); refine bodyPost_ret (results_none rfl _ _ _) rfl ?_)
    exact ⟨rfl, M2.out⟩
  · have z1 : IntKind.i64.wrap ((fl : Int) + 1) = (fl : Int) + 1 := by rw [IntKind.wrap_i64]; omega
    have M3 : Hid (Mfz 40 w (w.setCell ⟨a, 3, none⟩ (.int .i64 ((fl : Int) + 1))) a b p ⟨0, fl + 1, bl⟩) := Lib.hid (HM.out.set3 (fl + 1))
    have q4 : (((fl + 1 : Nat) : Int)) < b := by omega
    obtain ⟨y0, y1⟩ := HY.out
    go_enter Tryz.func42, Tryz.ntmps42
    go_wp2_with fail
    clear c0 c1 c2 c3 c4 f2 f3 f4
    generalize w.setCell ⟨a, 3, none⟩ (.int .i64 ((fl : Int) + 1)) = w5 at *
    have c0 := M3.out.f.c0
    have c1 := M3.out.f.c1
    have c2 := M3.out.f.c2
    have c3 := M3.out.f.c3
    have c4 := M3.out.f.c4
    have f2 := M3.out.f.fr 2
    have f3 := M3.out.f.fr 3
    have f4 := M3.out.f.fr 4
    dsimp only at c2 c3 c4
    go_quiet (fail)
    go_wp2_with fail
    first | go_end0 | ((try simp only [Exit.inBlock, Exit.then]); refine bodyPost_ret (results_none rfl _ _ _) rfl ?_)
    exact ⟨rfl, M3.out.drewN _⟩
  · have z1 : IntKind.i64.wrap ((fl : Int) + 1) = (fl : Int) + 1 := by rw [IntKind.wrap_i64]; omega
    have M3 : Hid (Mfz 40 w (w.setCell ⟨a, 3, none⟩ (.int .i64 ((fl : Int) + 1))) a b p ⟨0, fl + 1, bl⟩) := Lib.hid (HM.out.set3 (fl + 1))
    have q4 : ¬ (((fl + 1 : Nat) : Int)) < b := by omega
    obtain ⟨y0, y1⟩ := HY.out
    go_enter Tryz.func42, Tryz.ntmps42
    go_wp2_with fail
    clear c0 c1 c2 c3 c4 f2 f3 f4
    generalize w.setCell ⟨a, 3, none⟩ (.int .i64 ((fl : Int) + 1)) = w5 at *
    have c0 := M3.out.f.c0
    have c1 := M3.out.f.c1
    have c2 := M3.out.f.c2
    have c3 := M3.out.f.c3
    have c4 := M3.out.f.c4
    have f2 := M3.out.f.fr 2
    have f3 := M3.out.f.fr 3
    have f4 := M3.out.f.fr 4
    dsimp only at c2 c3 c4
    go_quiet (fail)
    go_wp2_with fail
    first | go_end0 | ((try simp only [Exit.inBlock, Exit.then]); refine bodyPost_ret (results_none rfl _ _ _) rfl ?_)
    exact ⟨rfl, ((M3.out.drewN _).set2 1).set4 n⟩
theorem refF_yes (h : Fb 40 w a b p s) (g : GoodF b p) :
    Calls Tryz.prog 10 #[.pointer (some ⟨a, 0, none⟩)] w fun e w' => e = .returned (.bool true) ∧ ∃ q, w' = w.drewN q := by
  have c0 := h.c0
  have c1 := h.c1
  obtain ⟨b1, b2, p1, p2⟩ := g
  clear h
  go_enter Tryz.func10, Tryz.ntmps10
  go_wp2_with fail
  go_ret
  exact ⟨rfl, 0, rfl⟩
theorem refF_no (h : Fb 40 w a b p s) (g : ¬ GoodF b p) :
    Calls Tryz.prog 10 #[.pointer (some ⟨a, 0, none⟩)] w fun e w' => e = .returned (.bool false) ∧ ∃ q, w' = w.drewN q := by
  have c0 := h.c0
  have c1 := h.c1
  rcases not_goodF g with x | ⟨x1, x2⟩ | ⟨x1, x2, x3⟩ | ⟨x1, x2, x3, x4⟩
  · have y : ¬ 1 ≤ b := by omega
    clear h g x
    go_enter Tryz.func10, Tryz.ntmps10
    go_wp2_with fail
    go_ret
    exact ⟨rfl, 0, rfl⟩
  · have y : ¬ b ≤ 1000 := by omega
    have y1 : 1 ≤ b := by omega
    clear h g x1 x2
    go_enter Tryz.func10, Tryz.ntmps10
    go_wp2_with fail
    go_ret
    exact ⟨rfl, 0, rfl⟩
  · have y : ¬ 1 ≤ p := by omega
    have y1 : 1 ≤ b := by omega
    have y2 : b ≤ 1000 := by omega
    clear h g x1 x2 x3
    go_enter Tryz.func10, Tryz.ntmps10
    go_wp2_with fail
    go_ret
    exact ⟨rfl, 0, rfl⟩
  · have y : ¬ p ≤ 1000000 := by omega
    have y1 : 1 ≤ b := by omega
    have y2 : b ≤ 1000 := by omega
    have y3 : 1 ≤ p := by omega
    clear h g x1 x2 x3 x4
    go_enter Tryz.func10, Tryz.ntmps10
    go_wp2_with fail
    go_ret
    exact ⟨rfl, 0, rfl⟩
end
end Go.Proofs.YtgeahpfdaehjaaaGreatDoor
