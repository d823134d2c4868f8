/-
  Layer 6 (wire): a Reader's methods: ahead, Number, Whole, Text, End.
-/
import Derived.Test.YtgohgmihoggcpaaWireFirst
namespace Go.Proofs.Ytgohgmihoggcpaa
open Go.ChangeShapes Go.WideShapes Go.ChangeAt Go.RowKit
set_option linter.unusedVariables false

/-- The reader in block b reads the bytes l, and stands as r says. -/
structure Rdr (w : World) (b : Nat) (A : Option Addr) (cap : Nat) (l : List UInt8) (r : Rs) : Prop where
  blk : w.heap[b]? = some (.cells #[.slice A l.length cap, .int .i64 (r.at_ : Nat), .bool r.bad] 82 (0, 0))
  rd : RdS w A cap l
  ne : ∀ ad, A = some ad → l ≠ [] → ad.block ≠ b
  le : r.at_ ≤ l.length
theorem RdS.grown {w w' : World} {b : Nat} {A : Option Addr} {cap : Nat} {l : List UInt8} (h : RdS w A cap l) (g : w.grownBy w' (some b)) (ne : ∀ ad, A = some ad → l ≠ [] → ad.block ≠ b) : RdS w' A cap l :=
  ⟨h.le, h.nn, fun ad ha i c hc => by
    have h1 := h.rd ad ha i c hc
    have h2 := World.block_lt_of_cell? w _ h1
    have h3 : (ad.add i).block = ad.block := by unfold Addr.add; split <;> rfl
    have h4 := ne ad ha (fun e => by rw [e] at hc; cases hc)
    rw [World.cell?_of_block (g.block _ h2 (fun e => h4 (by rw [← h3]; exact Option.some.inj e)))]
    exact h1⟩
section
variable {w w' : World} {b : Nat} {A : Option Addr} {cap : Nat} {l : List UInt8} {r : Rs}
theorem Rdr.c0 (h : Rdr w b A cap l r) : w.cell? ⟨b, 0, none⟩ = some (.slice A l.length cap) := cell_of_block h.blk
theorem Rdr.c1 (h : Rdr w b A cap l r) : w.cell? ⟨b, 1, none⟩ = some (.int .i64 (r.at_ : Nat)) := cell_of_block h.blk
theorem Rdr.c2 (h : Rdr w b A cap l r) : w.cell? ⟨b, 2, none⟩ = some (.bool r.bad) := cell_of_block h.blk
theorem Rdr.f1 (h : Rdr w b A cap l r) : w.frozen? ⟨b, 1, none⟩ = false := frozen_of_block h.blk
theorem Rdr.f2 (h : Rdr w b A cap l r) : w.frozen? ⟨b, 2, none⟩ = false := frozen_of_block h.blk
theorem Rdr.lt (h : Rdr w b A cap l r) : b < w.heap.size := lt_of_block h.blk
theorem Rdr.drew (h : Rdr w b A cap l r) (n : Nat) : Rdr (w.drewN n) b A cap l r := ⟨h.blk, h.rd.drew n, h.ne, h.le⟩
theorem Rdr.move (h : Rdr w b A cap l r) (k : Nat) (hk : k ≤ l.length) : Rdr (w.setCell ⟨b, 1, none⟩ (.int .i64 (k : Nat))) b A cap l ⟨k, r.bad⟩ :=
  ⟨heap_set_same h.blk, h.rd.grown (grown_set (grown_refl _ _) _ _ (Or.inl rfl)) h.ne, h.ne, hk⟩
theorem Rdr.mark (h : Rdr w b A cap l r) (x : Bool) : Rdr (w.setCell ⟨b, 2, none⟩ (.bool x)) b A cap l ⟨r.at_, x⟩ :=
  ⟨heap_set_same h.blk, h.rd.grown (grown_set (grown_refl _ _) _ _ (Or.inl rfl)) h.ne, h.ne, h.le⟩
end

/-- What becomes of the world while a method of the reader in block b runs. -/
structure Mr (w : World) (b : Nat) (A : Option Addr) (cap : Nat) (l : List UInt8) (r : Rs) (w' : World) : Prop where
  grown : w.grownBy w' (some b)
  rdr : Rdr w' b A cap l r
theorem Mr.trans {w w1 w2 : World} {b : Nat} {A : Option Addr} {cap : Nat} {l : List UInt8} {r r' : Rs} (h : Mr w b A cap l r w1) (g : Mr w1 b A cap l r' w2) : Mr w b A cap l r' w2 := ⟨grown_trans h.grown g.grown, g.rdr⟩
theorem Mr.drew {w w1 : World} {b : Nat} {A : Option Addr} {cap : Nat} {l : List UInt8} {r : Rs} (h : Mr w b A cap l r w1) (n : Nat) : Mr w b A cap l r (w1.drewN n) := ⟨grown_drew h.grown n, h.rdr.drew n⟩
theorem Mr.start {w : World} {b : Nat} {A : Option Addr} {cap : Nat} {l : List UInt8} {r : Rs} (h : Rdr w b A cap l r) : Mr w b A cap l r w := ⟨grown_refl _ _, h⟩

/-- What ahead tells, and whether it is amiss then. -/
def aheadV (l : List UInt8) (r : Rs) : Nat × Nat := if r.bad then (0, 0) else decV (decF 0 0 (l.drop r.at_))
def aheadR (l : List UInt8) (r : Rs) : Rs := if r.bad then r else ⟨r.at_, (decF 0 0 (l.drop r.at_)).isNone⟩
def Aheads (w : World) (b : Nat) (A : Option Addr) (cap : Nat) (l : List UInt8) (r : Rs) (e : Ending) (w' : World) : Prop :=
  e = .returned (.tuple #[.int .u64 (aheadV l r).1, .int .i64 (aheadV l r).2]) ∧ Mr w b A cap l (aheadR l r) w'
theorem dec_isNone (l : List UInt8) : (((decV (decF 0 0 l)).2 : Int) == 0) = (decF 0 0 l).isNone := by
  cases h : decF 0 0 l with
  | none => rfl
  | some p =>
    obtain ⟨n, k⟩ := p
    have := (dec_bound l 0 0 n k (by omega) h).2.1
    rw [Option.isNone_some]
    exact beq_eq_false_iff_ne.2 (by simp [decV]; omega)
set_option maxRecDepth 100000 in
theorem wireAhead (w : World) (b : Nat) (A : Option Addr) (cap : Nat) (l : List UInt8) (r : Rs) (h : Rdr w b A cap l r) (hl : l.length ≤ 1000000) :
    Calls Try.prog 44 #[.pointer (some ⟨b, 0, none⟩)] w (Aheads w b A cap l r) := by
  have HR := Lib.hid h
  have c0 := h.c0
  have c1 := h.c1
  have c2 := h.c2
  have f2 := h.f2
  obtain ⟨k, bad⟩ := r
  have hk : k ≤ l.length := h.le
  cases bad with
  | true =>
    clear h
    go_enter Try.func44, Try.ntmps44
    go_wp2
    go_ret2
    exact ⟨rfl, Mr.start HR.out⟩
  | false =>
    obtain ⟨A', hs, hrd⟩ := slice_from A cap l k hk h.rd.le h.rd.nn
    have C : ∀ n : Nat, Calls Try.prog 56 #[.slice A' (l.length - k) (cap - k)] (w.drewN n) (Firsts (l.drop k) (w.drewN n)) := fun n => by
      have := wireFirst A' (cap - k) (l.drop k) (w.drewN n) (hrd _ (h.rd.drew n)) (by rw [List.length_drop]; omega)
      rw [List.length_drop] at this
      exact this
    have HC := Lib.hid C
    have HN := Lib.hid (dec_isNone (l.drop k))
    clear h C hrd
    go_enter Try.func44, Try.ntmps44
    go_wp2
    go_quiet ((go_at_call 56; exact Calls.quiet_of_same ((HC.out _).mono fun _ _ ⟨he, hw⟩ => ⟨he, hw.symm⟩)))
    all_goals go_wp2
    go_ret2
    refine ⟨rfl, grown_drew (grown_set (grown_refl _ _) _ _ (Or.inl rfl)) _, ?_⟩
    show Rdr _ b A cap l ⟨k, (decF 0 0 (l.drop k)).isNone⟩
    rw [← HN.out]
    exact (HR.out.mark _).drew _

theorem rsNum_ahead (l : List UInt8) (r : Rs) : rsNum l r = ((aheadV l r).1, ⟨r.at_ + (aheadV l r).2, (aheadR l r).bad⟩) := by
  unfold rsNum aheadV aheadR
  obtain ⟨k, bad⟩ := r
  cases bad with
  | true => rfl
  | false =>
    simp only
    cases h : decF 0 0 (l.drop k) with
    | none => rfl
    | some p => rfl
theorem ahead_at (l : List UInt8) (r : Rs) : (aheadR l r).at_ = r.at_ := by
  unfold aheadR; split <;> rfl
def Nums (w : World) (b : Nat) (A : Option Addr) (cap : Nat) (l : List UInt8) (r : Rs) (e : Ending) (w' : World) : Prop :=
  e = .returned (.int .u64 ((rsNum l r).1 : Nat)) ∧ Mr w b A cap l (rsNum l r).2 w'
def Wholes (w : World) (b : Nat) (A : Option Addr) (cap : Nat) (l : List UInt8) (r : Rs) (e : Ending) (w' : World) : Prop :=
  e = .returned (.int .i64 (unfoldN (rsNum l r).1)) ∧ Mr w b A cap l (rsNum l r).2 w'
end Go.Proofs.Ytgohgmihoggcpaa
