/-
  Layer 20 (window): closing, and what is asked of both tables, side by side.
-/
import Derived.Test.YtedhciolnekpaaaGreatDoorQWindowBoth
namespace Go.Proofs.YtedhciolnekpaaaGreatDoor
open Go.ChangeShapes Go.WideShapes Go.ChangeAt Go.RowKit Go.Deep
set_option linter.unusedVariables false

theorem due_first {wd mark s : Int} {K : List Int} (hu : UpW (s :: K)) : dueW wd mark (s :: K) = 0 ↔ ¬ s + wd ≤ mark := by
  obtain ⟨u1, _⟩ := List.pairwise_cons.1 hu
  unfold dueW
  constructor
  · intro h hc
    rw [List.filter_cons_of_pos (by simpa using hc)] at h
    simp at h
  · intro hc
    rw [List.length_eq_zero_iff, List.filter_eq_nil_iff]
    intro x hx
    rcases List.mem_cons.1 hx with rfl | hx
    · simpa using hc
    · have := u1 x hx
      simp
      omega
theorem due_none {wd mark : Int} {l : List PtW} (h : ∀ s K, startsW l = s :: K → ¬ s + wd ≤ mark) : dueW wd mark (startsW l) = 0 := by
  cases e : startsW l with
  | nil => rfl
  | cons s K => exact (due_first (e ▸ starts_up l)).2 (h s K e)
section
variable {W w : World} {N b base x a bm : Nat} {d : DeedW} {t tp tr : Tb} {pp pr l : List PtW}
/-- What closing makes of the program's table. -/
def ClP (W : World) (N b base x : Nat) (d : DeedW) (w : World) (a bm : Nat) (t tr : Tb) (l pr : List PtW) (mark : Int) (e : Ending) (w' : World) : Prop :=
  (dueW t.wd mark (startsW l) = 0 ∧ e = .returned (.tuple #[btVal 0 0 none 0 0, .bool false]) ∧ Bd W N b base x d w' a bm t tr l pr) ∨
  (∃ (s : Int) (K : List Int) (ys : List RbW) (D : Option Addr) (dd : Nat), dueW t.wd mark (startsW l) ≠ 0 ∧ startsW l = s :: K ∧ e = .returned (.tuple #[btVal t.sq s D (rowsW s l).length dd, .bool true]) ∧ ys.map (·.1) = rowsW s l ∧ RdW w' w.heap.size D ys ∧ Bd W N b base x d w' a bm { t with sq := t.sq + 1 } tr (leftW s l) pr)
theorem close_P (h : Bd W N b base x d w a bm t tr l pr) (i : InvT t l) (mark : Int) :
    Calls Tryz.prog 11 #[.pointer (some ⟨a, 0, none⟩), .int .i64 mark] w (ClP W N b base x d w a bm t tr l pr mark) := by
  obtain ⟨blk, h1⟩ := h.bo.tq
  refine (close_walk20 (mark := mark) h1 (by have := i.len; omega) i.lok.bd i.u.w1 i.u.w2 i.q0 (by have := i.q1; omega)).mono ?_
  rintro e w' (⟨hn, he, hb⟩ | ⟨s, K, ys, D, dd, blk', hs, hd, he, hy, hr, hT, hk⟩)
  · exact .inl ⟨due_none hn, he, h.still hb⟩
  · have hl : ys.length = (rowsW s l).length := by rw [← hy, List.length_map]
    refine .inr ⟨s, K, ys, D, dd, fun e0 => ?_, hs, by rw [← hl]; exact he, hy, hr, h.turnP ⟨blk', hT, hk⟩⟩
    rw [hs] at e0
    exact (due_first (hs ▸ starts_up l)).1 e0 hd
/-- What it makes of the document's. -/
def ClR (W : World) (N b base x : Nat) (d : DeedW) (w : World) (a bm : Nat) (tp t : Tb) (pp l : List PtW) (mark : Int) (e : Ending) (w' : World) : Prop :=
  ((dueW t.wd mark (startsW l) = 0 ∧ e = .returned (.tuple #[btVal 0 0 none 0 0, .bool false]) ∧ Bd W N b base x d w' a bm tp t pp l) ∨
  (∃ (s : Int) (K : List Int) (D : Option Addr) (dd : Nat), dueW t.wd mark (startsW l) ≠ 0 ∧ startsW l = s :: K ∧ e = .returned (.tuple #[btVal t.sq s D (rowsW s l).length dd, .bool true]) ∧ RdR w' D (rowsW s l) ∧ Bd W N b base x d w' a bm tp { t with sq := t.sq + 1 } pp (leftW s l))) ∧ Keeps (fun g => g = b) w w'
theorem close_R (h : Bd W N b base x d w a bm tp t pp l) (i : InvT t l) (mark : Int) :
    Calls Tryz.prog 12 #[.pointer (some ⟨b, 0, none⟩), .int .i64 mark] w (ClR W N b base x d w a bm tp t pp l mark) := by
  obtain ⟨A, c, h1⟩ := h.bo.tr
  have hb : ∀ p ∈ l, 0 ≤ p.start ∧ p.start ≤ 1099511627776 := fun p hp => ⟨(i.lok.st p hp).1, (i.lok.st p hp).2.1⟩
  by_cases hd : dueW t.wd mark (startsW l) = 0
  · refine (ref_close_none base w b t A c l h1 (by have := i.len; omega) hb i.u.w1 i.u.w2 mark hd).mono ?_
    rintro e w' (⟨h0, he, hk⟩ | ⟨h0, _⟩)
    · exact ⟨.inl ⟨h0, he, h.still hk⟩, Keeps.of_below hk (Nat.le_refl _) _⟩
    · exact absurd hd h0
  · refine (ref_close base w b t A c l h1 h.bo.b2 (by have := i.len; omega) i.lok.pt hb i.u.w1 i.u.w2 i.q0 (by have := i.q1; omega) mark hd).mono ?_
    rintro e w' (⟨h0, _⟩ | ⟨h0, s, K, y, D, dd, A', c', hs, hy, he, ho, hT, hk⟩)
    · exact absurd h0 hd
    · have hl : y.length = (rowsW s l).length := by rw [← hy, List.length_map]
      exact ⟨.inr ⟨s, K, D, dd, h0, hs, by rw [← hl]; exact he, OwnR.rd ⟨y, hy, ho⟩, h.turnR ⟨A', c', hT⟩ hk⟩, hk⟩
/-- What is asked of both. -/
theorem open_P (h : Bo W N b base w a bm t tr l pr) : Calls Tryz.prog 17 #[.pointer (some ⟨a, 0, none⟩)] w fun e w' => e = .returned (.int .i64 ((startsW l).length : Nat)) ∧ Bo W N b base w' a bm t tr l pr := by
  obtain ⟨blk, h1⟩ := h.tq
  refine (open_walk20 h1).mono ?_
  rintro e w' ⟨he, rfl⟩
  exact ⟨he, h⟩
theorem starts_R (h : Bo W N b base w a bm tp t pp l) (i : InvT t l) : Calls Tryz.prog 18 #[.pointer (some ⟨b, 0, none⟩)] w fun e w' => ∃ D dd, e = .returned (.slice D (startsW l).length dd) ∧ Bo W N b base w' a bm tp t pp l := by
  obtain ⟨A, c, h1⟩ := h.tr
  refine (ref_starts base w b t A c l h1 (by have := i.len; omega)).mono ?_
  rintro e w' ⟨D, dd, he, _, hk⟩
  exact ⟨D, dd, he, h.still hk⟩
theorem rows_P (h : Bo W N b base w a bm t tr l pr) (i : InvT t l) : Calls Tryz.prog 19 #[.pointer (some ⟨a, 0, none⟩)] w fun e w' => e = .returned (.int .i64 (allW l : Nat)) ∧ Bo W N b base w' a bm t tr l pr := by
  obtain ⟨blk, h1⟩ := h.tq
  refine (rows_walk20 h1 (by have := i.len; omega)).mono ?_
  rintro e w' ⟨he, hk⟩
  exact ⟨he, h.still hk⟩
theorem many_R (h : Bo W N b base w a bm tp t pp l) (i : InvT t l) : Calls Tryz.prog 20 #[.pointer (some ⟨b, 0, none⟩)] w fun e w' => e = .returned (.int .i64 (allW l : Nat)) ∧ Bo W N b base w' a bm tp t pp l := by
  obtain ⟨A, c, h1⟩ := h.tr
  refine (ref_many base w b t A c l h1 (by have := i.len; omega) i.lok.pt).mono ?_
  rintro e w' ⟨he, hk⟩
  exact ⟨he, h.still hk⟩
theorem seq_P (h : Bo W N b base w a bm t tr l pr) : Calls Tryz.prog 21 #[.pointer (some ⟨a, 0, none⟩)] w fun e w' => e = .returned (.int .i64 t.sq) ∧ Bo W N b base w' a bm t tr l pr := by
  obtain ⟨blk, h1⟩ := h.tq
  refine (seq_walk20 h1).mono ?_
  rintro e w' ⟨he, rfl⟩
  exact ⟨he, h⟩
theorem Bo.cell3 (h : Bo W N b base w a bm tp t pp l) : w.cell? ⟨b, 3, none⟩ = some (.int .i64 t.sq) := by
  obtain ⟨A, c, h1⟩ := h.tr
  exact h1.c3
theorem InvT.add {c : Nat} {l' : List PtW} {key : ByteArray} {kd time val mark : Int} (i : InvT t l) (h : RelAdd t l (keyOk key) (key, kd) kd time val mark c l') (hv : In64 val) (hl : l.length ≤ 98) : InvT t l' :=
  ⟨h.lok i.lok i.u.w1 hv, h.cap i.cap, i.u, by have := h.len; omega, i.q0, i.q1⟩
theorem InvT.close {s : Int} {K : List Int} (i : InvT t l) (hs : startsW l = s :: K) (hq : t.sq + 1 ≤ 2000000) : InvT { t with sq := t.sq + 1 } (leftW s l) := by
  have hle := left_le s l
  exact ⟨i.lok.left s, (i.cap.left hs).seq _, i.u.seq _, by have := i.len; omega, by have := i.q0; show 0 ≤ t.sq + 1; omega, hq⟩
end
end Go.Proofs.YtedhciolnekpaaaGreatDoor
