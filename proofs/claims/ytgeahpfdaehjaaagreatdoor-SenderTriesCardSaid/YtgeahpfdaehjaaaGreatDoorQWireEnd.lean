/-
  Layer 6 (wire): a Reader's End; Read.
-/
import Derived.Test.YtgeahpfdaehjaaaGreatDoorGrpC
namespace Go.Proofs.YtgeahpfdaehjaaaGreatDoor
open Go.ChangeShapes Go.WideShapes Go.ChangeAt Go.RowKit
set_option linter.unusedVariables false

theorem below_drewN6 (w : World) (n : Nat) : Below w.heap.size w (w.drewN n) := below_of_grown (grown_drew (grown_refl _ _) n)
/-- What End tells. -/
def Ends (o : Option Nat) (w : World) (e : Ending) (w' : World) : Prop :=
  match o with
  | none => e = .returned .nilIface ∧ Below w.heap.size w w'
  | some p => ∃ N, e = .returned (.iface 189 (.pointer (some ⟨N, 0, none⟩))) ∧ w'.heap[N]? = some (.cells #[.int .i64 (p : Nat), .int .i64 2] 191 (0, 0)) ∧ Below w.heap.size w w'
set_option maxRecDepth 100000 in
theorem wireEnd (w : World) (b : Nat) (A : Option Addr) (cap : Nat) (l : List UInt8) (r : Rs) (h : Rdr w b A cap l r) (hl : l.length ≤ 1000000) :
    Calls Tryz.prog 103 #[.pointer (some ⟨b, 0, none⟩)] w (Ends (rsEnd l r) w) := by
  have c0 := h.c0
  have c1 := h.c1
  have c2 := h.c2
  have hk := h.le
  obtain ⟨k, bad⟩ := r
  have hk : k ≤ l.length := hk
  clear h
  cases bad with
  | true =>
    have hE : rsEnd l ⟨k, true⟩ = some k := by unfold rsEnd; rw [if_neg (by simp)]
    rw [hE]
    clear hE
    go_enter Tryz.func103, Tryz.ntmps103
    go_wp2
    go_quiet (fail)
    all_goals go_wp2
    all_goals
      go_ret
      exact ⟨_, rfl, heap_alloc_new _ _, (below_drewN6 w _).alloc (Nat.le_refl _) _⟩
  | false =>
    by_cases hkl : k = l.length
    · have hE : rsEnd l ⟨k, false⟩ = none := by unfold rsEnd; rw [if_pos ⟨rfl, hkl⟩]
      rw [hE]
      have hq : ((k : Int) == (l.length : Int)) = true := beq_iff_eq.2 (by omega)
      clear hE hkl
      go_enter Tryz.func103, Tryz.ntmps103
      go_wp2
      go_quiet (fail)
      all_goals go_wp2
      all_goals
        go_ret
        exact ⟨rfl, below_drewN6 w _⟩
    · have hE : rsEnd l ⟨k, false⟩ = some k := by unfold rsEnd; rw [if_neg (fun e => hkl e.2)]
      rw [hE]
      have hq : ((k : Int) == (l.length : Int)) = false := beq_eq_false_iff_ne.2 (by omega)
      clear hE hkl
      go_enter Tryz.func103, Tryz.ntmps103
      go_wp2
      go_quiet (fail)
      all_goals go_wp2
      all_goals
        go_ret
        exact ⟨_, rfl, heap_alloc_new _ _, (below_drewN6 w _).alloc (Nat.le_refl _) _⟩
theorem wireRead (w : World) (A : Option Addr) (cap : Nat) (l : List UInt8) (h : RdS w A cap l) :
    Calls Tryz.prog 101 #[.slice A l.length cap] w fun e w' => e = .returned (.pointer (some ⟨w.heap.size, 0, none⟩)) ∧ Below w.heap.size w w' ∧ Rdr w' w.heap.size A cap l ⟨0, false⟩ := by
  have HR := Lib.hid h
  have HB : Hid (Rdr (w.alloc (.cells #[.slice A l.length cap, .int .i64 0, .bool false] 185)) w.heap.size A cap l ⟨0, false⟩) :=
    Lib.hid ⟨heap_alloc_new w _, h.alloc _, fun ad ha hne e => by
      cases l with
      | nil => exact hne rfl
      | cons c l =>
        have h1 := World.block_lt_of_cell? w _ (h.rd ad ha 0 c rfl)
        rw [show (ad.add 0).block = ad.block by simp [Addr.add]] at h1
        omega, Nat.zero_le _⟩
  clear h
  go_enter Tryz.func101, Tryz.ntmps101
  go_wp2
  go_ret
  exact ⟨rfl, (Below.refl _ _).alloc (Nat.le_refl _) _, HB.out⟩
end Go.Proofs.YtgeahpfdaehjaaaGreatDoor
