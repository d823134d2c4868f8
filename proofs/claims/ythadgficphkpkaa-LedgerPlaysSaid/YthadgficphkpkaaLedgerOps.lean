/-
  Layer 17 (ledger): Come, End, Received, Ended.
-/
import Derived.Test.YthadgficphkpkaaLedgerMem
import Derived.BigQuiet
namespace Go.Proofs.Ythadgficphkpkaa
open Go.ChangeShapes Go.WideShapes Go.ChangeAt Go.RowKit
set_option linter.unusedVariables false

section
variable {w w' : World} {a g n : Nat} {s : Bk}
theorem has_in (h : Lg w a g n s) {c : Int} (hc : HasC n c) :
    Calls Try.prog 12 #[.pointer (some ⟨a, 0, none⟩), .int .i64 c] w fun e w' => e = .returned (.bool true) ∧ w = w' := by
  have c0 := h.c0
  obtain ⟨x1, x2⟩ := hc
  clear h
  go_enter Try.func12, Try.ntmps12
  go_wp2_with fail
  go_ret
  exact ⟨rfl, rfl⟩
theorem has_out (h : Lg w a g n s) {c : Int} (hc : ¬ HasC n c) :
    Calls Try.prog 12 #[.pointer (some ⟨a, 0, none⟩), .int .i64 c] w fun e w' => e = .returned (.bool false) ∧ w = w' := by
  have c0 := h.c0
  rcases not_c hc with x | ⟨x1, x2, x3⟩
  · have x1 : ¬ 0 ≤ c := by omega
    clear h hc x
    go_enter Try.func12, Try.ntmps12
    go_wp2_with fail
    go_ret
    exact ⟨rfl, rfl⟩
  · clear h hc x1
    go_enter Try.func12, Try.ntmps12
    go_wp2_with fail
    go_ret
    exact ⟨rfl, rfl⟩
theorem reason_in (w : World) {r : Int} (hr : HasR r) :
    Calls Try.prog 13 #[.int .i64 r] w fun e w' => e = .returned (.bool true) ∧ w = w' := by
  obtain ⟨x1, x2⟩ := hr
  go_enter Try.func13, Try.ntmps13
  go_wp2_with fail
  go_ret
  exact ⟨rfl, rfl⟩
theorem reason_out (w : World) {r : Int} (hr : ¬ HasR r) :
    Calls Try.prog 13 #[.int .i64 r] w fun e w' => e = .returned (.bool false) ∧ w = w' := by
  rcases not_r hr with x | ⟨x1, x2⟩
  · have x1 : ¬ 1 ≤ r := by omega
    clear hr x
    go_enter Try.func13, Try.ntmps13
    go_wp2_with fail
    go_ret
    exact ⟨rfl, rfl⟩
  · have x3 : ¬ r ≤ 7 := by omega
    clear hr x2
    go_enter Try.func13, Try.ntmps13
    go_wp2_with fail
    go_ret
    exact ⟨rfl, rfl⟩
set_option maxRecDepth 100000 in
set_option maxHeartbeats 1000000 in
theorem count_walk {p : Addr} {x : Int} (hc : w.cell? p = some (.int .u64 x)) (hf : w.frozen? p = false) (x0 : 0 ≤ x) (x1 : x < 18446744073709551615) :
    Calls Try.prog 14 #[.pointer (some p)] w fun e w' => e = .returned (.tuple #[]) ∧ w' = w.setCell p (.int .u64 (x + 1)) := by
  have CC := Lib.hid (fun w => satCount x 1 w x0 (by omega) (by decide) (by decide))
  unfold Cnts at CC
  rw [(cnt_in (a := x) (b := 1) (by omega)).1, (cnt_in (a := x) (b := 1) (by omega)).2] at CC
  obtain ⟨q, hq⟩ : ∃ q, x + 1 = q := ⟨_, rfl⟩
  rw [hq] at CC ⊢
  clear hq x0 x1
  go_enter Try.func14, Try.ntmps14
  go_wp2_with fail
  refine (CC.out _).mono ?_
  rintro e w2 ⟨rfl, rfl⟩
  go_wp2_with fail
  go_end0
  exact ⟨rfl, rfl⟩
/-- A note that isn't taken: ErrArg, and nothing turned. -/
def NoteBad (w : World) (e : Ending) (w' : World) : Prop := e = .returned (errD 1) ∧ w = w'
/-- A note that is taken. -/
def NoteGood (w : World) (a g n : Nat) (s' : Bk) (e : Ending) (w' : World) : Prop := e = .returned .nilIface ∧ Ml w w' a g n s'
theorem come_bad (h : Lg w a g n s) {c : Int} (hc : ¬ HasC n c) :
    Calls Try.prog 8 #[.pointer (some ⟨a, 0, none⟩), .int .i64 c] w (NoteBad w) := by
  have CH := Lib.hid (has_out h hc)
  unfold NoteBad errD
  clear h hc
  go_enter Try.func8, Try.ntmps8
  go_wp2_with fail
  refine CH.out.mono ?_
  rintro e w2 ⟨rfl, rfl⟩
  go_wp2_with fail
  go_ret
  exact ⟨rfl, rfl⟩
theorem end_bad (h : Lg w a g n s) {c r : Int} (hc : ¬ (HasC n c ∧ HasR r)) :
    Calls Try.prog 7 #[.pointer (some ⟨a, 0, none⟩), .int .i64 c, .int .i64 r] w (NoteBad w) := by
  unfold NoteBad errD
  by_cases h1 : HasC n c
  · have CH := Lib.hid (has_in h h1)
    have CR := Lib.hid (fun w => reason_out w (r := r) (fun h2 => hc ⟨h1, h2⟩))
    clear h hc h1
    go_enter Try.func7, Try.ntmps7
    go_wp2_with fail
    refine CH.out.mono ?_
    rintro e w2 ⟨rfl, rfl⟩
    go_wp2_with fail
    refine (CR.out _).mono ?_
    rintro e w2 ⟨rfl, rfl⟩
    go_wp2_with fail
    go_ret
    exact ⟨rfl, rfl⟩
  · have CH := Lib.hid (has_out h h1)
    clear h hc h1
    go_enter Try.func7, Try.ntmps7
    go_wp2_with fail
    refine CH.out.mono ?_
    rintro e w2 ⟨rfl, rfl⟩
    go_wp2_with fail
    go_ret
    exact ⟨rfl, rfl⟩
theorem come_good (h : Lg w a g n s) {c : Int} (hc : HasC n c) (x0 : 0 ≤ s.cm c) (x1 : s.cm c < 18446744073709551615) :
    Calls Try.prog 8 #[.pointer (some ⟨a, 0, none⟩), .int .i64 c] w (NoteGood w a g n (s.come c)) := by
  have CH := Lib.hid (has_in h hc)
  obtain ⟨k, rfl⟩ : ∃ k : Nat, c = k := ⟨c.toNat, by have := hc.1; omega⟩
  have k1 : (k : Int) < n := hc.2
  have kn : k < n := by omega
  have c0 := h.c0
  have CW := Lib.hid (count_walk (h.cm kn) (h.fr _) x0 x1)
  have M := Lib.hid ((Ml.refl h).come kn)
  unfold NoteGood
  clear h hc x0 x1
  go_enter Try.func8, Try.ntmps8
  go_wp2_with fail
  refine CH.out.mono ?_
  rintro e w2 ⟨rfl, rfl⟩
  go_wp2_with fail
  refine CW.out.mono ?_
  rintro e w2 ⟨rfl, rfl⟩
  go_wp2_with fail
  go_ret
  exact ⟨rfl, M.out⟩
set_option maxHeartbeats 1000000 in
theorem end_good (h : Lg w a g n s) {c r : Int} (hc : HasC n c) (hr : HasR r) (x0 : 0 ≤ s.en c r) (x1 : s.en c r < 18446744073709551615) :
    Calls Try.prog 7 #[.pointer (some ⟨a, 0, none⟩), .int .i64 c, .int .i64 r] w (NoteGood w a g n (s.ends c r)) := by
  have CH := Lib.hid (has_in h hc)
  have CR := Lib.hid (fun w => reason_in w hr)
  obtain ⟨k, rfl⟩ : ∃ k : Nat, c = k := ⟨c.toNat, by have := hc.1; omega⟩
  obtain ⟨q, rfl⟩ : ∃ q : Nat, r = q := ⟨r.toNat, by have := hr.1; omega⟩
  have k1 : (k : Int) < n := hc.2
  have kn : k < n := by omega
  have q1 : (q : Int) < 8 := by have := hr.2; omega
  have c0 := h.c0
  have CW := Lib.hid (count_walk (h.en kn (r := q) (by omega)) (h.fr _) x0 x1)
  have M := Lib.hid ((Ml.refl h).ends kn (r := q) (by omega))
  unfold NoteGood
  clear h hc hr x0 x1
  go_enter Try.func7, Try.ntmps7
  go_wp2_with fail
  refine CH.out.mono ?_
  rintro e w2 ⟨rfl, rfl⟩
  go_wp2_with fail
  refine (CR.out _).mono ?_
  rintro e w2 ⟨rfl, rfl⟩
  go_wp2_with fail
  refine CW.out.mono ?_
  rintro e w2 ⟨rfl, rfl⟩
  go_wp2_with fail
  go_ret
  exact ⟨rfl, M.out⟩
theorem received_walk (h : Lg w a g n s) (c : Int) (ho : ¬ HasC n c → s.cm c = 0) :
    Calls Try.prog 10 #[.pointer (some ⟨a, 0, none⟩), .int .i64 c] w fun e w' => e = .returned (.int .u64 (s.cm c)) ∧ w = w' := by
  by_cases hc : HasC n c
  · have CH := Lib.hid (has_in h hc)
    obtain ⟨k, rfl⟩ : ∃ k : Nat, c = k := ⟨c.toNat, by have := hc.1; omega⟩
    have k1 : (k : Int) < n := hc.2
    have kn : k < n := by omega
    have c0 := h.c0
    have c1 := h.cm kn
    clear h hc ho
    go_enter Try.func10, Try.ntmps10
    go_wp2_with fail
    refine CH.out.mono ?_
    rintro e w2 ⟨rfl, rfl⟩
    go_wp2_with fail
    go_ret
    exact ⟨rfl, rfl⟩
  · have CH := Lib.hid (has_out h hc)
    rw [ho hc]
    clear h hc ho
    go_enter Try.func10, Try.ntmps10
    go_wp2_with fail
    refine CH.out.mono ?_
    rintro e w2 ⟨rfl, rfl⟩
    go_wp2_with fail
    go_ret
    exact ⟨rfl, rfl⟩
theorem ended_walk (h : Lg w a g n s) (c r : Int) (ho : ¬ (HasC n c ∧ HasR r) → s.en c r = 0) :
    Calls Try.prog 11 #[.pointer (some ⟨a, 0, none⟩), .int .i64 c, .int .i64 r] w fun e w' => e = .returned (.int .u64 (s.en c r)) ∧ w = w' := by
  by_cases hc : HasC n c
  · have CH := Lib.hid (has_in h hc)
    by_cases hr : HasR r
    · have CR := Lib.hid (fun w => reason_in w hr)
      obtain ⟨k, rfl⟩ : ∃ k : Nat, c = k := ⟨c.toNat, by have := hc.1; omega⟩
      obtain ⟨q, rfl⟩ : ∃ q : Nat, r = q := ⟨r.toNat, by have := hr.1; omega⟩
      have k1 : (k : Int) < n := hc.2
      have kn : k < n := by omega
      have q1 : (q : Int) < 8 := by have := hr.2; omega
      have c0 := h.c0
      have c1 := h.en kn (r := q) (by omega)
      clear h hc hr ho
      go_enter Try.func11, Try.ntmps11
      go_wp2_with fail
      refine CH.out.mono ?_
      rintro e w2 ⟨rfl, rfl⟩
      go_wp2_with fail
      refine (CR.out _).mono ?_
      rintro e w2 ⟨rfl, rfl⟩
      go_wp2_with fail
      go_ret
      exact ⟨rfl, rfl⟩
    · have CR := Lib.hid (fun w => reason_out w hr)
      rw [ho (fun e => hr e.2)]
      clear h hc hr ho
      go_enter Try.func11, Try.ntmps11
      go_wp2_with fail
      refine CH.out.mono ?_
      rintro e w2 ⟨rfl, rfl⟩
      go_wp2_with fail
      refine (CR.out _).mono ?_
      rintro e w2 ⟨rfl, rfl⟩
      go_wp2_with fail
      go_ret
      exact ⟨rfl, rfl⟩
  · have CH := Lib.hid (has_out h hc)
    rw [ho (fun e => hc e.1)]
    clear h hc ho
    go_enter Try.func11, Try.ntmps11
    go_wp2_with fail
    refine CH.out.mono ?_
    rintro e w2 ⟨rfl, rfl⟩
    go_wp2_with fail
    go_ret
    exact ⟨rfl, rfl⟩
end
end Go.Proofs.Ythadgficphkpkaa
