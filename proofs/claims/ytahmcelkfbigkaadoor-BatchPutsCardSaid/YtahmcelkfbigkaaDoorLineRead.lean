/-
  Layer 4 (line): what the reader's small methods return: ends, next, pass, kind.
-/
import Derived.Test.YtahmcelkfbigkaaDoorLineBase
import Derived.Test.YtahmcelkfbigkaaDoorLineMem
import Derived.Test.YtahmcelkfbigkaaDoorShelf
namespace Go.Proofs.YtahmcelkfbigkaaDoor
open Go.ChangeShapes Go.WideShapes Go.ChangeAt Go.RowKit
set_option linter.unusedVariables false

def QBool (x : Bool) (w : World) (e : Ending) (w' : World) : Prop := e = .returned (.bool x) ∧ ∃ n, w' = w.drewN n
theorem readEnds (w : World) (b : Nat) (s : ByteArray) (k : Nat) (h : Rd w b s k) (hs : s.size ≤ 300) (hk : k ≤ s.size) :
    Calls Tryd.prog 68 #[.pointer (some ⟨b, 0, none⟩)] w (QBool (decide (k = s.size)) w) := by
  have c0 := h.c0
  have c1 := h.c1
  clear h
  go_enter Tryd.func68, Tryd.ntmps68
  go_wp2
  go_quiet (fail)
  all_goals go_wp2
  all_goals
    go_ret
    exact ⟨ret_bool (by first | rfl | (rw [Bool.eq_iff_iff, beq_iff_eq, decide_eq_true_eq]; omega)), _, rfl⟩

def QChr (c : Nat) (w : World) (e : Ending) (w' : World) : Prop := e = .returned (.int .u8 (c : Nat)) ∧ ∃ n, w' = w.drewN n
theorem readNext (w : World) (b : Nat) (s : ByteArray) (k : Nat) (h : Rd w b s k) (hs : s.size ≤ 300) (hk : k ≤ s.size) :
    Calls Tryd.prog 72 #[.pointer (some ⟨b, 0, none⟩)] w (QChr (chr s k) w) := by
  have C := Lib.hid (readEnds w b s k h hs hk)
  have HR := Lib.hid h
  clear h
  rcases Nat.lt_or_ge k s.size with hlt | hge
  · have e1 : decide (k = s.size) = false := decide_eq_false (by omega)
    rw [e1] at C
    clear e1
    have HC := Lib.hid (chr_in hlt)
    go_enter Tryd.func72, Tryd.ntmps72
    go_wp2_with ((go_at_call 68; refine C.out.mono ?_); rintro e w' ⟨rfl, n, rfl⟩)
    have c0 := HR.out.c0
    have c1 := HR.out.c1
    go_wp2
    go_quiet (fail)
    all_goals go_wp2
    all_goals
      go_ret
      refine ⟨?_, ?_⟩
      · rw [HC.out]
        rfl
      · exact ⟨_, World.drewN_drewN ..⟩
  · have e1 : decide (k = s.size) = true := decide_eq_true (by omega)
    rw [e1] at C
    clear e1
    have HC := Lib.hid (chr_out hge)
    go_enter Tryd.func72, Tryd.ntmps72
    go_wp2_with ((go_at_call 68; refine C.out.mono ?_); rintro e w' ⟨rfl, n, rfl⟩)
    go_ret
    exact ⟨by rw [HC.out]; rfl, _, rfl⟩

def Moves (x : Bool) (w : World) (b : Nat) (s : ByteArray) (k : Nat) (e : Ending) (w' : World) : Prop := e = .returned (.bool x) ∧ Mv w b s k w'
theorem passYes (w : World) (b : Nat) (s : ByteArray) (k : Nat) (c : Int) (h : Rd w b s k) (hs : s.size ≤ 300) (hk : k < s.size) (hc : (chr s k : Int) = c) :
    Calls Tryd.prog 65 #[.pointer (some ⟨b, 0, none⟩), .int .u8 c] w (Moves true w b s (k + 1)) := by
  subst hc
  have C := Lib.hid (readNext w b s k h hs (by omega))
  have HR := Lib.hid h
  clear h
  have c1 := HR.out.c1
  have f1 := HR.out.f1
  generalize chr s k = x at C ⊢
  go_enter Tryd.func65, Tryd.ntmps65
  go_wp2_with ((go_at_call 72; refine C.out.mono ?_); rintro e w' ⟨rfl, n, rfl⟩)
  go_ret
  exact ⟨rfl, grown_drew (grown_set (grown_refl _ _) _ _ (Or.inl rfl)) n, (HR.out.set (k + 1)).drew n⟩
theorem passNo (w : World) (b : Nat) (s : ByteArray) (k : Nat) (c : Int) (h : Rd w b s k) (hs : s.size ≤ 300) (hk : k ≤ s.size) (hc : (chr s k : Int) ≠ c) :
    Calls Tryd.prog 65 #[.pointer (some ⟨b, 0, none⟩), .int .u8 c] w (Moves false w b s k) := by
  have C := Lib.hid (readNext w b s k h hs (by omega))
  have HR := Lib.hid h
  clear h
  have e1 : ((chr s k : Int) == c) = false := beq_eq_false_iff_ne.2 hc
  have e2 : ((chr s k : Int) != c) = true := bne_iff_ne.2 hc
  clear hc
  generalize chr s k = x at C e1 e2 ⊢
  go_enter Tryd.func65, Tryd.ntmps65
  go_wp2_with ((go_at_call 72; refine C.out.mono ?_); rintro e w' ⟨rfl, n, rfl⟩)
  go_ret
  exact ⟨rfl, grown_drew (grown_refl _ _) n, HR.out.drew n⟩

def Kinds (x : Int) (y : Bool) (w : World) (b : Nat) (s : ByteArray) (k : Nat) (e : Ending) (w' : World) : Prop := e = .returned (.tuple #[.int .i64 x, .bool y]) ∧ Mv w b s k w'
theorem ret_ib {x y : Int} {z : Bool} (h : x = y) : Ending.returned (.tuple #[.int .i64 x, .bool z]) = .returned (.tuple #[.int .i64 y, .bool z]) := by rw [h]
theorem index_cgh (c : Nat) (h : c < 256) : Lib.indexByte [99, 103, 104] (c : Int).toNat.toUInt8 = (match kindOf c with | some x => x - 1 | none => -1) := by
  have : ∀ c : Fin 256, Lib.indexByte [99, 103, 104] ((c.val : Nat) : Int).toNat.toUInt8 = (match kindOf c.val with | some x => x - 1 | none => -1) := by decide +kernel
  exact this ⟨c, h⟩
theorem kindYes (w : World) (b : Nat) (s : ByteArray) (k : Nat) (x : Int) (h : Rd w b s k) (hs : s.size ≤ 300) (hk : k < s.size) (hc : kindOf (chr s k) = some x) :
    Calls Tryd.prog 66 #[.pointer (some ⟨b, 0, none⟩)] w (Kinds x true w b s (k + 1)) := by
  have C := Lib.hid (readNext w b s k h hs (by omega))
  have HR := Lib.hid h
  clear h
  have c1 := HR.out.c1
  have f1 := HR.out.f1
  have hi := index_cgh (chr s k) (chr_lt s k)
  rw [hc] at hi
  have hx : 1 ≤ x ∧ x ≤ 3 := by
    unfold kindOf at hc
    split at hc
    · cases hc; omega
    split at hc
    · cases hc; omega
    split at hc
    · cases hc; omega
    · cases hc
  obtain ⟨x0, x1⟩ := hx
  have hi' : Lib.indexByte [99, 103, 104] (chr s k : Int).toNat.toUInt8 = x - 1 := hi
  have HI := Lib.hid hi'
  clear hi hi' hc
  generalize chr s k = y at C HI ⊢
  have D : ∀ w', Calls Tryd.prog 74 #[.string ⟨#[99, 103, 104]⟩, .int .u8 (y : Int)] w' fun e w'' => e = .returned (.int .i64 (x - 1)) ∧ w' = w'' := fun w' =>
    (Tryd.strings_IndexByte ⟨#[99, 103, 104]⟩ (y : Int) w').mono fun e w'' ⟨he, hw⟩ => ⟨by rw [he]; exact ret_int HI.out, hw.symm⟩
  have HD := Lib.hid D
  clear D
  go_enter Tryd.func66, Tryd.ntmps66
  go_wp2_with (first
    | ((go_at_call 72; refine C.out.mono ?_); rintro e w' ⟨rfl, n, rfl⟩)
    | ((go_at_call 74; refine (HD.out _).mono ?_); rintro e w' ⟨rfl, rfl⟩))
  go_ret2
  exact ⟨ret_ib (by omega), grown_drew (grown_set (grown_refl _ _) _ _ (Or.inl rfl)) _, (HR.out.set (k + 1)).drew _⟩
theorem kindNo (w : World) (b : Nat) (s : ByteArray) (k : Nat) (h : Rd w b s k) (hs : s.size ≤ 300) (hk : k ≤ s.size) (hc : kindOf (chr s k) = none) :
    Calls Tryd.prog 66 #[.pointer (some ⟨b, 0, none⟩)] w (Kinds 0 false w b s k) := by
  have C := Lib.hid (readNext w b s k h hs (by omega))
  have HR := Lib.hid h
  clear h
  have hi := index_cgh (chr s k) (chr_lt s k)
  rw [hc] at hi
  have hi' : Lib.indexByte [99, 103, 104] (chr s k : Int).toNat.toUInt8 = -1 := hi
  have HI := Lib.hid hi'
  clear hi hi' hc
  generalize chr s k = y at C HI ⊢
  have D : ∀ w', Calls Tryd.prog 74 #[.string ⟨#[99, 103, 104]⟩, .int .u8 (y : Int)] w' fun e w'' => e = .returned (.int .i64 (-1)) ∧ w' = w'' := fun w' =>
    (Tryd.strings_IndexByte ⟨#[99, 103, 104]⟩ (y : Int) w').mono fun e w'' ⟨he, hw⟩ => ⟨by rw [he]; exact ret_int HI.out, hw.symm⟩
  have HD := Lib.hid D
  clear D
  go_enter Tryd.func66, Tryd.ntmps66
  go_wp2_with (first
    | ((go_at_call 72; refine C.out.mono ?_); rintro e w' ⟨rfl, n, rfl⟩)
    | ((go_at_call 74; refine (HD.out _).mono ?_); rintro e w' ⟨rfl, rfl⟩))
  go_ret2
  exact ⟨rfl, grown_drew (grown_refl _ _) _, HR.out.drew _⟩
end Go.Proofs.YtahmcelkfbigkaaDoor
