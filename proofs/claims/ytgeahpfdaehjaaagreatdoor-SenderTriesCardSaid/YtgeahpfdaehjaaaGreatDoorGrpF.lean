/-
  Layer 4 (line), what is of no program: words, numbers, and how a line is read.
  Layer 4 (line): what the small functions on bytes and words return, the program's and the document's own.
  Layer 4 (line): what the reader's small methods return: ends, next, pass, kind.
  Layer 4 (line): what is a word, and how far one goes: the program's and the document's own.
  Layer 4 (line): the reader's method word: a word into memory of its own, or none.
  Layer 4 (line): the reader's method tag: one tag, from its comma on.
  Layer 4 (line): the reader's method tags: all tags up to the space behind them.
  What the package-level variables of the library hold, as this seat's walks use it, and that it stays.
  Layer 4 (line): the reader's method number.
-/
import Derived.Lib.ParseIntB
import Derived.Lib.ItoaNum
import Derived.Test.YtgeahpfdaehjaaaGreatDoorGrpA
import Derived.LoopTactic
import Derived.Deep.QuietTactic
import Derived.BigQuiet
import Derived.Test.YtgeahpfdaehjaaaGreatDoorShelf
import Derived.Deep.LoopGhost
import Derived.Laws.OwnMore
import Derived.Test.YtgeahpfdaehjaaaGreatDoorShelf
import Derived.Lib.AppendIntMem
import Derived.Lib.AtoiErrMem
namespace Go.Proofs.YtgeahpfdaehjaaaGreatDoor

def inW (c : UInt8) : Bool := decide (97 ≤ c.toNat ∧ c.toNat ≤ 122) || decide (48 ≤ c.toNat ∧ c.toNat ≤ 57) || decide (c.toNat = 95) || decide (c.toNat = 46)
def isD (c : UInt8) : Bool := decide (48 ≤ c.toNat ∧ c.toNat ≤ 57)

/-- How far bytes of a kind go on from a place. -/
def runEnd (p : UInt8 → Bool) (s : ByteArray) (k : Nat) : Nat := k + ((s.data.toList.drop k).takeWhile p).length
theorem drop_at (s : ByteArray) (k : Nat) (h : k < s.size) : s.data.toList.drop k = s[k] :: s.data.toList.drop (k + 1) :=
  List.drop_eq_getElem_cons (by simpa using h)
theorem runEnd_step {p : UInt8 → Bool} {s : ByteArray} {k : Nat} (h : k < s.size) (hp : p s[k] = true) : runEnd p s k = runEnd p s (k + 1) := by
  unfold runEnd
  rw [drop_at s k h, List.takeWhile_cons, if_pos hp, List.length_cons]
  omega
theorem runEnd_stop {p : UInt8 → Bool} {s : ByteArray} {k : Nat} (h : k < s.size) (hp : p s[k] = false) : runEnd p s k = k := by
  unfold runEnd
  rw [drop_at s k h, List.takeWhile_cons, if_neg (by simp [hp])]
  rfl
theorem runEnd_end {p : UInt8 → Bool} {s : ByteArray} {k : Nat} (h : s.size ≤ k) : runEnd p s k = k := by
  unfold runEnd
  rw [List.drop_eq_nil_of_le (by simpa using h)]
  rfl
theorem runEnd_ge (p : UInt8 → Bool) (s : ByteArray) (k : Nat) : k ≤ runEnd p s k := by unfold runEnd; omega
theorem takeWhile_le {α : Type} (p : α → Bool) : ∀ l : List α, (l.takeWhile p).length ≤ l.length
  | [] => by simp
  | a :: l => by
    rw [List.takeWhile_cons]
    split
    · simp; exact takeWhile_le p l
    · simp
theorem runEnd_le {p : UInt8 → Bool} {s : ByteArray} {k : Nat} (h : k ≤ s.size) : runEnd p s k ≤ s.size := by
  unfold runEnd
  have := takeWhile_le p (s.data.toList.drop k)
  rw [List.length_drop] at this
  have e : s.data.toList.length = s.size := by simp
  omega

def wordB (s : ByteArray) : Bool := s.data.toList.all inW && decide (1 ≤ s.size) && decide (s.size ≤ 16)
/-- The byte at a place, and 0 behind all. -/
def chr (s : ByteArray) (k : Nat) : Nat := if h : k < s.size then s[k].toNat else 0
theorem chr_in {s : ByteArray} {k : Nat} (h : k < s.size) : chr s k = s[k].toNat := by unfold chr; rw [dif_pos h]
theorem chr_out {s : ByteArray} {k : Nat} (h : s.size ≤ k) : chr s k = 0 := by unfold chr; rw [dif_neg (by omega)]
theorem chr_lt (s : ByteArray) (k : Nat) : chr s k < 256 := by
  unfold chr; split
  · exact UInt8.toNat_lt _
  · omega
theorem chr_lt_size {s : ByteArray} {k : Nat} (h : chr s k ≠ 0) : k < s.size := by
  rcases Nat.lt_or_ge k s.size with h1 | h1
  · exact h1
  · exact absurd (chr_out h1) h

/-- A word that begins at a place: where it ends. -/
def wordAt (s : ByteArray) (k : Nat) : Option Nat := if wordB (s.extract k (runEnd inW s k)) then some (runEnd inW s k) else none

abbrev Tags := List (ByteArray × ByteArray)
structure Ev where
  name : ByteArray
  tags : Tags
  kind : Int
  value : Int
  time : Int

inductive TRes where
  | bad (k : Nat)
  | good (k : Nat) (ts : Tags)
inductive Res where
  | bad (k : Nat)
  | good (e : Ev)

/-- Tags from a place on, of which so many may still come. -/
def tagsFrom (s : ByteArray) : Nat → Nat → Tags → TRes
  | 0, k, acc => if chr s k = 44 then .bad k else .good k acc
  | n + 1, k, acc =>
    if chr s k = 44 then
      match wordAt s (k + 1) with
      | none => .bad (k + 1)
      | some b =>
        if chr s b = 61 then
          match wordAt s (b + 1) with
          | none => .bad (b + 1)
          | some c => tagsFrom s n c (acc ++ [(s.extract (k + 1) b, s.extract (b + 1) c)])
        else .bad b
    else .good k acc

/-- The number of a text that is written in the one way. -/
def valOf (l : List UInt8) : Option Int :=
  match Lib.parseIntB 64 l with
  | .ok v => if Lib.itoa v = l then some v else none
  | _ => none
def numEnd (s : ByteArray) (k : Nat) : Nat := runEnd isD s (if chr s k = 45 then k + 1 else k)
def numAt (s : ByteArray) (k : Nat) (lo hi : Int) : Option Int :=
  match valOf (s.extract k (numEnd s k)).data.toList with
  | some v => if lo ≤ v ∧ v ≤ hi then some v else none
  | none => none
def kindOf (c : Nat) : Option Int := if c = 99 then some 1 else if c = 103 then some 2 else if c = 104 then some 3 else none

def parseEnd (s : ByteArray) (a : Nat) (ts : Tags) (k v : Int) (c : Nat) : Res :=
  if chr s c = 32 then
    match numAt s (c + 1) 0 1099511627776 with
    | none => .bad (c + 1)
    | some t => if numEnd s (c + 1) < s.size then .bad (numEnd s (c + 1)) else .good ⟨s.extract 0 a, ts, k, v, t⟩
  else .bad c
def parseNum (s : ByteArray) (a : Nat) (ts : Tags) (k : Int) (b : Nat) : Res :=
  if chr s b = 32 then
    match numAt s (b + 1) (-9223372036854775808) 9223372036854775807 with
    | none => .bad (b + 1)
    | some v => parseEnd s a ts k v (numEnd s (b + 1))
  else .bad b
def parseKind (s : ByteArray) (a : Nat) (ts : Tags) (b : Nat) : Res :=
  if chr s b = 32 then
    match kindOf (chr s (b + 1)) with
    | none => .bad (b + 1)
    | some k => parseNum s a ts k (b + 1 + 1)
  else .bad b
def parseTags (s : ByteArray) (a : Nat) : TRes → Res
  | .bad p => .bad p
  | .good b ts => parseKind s a ts b
/-- P4.2: the event of a text, or the byte where it can't go on. -/
def parseF (s : ByteArray) : Res :=
  match wordAt s 0 with
  | none => .bad 0
  | some a => parseTags s a (tagsFrom s 6 a [])

theorem wordAt_some {s : ByteArray} {k b : Nat} (h : wordAt s k = some b) : b = runEnd inW s k ∧ wordB (s.extract k b) = true := by
  unfold wordAt at h
  split at h
  · cases h; exact ⟨rfl, ‹_›⟩
  · cases h
theorem wordAt_le {s : ByteArray} {k b : Nat} (hk : k ≤ s.size) (h : wordAt s k = some b) : k ≤ b ∧ b ≤ s.size := by
  obtain ⟨rfl, _⟩ := wordAt_some h
  exact ⟨runEnd_ge _ _ _, runEnd_le hk⟩
theorem extract_list (s : ByteArray) (a b : Nat) : (s.extract a b).data.toList = (s.data.toList.drop a).take (b - a) := by
  rw [ByteArray.data_extract, Array.toList_extract]
end Go.Proofs.YtgeahpfdaehjaaaGreatDoor
namespace Go.Proofs.YtgeahpfdaehjaaaGreatDoor
open Go.ChangeShapes Go.WideShapes Go.ChangeAt Go.RowKit
set_option linter.unusedVariables false

def Bools (x : Bool) (w : World) (e : Ending) (w' : World) : Prop := e = .returned (.bool x) ∧ w = w'
def Ints (n : Int) (w : World) (e : Ending) (w' : World) : Prop := e = .returned (.int .i64 n) ∧ w = w'
theorem ret_int {k : IntKind} {a b : Int} (h : a = b) : Ending.returned (.int k a) = .returned (.int k b) := by rw [h]

theorem inW_eq (c : UInt8) (b : Bool) (h : b = true ↔ (97 ≤ c.toNat ∧ c.toNat ≤ 122) ∨ (48 ≤ c.toNat ∧ c.toNat ≤ 57) ∨ c.toNat = 95 ∨ c.toNat = 46) : b = inW c := by
  rw [Bool.eq_iff_iff, h]
  unfold inW
  simp only [Bool.or_eq_true, decide_eq_true_eq, or_assoc]
theorem isD_eq (c : UInt8) (b : Bool) (h : b = true ↔ (48 ≤ c.toNat ∧ c.toNat ≤ 57)) : b = isD c := by
  rw [Bool.eq_iff_iff, h]
  unfold isD
  simp only [decide_eq_true_eq]

theorem refWithin (c : UInt8) (w : World) : Calls Tryz.prog 144 #[.int .u8 c.toNat] w (Bools (inW c) w) := by
  have hc := UInt8.toNat_lt c
  have HE := Lib.hid (inW_eq c)
  generalize c.toNat = n at hc HE ⊢
  go_enter Tryz.func144, Tryz.ntmps144
  go_wp2
  all_goals
    go_ret
    exact ⟨ret_bool (HE.out _ (by simp; omega)), rfl⟩
theorem lineIsDigit (c : UInt8) (w : World) : Calls Tryz.prog 168 #[.int .u8 c.toNat] w (Bools (isD c) w) := by
  have hc := UInt8.toNat_lt c
  have HE := Lib.hid (isD_eq c)
  generalize c.toNat = n at hc HE ⊢
  go_enter Tryz.func168, Tryz.ntmps168
  go_wp2
  all_goals
    go_ret
    exact ⟨ret_bool (HE.out _ (by simp; omega)), rfl⟩
theorem lineInWord (c : UInt8) (w : World) : Calls Tryz.prog 162 #[.int .u8 c.toNat] w (Bools (inW c) w) := by
  have hc := UInt8.toNat_lt c
  have HE := Lib.hid (inW_eq c)
  generalize c.toNat = n at hc HE ⊢
  go_enter Tryz.func162, Tryz.ntmps162
  go_wp2
  all_goals
    go_ret
    exact ⟨ret_bool (HE.out _ (by simp; omega)), rfl⟩
end Go.Proofs.YtgeahpfdaehjaaaGreatDoor
namespace Go.Proofs.YtgeahpfdaehjaaaGreatDoor
open Go.ChangeShapes Go.WideShapes Go.ChangeAt Go.RowKit
set_option linter.unusedVariables false

def QBool (x : Bool) (w : World) (e : Ending) (w' : World) : Prop := e = .returned (.bool x) ∧ ∃ n, w' = w.drewN n
theorem readEnds (w : World) (b : Nat) (s : ByteArray) (k : Nat) (h : Rd w b s k) (hs : s.size ≤ 300) (hk : k ≤ s.size) :
    Calls Tryz.prog 161 #[.pointer (some ⟨b, 0, none⟩)] w (QBool (decide (k = s.size)) w) := by
  have c0 := h.c0
  have c1 := h.c1
  clear h
  go_enter Tryz.func161, Tryz.ntmps161
  go_wp2
  go_quiet (fail)
  all_goals go_wp2
  all_goals
    go_ret
    exact ⟨ret_bool (by first | rfl | (rw [Bool.eq_iff_iff, beq_iff_eq, decide_eq_true_eq]; omega)), _, rfl⟩

def QChr (c : Nat) (w : World) (e : Ending) (w' : World) : Prop := e = .returned (.int .u8 (c : Nat)) ∧ ∃ n, w' = w.drewN n
theorem readNext (w : World) (b : Nat) (s : ByteArray) (k : Nat) (h : Rd w b s k) (hs : s.size ≤ 300) (hk : k ≤ s.size) :
    Calls Tryz.prog 165 #[.pointer (some ⟨b, 0, none⟩)] w (QChr (chr s k) w) := by
  have C := Lib.hid (readEnds w b s k h hs hk)
  have HR := Lib.hid h
  clear h
  rcases Nat.lt_or_ge k s.size with hlt | hge
  · have e1 : decide (k = s.size) = false := decide_eq_false (by omega)
    rw [e1] at C
    clear e1
    have HC := Lib.hid (chr_in hlt)
    go_enter Tryz.func165, Tryz.ntmps165
    go_wp2_with ((go_at_call 161; refine C.out.mono ?_); rintro e w' ⟨rfl, n, rfl⟩)
    have c0 := HR.out.c0
    have c1 := HR.out.c1
    go_wp2
    go_quiet (fail)
    all_goals go_wp2
    all_goals
      go_ret
      refine ⟨?_, ?_⟩
      · rw [HC.out]
        rfl
      · exact ⟨_, World.drewN_drewN ..⟩
  · have e1 : decide (k = s.size) = true := decide_eq_true (by omega)
    rw [e1] at C
    clear e1
    have HC := Lib.hid (chr_out hge)
    go_enter Tryz.func165, Tryz.ntmps165
    go_wp2_with ((go_at_call 161; refine C.out.mono ?_); rintro e w' ⟨rfl, n, rfl⟩)
    go_ret
    exact ⟨by rw [HC.out]; rfl, _, rfl⟩

def Moves (x : Bool) (w : World) (b : Nat) (s : ByteArray) (k : Nat) (e : Ending) (w' : World) : Prop := e = .returned (.bool x) ∧ Mv w b s k w'
theorem passYes (w : World) (b : Nat) (s : ByteArray) (k : Nat) (c : Int) (h : Rd w b s k) (hs : s.size ≤ 300) (hk : k < s.size) (hc : (chr s k : Int) = c) :
    Calls Tryz.prog 158 #[.pointer (some ⟨b, 0, none⟩), .int .u8 c] w (Moves true w b s (k + 1)) := by
  subst hc
  have C := Lib.hid (readNext w b s k h hs (by omega))
  have HR := Lib.hid h
  clear h
  have c1 := HR.out.c1
  have f1 := HR.out.f1
  generalize chr s k = x at C ⊢
  go_enter Tryz.func158, Tryz.ntmps158
  go_wp2_with ((go_at_call 165; refine C.out.mono ?_); rintro e w' ⟨rfl, n, rfl⟩)
  go_ret
  exact ⟨rfl, grown_drew (grown_set (grown_refl _ _) _ _ (Or.inl rfl)) n, (HR.out.set (k + 1)).drew n⟩
theorem passNo (w : World) (b : Nat) (s : ByteArray) (k : Nat) (c : Int) (h : Rd w b s k) (hs : s.size ≤ 300) (hk : k ≤ s.size) (hc : (chr s k : Int) ≠ c) :
    Calls Tryz.prog 158 #[.pointer (some ⟨b, 0, none⟩), .int .u8 c] w (Moves false w b s k) := by
  have C := Lib.hid (readNext w b s k h hs (by omega))
  have HR := Lib.hid h
  clear h
  have e1 : ((chr s k : Int) == c) = false := beq_eq_false_iff_ne.2 hc
  have e2 : ((chr s k : Int) != c) = true := bne_iff_ne.2 hc
  clear hc
  generalize chr s k = x at C e1 e2 ⊢
  go_enter Tryz.func158, Tryz.ntmps158
  go_wp2_with ((go_at_call 165; refine C.out.mono ?_); rintro e w' ⟨rfl, n, rfl⟩)
  go_ret
  exact ⟨rfl, grown_drew (grown_refl _ _) n, HR.out.drew n⟩

def Kinds (x : Int) (y : Bool) (w : World) (b : Nat) (s : ByteArray) (k : Nat) (e : Ending) (w' : World) : Prop := e = .returned (.tuple #[.int .i64 x, .bool y]) ∧ Mv w b s k w'
theorem ret_ib {x y : Int} {z : Bool} (h : x = y) : Ending.returned (.tuple #[.int .i64 x, .bool z]) = .returned (.tuple #[.int .i64 y, .bool z]) := by rw [h]
theorem index_cgh (c : Nat) (h : c < 256) : Lib.indexByte [99, 103, 104] (c : Int).toNat.toUInt8 = (match kindOf c with | some x => x - 1 | none => -1) := by
  have : ∀ c : Fin 256, Lib.indexByte [99, 103, 104] ((c.val : Nat) : Int).toNat.toUInt8 = (match kindOf c.val with | some x => x - 1 | none => -1) := by decide +kernel
  exact this ⟨c, h⟩
theorem kindYes (w : World) (b : Nat) (s : ByteArray) (k : Nat) (x : Int) (h : Rd w b s k) (hs : s.size ≤ 300) (hk : k < s.size) (hc : kindOf (chr s k) = some x) :
    Calls Tryz.prog 159 #[.pointer (some ⟨b, 0, none⟩)] w (Kinds x true w b s (k + 1)) := by
  have C := Lib.hid (readNext w b s k h hs (by omega))
  have HR := Lib.hid h
  clear h
  have c1 := HR.out.c1
  have f1 := HR.out.f1
  have hi := index_cgh (chr s k) (chr_lt s k)
  rw [hc] at hi
  have hx : 1 ≤ x ∧ x ≤ 3 := by
    unfold kindOf at hc
    split at hc
    · cases hc; omega
    split at hc
    · cases hc; omega
    split at hc
    · cases hc; omega
    · cases hc
  obtain ⟨x0, x1⟩ := hx
  have hi' : Lib.indexByte [99, 103, 104] (chr s k : Int).toNat.toUInt8 = x - 1 := hi
  have HI := Lib.hid hi'
  clear hi hi' hc
  generalize chr s k = y at C HI ⊢
  have D : ∀ w', Calls Tryz.prog 167 #[.string ⟨#[99, 103, 104]⟩, .int .u8 (y : Int)] w' fun e w'' => e = .returned (.int .i64 (x - 1)) ∧ w' = w'' := fun w' =>
    (Tryz.strings_IndexByte ⟨#[99, 103, 104]⟩ (y : Int) w').mono fun e w'' ⟨he, hw⟩ => ⟨by rw [he]; exact ret_int HI.out, hw.symm⟩
  have HD := Lib.hid D
  clear D
  go_enter Tryz.func159, Tryz.ntmps159
  go_wp2_with (first
    | ((go_at_call 165; refine C.out.mono ?_); rintro e w' ⟨rfl, n, rfl⟩)
    | ((go_at_call 167; refine (HD.out _).mono ?_); rintro e w' ⟨rfl, rfl⟩))
  go_ret2
  exact ⟨ret_ib (by omega), grown_drew (grown_set (grown_refl _ _) _ _ (Or.inl rfl)) _, (HR.out.set (k + 1)).drew _⟩
theorem kindNo (w : World) (b : Nat) (s : ByteArray) (k : Nat) (h : Rd w b s k) (hs : s.size ≤ 300) (hk : k ≤ s.size) (hc : kindOf (chr s k) = none) :
    Calls Tryz.prog 159 #[.pointer (some ⟨b, 0, none⟩)] w (Kinds 0 false w b s k) := by
  have C := Lib.hid (readNext w b s k h hs (by omega))
  have HR := Lib.hid h
  clear h
  have hi := index_cgh (chr s k) (chr_lt s k)
  rw [hc] at hi
  have hi' : Lib.indexByte [99, 103, 104] (chr s k : Int).toNat.toUInt8 = -1 := hi
  have HI := Lib.hid hi'
  clear hi hi' hc
  generalize chr s k = y at C HI ⊢
  have D : ∀ w', Calls Tryz.prog 167 #[.string ⟨#[99, 103, 104]⟩, .int .u8 (y : Int)] w' fun e w'' => e = .returned (.int .i64 (-1)) ∧ w' = w'' := fun w' =>
    (Tryz.strings_IndexByte ⟨#[99, 103, 104]⟩ (y : Int) w').mono fun e w'' ⟨he, hw⟩ => ⟨by rw [he]; exact ret_int HI.out, hw.symm⟩
  have HD := Lib.hid D
  clear D
  go_enter Tryz.func159, Tryz.ntmps159
  go_wp2_with (first
    | ((go_at_call 165; refine C.out.mono ?_); rintro e w' ⟨rfl, n, rfl⟩)
    | ((go_at_call 167; refine (HD.out _).mono ?_); rintro e w' ⟨rfl, rfl⟩))
  go_ret2
  exact ⟨rfl, grown_drew (grown_refl _ _) _, HR.out.drew _⟩
end Go.Proofs.YtgeahpfdaehjaaaGreatDoor
namespace Go.Proofs.YtgeahpfdaehjaaaGreatDoor
open Go.ChangeShapes Go.WideShapes Go.ChangeAt Go.RowKit
set_option linter.unusedVariables false

def AllTo (s : ByteArray) (k : Nat) : Prop := (s.data.toList.take k).all inW = true
theorem take_snoc (s : ByteArray) (k : Nat) (h : k < s.size) : s.data.toList.take (k + 1) = s.data.toList.take k ++ [s[k]] := by
  rw [List.take_succ_eq_append_getElem (by simpa using h)]; rfl
theorem AllTo.next {s : ByteArray} {k : Nat} (h : AllTo s k) (hk : k < s.size) (hc : inW s[k] = true) : AllTo s (k + 1) := by
  unfold AllTo at h ⊢
  rw [take_snoc s k hk, List.all_append, h]
  simp [hc]
theorem wordB_false {s : ByteArray} {k : Nat} (hk : k < s.size) (hc : inW s[k] = false) : wordB s = false := by
  unfold wordB
  have : s.data.toList.all inW = false := by
    rw [List.all_eq_false]
    exact ⟨s[k], Array.getElem_mem_toList (xs := s.data) (i := k) hk, by simp [hc]⟩
  rw [this]; rfl
theorem wordB_all {s : ByteArray} {k : Nat} (h : AllTo s k) (hk : s.size ≤ k) : wordB s = (decide (1 ≤ s.size) && decide (s.size ≤ 16)) := by
  unfold AllTo at h
  rw [List.take_of_length_le (by simpa using hk)] at h
  unfold wordB
  rw [h]; rfl

theorem words_lt {n : Nat} (h : 0 < n) : decide ((n : Int) ≤ 16) = (decide (1 ≤ n) && decide (n ≤ 16)) := by
  have e1 : decide (1 ≤ n) = true := decide_eq_true h
  rw [e1, Bool.true_and, decide_eq_decide]
  omega
theorem words_0 {n : Nat} (h : ¬ 0 < n) : false = (decide (1 ≤ n) && decide (n ≤ 16)) := by
  have e1 : decide (1 ≤ n) = false := decide_eq_false (by omega)
  rw [e1, Bool.false_and]

theorem refWord (s : ByteArray) (w : World) (hs : s.size ≤ 9223372036854775807) : Calls Tryz.prog 124 #[.string s] w (Bools (wordB s) w) := by
  go_enter Tryz.func124, Tryz.ntmps124
  go_wp2
  go_loop [3] (fun i => ∃ k : Nat, k ≤ s.size ∧ i = .int .i64 k ∧ AllTo s k) (fun i => s.size - (intOf i).toNat)
  case atStart => exact ⟨0, Nat.zero_le _, rfl, rfl⟩
  case round =>
    obtain ⟨k, hk, rfl, ha⟩ := hrel
    have HA := Lib.hid ha
    clear ha
    by_cases hlt : k < s.size
    · rcases hb : inW s[k] with _ | _
      · go_wp2_with ((go_at_call 144; refine (refWithin _ _).mono ?_); rintro e w' ⟨rfl, rfl⟩)
        go_ret
        exact ⟨ret_bool (wordB_false hlt hb).symm, rfl⟩
      · go_wp2_with ((go_at_call 144; refine (refWithin _ _).mono ?_); rintro e w' ⟨rfl, rfl⟩)
        go_round
        case rel => exact ⟨k + 1, by omega, by go_num, HA.out.next hlt hb⟩
        case measure => simp [intOf]; omega
    · have HW := Lib.hid (wordB_all HA.out (by omega))
      go_wp2
      all_goals
        go_ret
        refine ⟨ret_bool ?_, rfl⟩
        rw [HW.out]
        first
          | exact words_lt (by assumption)
          | exact words_0 (by assumption)

theorem lineIsWord (s : ByteArray) (w : World) (hs : s.size ≤ 9223372036854775807) : Calls Tryz.prog 163 #[.string s] w (Bools (wordB s) w) := by
  by_cases h0 : s.size = 0
  · have HW : Hid (wordB s = false) := Lib.hid (by unfold wordB; simp [h0])
    go_enter Tryz.func163, Tryz.ntmps163
    go_wp2
    go_ret
    exact ⟨ret_bool HW.out.symm, rfl⟩
  by_cases h16 : 16 < s.size
  · have HW : Hid (wordB s = false) := Lib.hid (by unfold wordB; simp; omega)
    go_enter Tryz.func163, Tryz.ntmps163
    go_wp2
    go_ret
    exact ⟨ret_bool HW.out.symm, rfl⟩
  have e0 : ((s.size : Int) == 0) = false := by rw [beq_eq_false_iff_ne]; omega
  go_enter Tryz.func163, Tryz.ntmps163
  go_wp2
  clear e0
  go_loop [14] (fun i => ∃ k : Nat, k ≤ s.size ∧ i = .int .i64 k ∧ AllTo s k) (fun i => s.size - (intOf i).toNat)
  case atStart => exact ⟨0, Nat.zero_le _, rfl, rfl⟩
  case round =>
    obtain ⟨k, hk, rfl, ha⟩ := hrel
    have HA := Lib.hid ha
    clear ha
    by_cases hlt : k < s.size
    · rcases hb : inW s[k] with _ | _
      · go_wp2_with ((go_at_call 162; refine (lineInWord _ _).mono ?_); rintro e w' ⟨rfl, rfl⟩)
        go_ret
        exact ⟨ret_bool (wordB_false hlt hb).symm, rfl⟩
      · go_wp2_with ((go_at_call 162; refine (lineInWord _ _).mono ?_); rintro e w' ⟨rfl, rfl⟩)
        go_round
        case rel => exact ⟨k + 1, by omega, by go_num, HA.out.next hlt hb⟩
        case measure => simp [intOf]; omega
    · have HW := Lib.hid (wordB_all HA.out (by omega))
      go_wp2
      go_ret
      exact ⟨ret_bool (by rw [HW.out]; simp; omega), rfl⟩

/-- The document's own run. -/
theorem refRunW (s : ByteArray) (k0 : Nat) (w : World) (hs : s.size ≤ 9223372036854775806) (h0 : k0 ≤ s.size) :
    Calls Tryz.prog 123 #[.string s, .int .i64 k0, .bool false] w (Ints (runEnd inW s k0) w) := by
  go_enter Tryz.func123, Tryz.ntmps123
  go_wp2
  go_loop [1] (fun i => ∃ k : Nat, k ≤ s.size ∧ i = .int .i64 k ∧ Hid (runEnd inW s k0 = runEnd inW s k)) (fun i => s.size - (intOf i).toNat)
  case atStart => exact ⟨k0, h0, rfl, Lib.hid rfl⟩
  case round =>
    obtain ⟨k, hk, rfl, HA⟩ := hrel
    by_cases hlt : k < s.size
    · rcases hb : inW s[k] with _ | _
      · go_wp2_with ((go_at_call 144; refine (refWithin _ _).mono ?_); rintro e w' ⟨rfl, rfl⟩)
        go_ret
        exact ⟨ret_int (by rw [HA.out, runEnd_stop hlt hb]), rfl⟩
      · go_wp2_with ((go_at_call 144; refine (refWithin _ _).mono ?_); rintro e w' ⟨rfl, rfl⟩)
        go_round
        case rel => exact ⟨k + 1, by omega, by go_num, Lib.hid (HA.out.trans (runEnd_step hlt hb))⟩
        case measure => simp [intOf]; omega
    · go_wp2
      go_ret
      exact ⟨ret_int (by rw [HA.out, runEnd_end (by omega)]), rfl⟩
theorem refRunD (s : ByteArray) (k0 : Nat) (w : World) (hs : s.size ≤ 9223372036854775806) (h0 : k0 ≤ s.size) :
    Calls Tryz.prog 123 #[.string s, .int .i64 k0, .bool true] w (Ints (runEnd isD s k0) w) := by
  go_enter Tryz.func123, Tryz.ntmps123
  go_wp2
  go_loop [1] (fun i => ∃ k : Nat, k ≤ s.size ∧ i = .int .i64 k ∧ Hid (runEnd isD s k0 = runEnd isD s k)) (fun i => s.size - (intOf i).toNat)
  case atStart => exact ⟨k0, h0, rfl, Lib.hid rfl⟩
  case round =>
    obtain ⟨k, hk, rfl, HA⟩ := hrel
    by_cases hlt : k < s.size
    · have HD := Lib.hid (isD_eq s[k])
      have hc := UInt8.toNat_lt s[k]
      have HSt := Lib.hid (fun h => @runEnd_stop isD s k hlt h)
      have HSp := Lib.hid (fun h => @runEnd_step isD s k hlt h)
      rcases Nat.lt_or_ge s[k].toNat 48 with hl | hl
      · have f1 : decide ((48 : Int) ≤ s[k].toNat) = false := decide_eq_false (by omega)
        go_wp2_with ((go_at_call 144; refine (refWithin _ _).mono ?_); rintro e w' ⟨rfl, rfl⟩)
        go_ret
        exact ⟨ret_int (by rw [HA.out, HSt.out ((HD.out false (by simp; omega)).symm)]), rfl⟩
      rcases Nat.lt_or_ge 57 s[k].toNat with hu | hu
      · have f1 : decide ((48 : Int) ≤ s[k].toNat) = true := decide_eq_true (by omega)
        have f2 : decide ((s[k].toNat : Int) ≤ 57) = false := decide_eq_false (by omega)
        go_wp2_with ((go_at_call 144; refine (refWithin _ _).mono ?_); rintro e w' ⟨rfl, rfl⟩)
        go_ret
        exact ⟨ret_int (by rw [HA.out, HSt.out ((HD.out false (by simp; omega)).symm)]), rfl⟩
      · have f1 : decide ((48 : Int) ≤ s[k].toNat) = true := decide_eq_true (by omega)
        have f2 : decide ((s[k].toNat : Int) ≤ 57) = true := decide_eq_true (by omega)
        go_wp2_with ((go_at_call 144; refine (refWithin _ _).mono ?_); rintro e w' ⟨rfl, rfl⟩)
        go_round
        case rel => exact ⟨k + 1, by omega, by go_num, Lib.hid (HA.out.trans (HSp.out ((HD.out true (by simp; omega)).symm)))⟩
        case measure => simp [intOf]; omega
    · go_wp2
      go_ret
      exact ⟨ret_int (by rw [HA.out, runEnd_end (by omega)]), rfl⟩
end Go.Proofs.YtgeahpfdaehjaaaGreatDoor
namespace Go.Proofs.YtgeahpfdaehjaaaGreatDoor
open Go.ChangeShapes Go.WideShapes Go.ChangeAt Go.RowKit
set_option linter.unusedVariables false

theorem strClone (s : ByteArray) (w : World) (hs : s.size ≤ 281474976710656) : Calls Tryz.prog 164 #[.string s] w fun e w' => e = .returned (.string s) ∧ Below w.heap.size w w' := by
  have C := Lib.hid (Tryz.stringslite_Clone s w hs)
  go_enter Tryz.func164, Tryz.ntmps164
  go_wp2_with ((go_at_call 171; refine C.out.mono ?_); rintro e w' ⟨rfl, hb⟩)
  go_ret
  exact ⟨rfl, hb⟩

def Words (t : ByteArray) (y : Bool) (w : World) (b : Nat) (s : ByteArray) (k : Nat) (e : Ending) (w' : World) : Prop := e = .returned (.tuple #[.string t, .bool y]) ∧ Mv w b s k w'
theorem extract_size (s : ByteArray) (a b : Nat) (h : b ≤ s.size) : (s.extract a b).size = b - a := by
  rw [ByteArray.size_extract]; omega

theorem wordYes (w : World) (b : Nat) (s : ByteArray) (k j : Nat) (h : Rd w b s k) (hs : s.size ≤ 300) (hk : k ≤ s.size) (hw : wordAt s k = some j) :
    Calls Tryz.prog 156 #[.pointer (some ⟨b, 0, none⟩)] w (Words (s.extract k j) true w b s j) := by
  obtain ⟨hj, hB⟩ := wordAt_some hw
  obtain ⟨hkj, hjs⟩ := wordAt_le hk hw
  have HR := Lib.hid h
  have HJ := Lib.hid hj
  have HB := Lib.hid hB
  clear h hj hB hw
  have c0 := HR.out.c0
  have c1 := HR.out.c1
  have f1 := HR.out.f1
  go_enter Tryz.func156, Tryz.ntmps156
  go_wp2
  go_loop [4] (fun i => ∃ m : Nat, k ≤ m ∧ m ≤ s.size ∧ i = .int .i64 m ∧ Hid (runEnd inW s k = runEnd inW s m)) (fun i => s.size - (intOf i).toNat)
  case atStart => exact ⟨k, Nat.le_refl _, hk, rfl, Lib.hid rfl⟩
  case round =>
    obtain ⟨m, hkm, hm, rfl, HA⟩ := hrel
    by_cases hgo : ∃ hlt : m < s.size, inW s[m] = true
    · obtain ⟨hlt, hb⟩ := hgo
      go_wp2_with ((go_at_call 162; refine (lineInWord _ _).mono ?_); rintro e w' ⟨rfl, rfl⟩)
      go_round
      case rel => exact ⟨m + 1, by omega, by omega, by go_num, Lib.hid (HA.out.trans (runEnd_step hlt hb))⟩
      case measure => simp [intOf]; omega
    · have hex : s.size ≤ m ∨ ∃ hlt : m < s.size, inW s[m] = false := by
        rcases Nat.lt_or_ge m s.size with hlt | hge
        · exact .inr ⟨hlt, by cases hb : inW s[m] with | false => rfl | true => exact absurd ⟨hlt, hb⟩ hgo⟩
        · exact .inl hge
      clear hgo
      have hmj : m = j := by
        rcases hex with hge | ⟨hlt, hb⟩
        · rw [HJ.out, HA.out, runEnd_end hge]
        · rw [HJ.out, HA.out, runEnd_stop hlt hb]
      subst hmj
      have CW := Lib.hid (fun w' => lineIsWord (s.extract k m) w' (by rw [extract_size s k m hm]; omega))
      have CC := Lib.hid (fun w' => strClone (s.extract k m) w' (by rw [extract_size s k m hm]; omega))
      rw [HB.out] at CW
      rcases hex with hge | ⟨hlt, hb⟩
      all_goals
        go_wp2_with ((go_at_call 162; refine (lineInWord _ _).mono ?_); rintro e w' ⟨rfl, rfl⟩)
        go_quiet (fail)
        go_wp2_with (first
          | ((go_at_call 163; refine (CW.out _).mono ?_); rintro e w' ⟨rfl, rfl⟩)
          | ((go_at_call 164; refine (CC.out _).mono ?_); rintro e w' ⟨rfl, hb9⟩))
        go_ret2
        exact ⟨rfl, grown_of_below (grown_drew (grown_set (grown_refl _ _) _ _ (Or.inl rfl)) _) hb9 (by simp), Rd.below ((HR.out.set m).drew _) hb9⟩
theorem wordNo (w : World) (b : Nat) (s : ByteArray) (k : Nat) (h : Rd w b s k) (hs : s.size ≤ 300) (hk : k ≤ s.size) (hw : wordAt s k = none) :
    Calls Tryz.prog 156 #[.pointer (some ⟨b, 0, none⟩)] w (Words ⟨#[]⟩ false w b s k) := by
  have hB : wordB (s.extract k (runEnd inW s k)) = false := by
    cases hB : wordB (s.extract k (runEnd inW s k)) with
    | false => rfl
    | true => unfold wordAt at hw; rw [if_pos hB] at hw; cases hw
  have hkj := runEnd_ge inW s k
  have hjs := runEnd_le (p := inW) hk
  obtain ⟨j, hj⟩ : ∃ j, j = runEnd inW s k := ⟨_, rfl⟩
  rw [← hj] at hB hkj hjs
  have HR := Lib.hid h
  have HJ := Lib.hid hj
  have HB := Lib.hid hB
  clear h hj hB hw
  have c0 := HR.out.c0
  have c1 := HR.out.c1
  go_enter Tryz.func156, Tryz.ntmps156
  go_wp2
  go_loop [4] (fun i => ∃ m : Nat, k ≤ m ∧ m ≤ s.size ∧ i = .int .i64 m ∧ Hid (runEnd inW s k = runEnd inW s m)) (fun i => s.size - (intOf i).toNat)
  case atStart => exact ⟨k, Nat.le_refl _, hk, rfl, Lib.hid rfl⟩
  case round =>
    obtain ⟨m, hkm, hm, rfl, HA⟩ := hrel
    by_cases hgo : ∃ hlt : m < s.size, inW s[m] = true
    · obtain ⟨hlt, hb⟩ := hgo
      go_wp2_with ((go_at_call 162; refine (lineInWord _ _).mono ?_); rintro e w' ⟨rfl, rfl⟩)
      go_round
      case rel => exact ⟨m + 1, by omega, by omega, by go_num, Lib.hid (HA.out.trans (runEnd_step hlt hb))⟩
      case measure => simp [intOf]; omega
    · have hex : s.size ≤ m ∨ ∃ hlt : m < s.size, inW s[m] = false := by
        rcases Nat.lt_or_ge m s.size with hlt | hge
        · exact .inr ⟨hlt, by cases hb : inW s[m] with | false => rfl | true => exact absurd ⟨hlt, hb⟩ hgo⟩
        · exact .inl hge
      clear hgo
      have hmj : m = j := by
        rcases hex with hge | ⟨hlt, hb⟩
        · rw [HJ.out, HA.out, runEnd_end hge]
        · rw [HJ.out, HA.out, runEnd_stop hlt hb]
      subst hmj
      have CW := Lib.hid (fun w' => lineIsWord (s.extract k m) w' (by rw [extract_size s k m hm]; omega))
      rw [HB.out] at CW
      rcases hex with hge | ⟨hlt, hb⟩
      all_goals
        go_wp2_with ((go_at_call 162; refine (lineInWord _ _).mono ?_); rintro e w' ⟨rfl, rfl⟩)
        go_quiet (fail)
        go_wp2_with ((go_at_call 163; refine (CW.out _).mono ?_); rintro e w' ⟨rfl, rfl⟩)
        go_ret2
        exact ⟨rfl, grown_drew (grown_refl _ _) _, HR.out.drew _⟩
end Go.Proofs.YtgeahpfdaehjaaaGreatDoor
namespace Go.Proofs.YtgeahpfdaehjaaaGreatDoor
open Go.ChangeShapes Go.WideShapes Go.ChangeAt Go.RowKit
set_option linter.unusedVariables false

/-- A pair of texts in a block of its own. -/
def Pr (w : World) (g : Nat) (x y : ByteArray) : Prop := w.heap[g]? = some (.cells #[.string x, .string y] 198 (0, 0))
section
variable {w w' : World} {g b : Nat} {x y : ByteArray}
theorem Pr.c0 (h : Pr w g x y) : w.cell? ⟨g, 0, none⟩ = some (.string x) := cell_of_block h
theorem Pr.c1 (h : Pr w g x y) : w.cell? ⟨g, 1, none⟩ = some (.string y) := cell_of_block h
theorem Pr.f0 (h : Pr w g x y) : w.frozen? ⟨g, 0, none⟩ = false := frozen_of_block h
theorem Pr.f1 (h : Pr w g x y) : w.frozen? ⟨g, 1, none⟩ = false := frozen_of_block h
theorem Pr.grown (h : Pr w g x y) (hg : w.grownBy w' (some b)) (hb : b ≠ g) : Pr w' g x y := by
  unfold Pr; rw [hg.block g (lt_of_block h) (fun e => hb (Option.some.inj e).symm)]; exact h
theorem Pr.set0 (h : Pr w g x y) (z : ByteArray) : Pr (w.setCell ⟨g, 0, none⟩ (.string z)) g z y := heap_set_same h
theorem Pr.set1 (h : Pr w g x y) (z : ByteArray) : Pr (w.setCell ⟨g, 1, none⟩ (.string z)) g x z := heap_set_same h
end

def TagsOne (x y : ByteArray) (z : Bool) (w : World) (b : Nat) (s : ByteArray) (k : Nat) (e : Ending) (w' : World) : Prop :=
  e = .returned (.tuple #[.agg #[.string x, .string y], .bool z]) ∧ Mv w b s k w'
def TagFails (w : World) (b : Nat) (s : ByteArray) (k : Nat) (e : Ending) (w' : World) : Prop := ∃ x y, TagsOne x y false w b s k e w'

theorem tagYes (w : World) (b : Nat) (s : ByteArray) (k i j : Nat) (h : Rd w b s k) (hs : s.size ≤ 300) (hk : k ≤ s.size) (h44 : chr s k = 44) (hi : wordAt s (k + 1) = some i) (h61 : chr s i = 61) (hj : wordAt s (i + 1) = some j) :
    Calls Tryz.prog 166 #[.pointer (some ⟨b, 0, none⟩)] w (TagsOne (s.extract (k + 1) i) (s.extract (i + 1) j) true w b s j) := by
  have hi1 : i < s.size := chr_lt_size (by omega)
  have HI := Lib.hid hi
  have HJ := Lib.hid hj
  have H61 := Lib.hid h61
  clear hi hj h61
  have hk1 : k < s.size := chr_lt_size (by omega)
  have hbw := h.lt
  have h0 : Pr (w.alloc (.cells #[.string ⟨#[]⟩, .string ⟨#[]⟩] 198)) w.heap.size ⟨#[]⟩ ⟨#[]⟩ := heap_alloc_new w _
  have C1 := Lib.hid (passYes _ b s k 44 (h.alloc (.cells #[.string ⟨#[]⟩, .string ⟨#[]⟩] 198)) hs hk1 (by rw [h44]; rfl))
  have g0 : w.grownBy (w.alloc (.cells #[.string ⟨#[]⟩, .string ⟨#[]⟩] 198)) (some b) := World.grownBy_alloc _ _ _
  have H0 := Lib.hid h0
  have G0 := Lib.hid g0
  clear h0 g0 h44
  go_enter Tryz.func166, Tryz.ntmps166
  go_wp2_with ((go_at_call 158; refine C1.out.mono ?_); rintro e w1 ⟨rfl, m1⟩; have M1 := Lib.hid m1; clear m1 C1)
  have P1 := Lib.hid (H0.out.grown M1.out.grown (by omega))
  have G1 := Lib.hid (grown_trans G0.out M1.out.grown)
  refine (wordYes w1 b s (k + 1) i M1.out.rd hs (by omega) HI.out).mono ?_
  rintro e w2 ⟨rfl, m2⟩
  have M2 := Lib.hid m2
  clear m2
  have P2 := Lib.hid (P1.out.grown M2.out.grown (by omega))
  have G2 := Lib.hid (grown_trans G1.out M2.out.grown)
  have d2 := P2.out.c0
  have x2 := P2.out.f0
  go_wp2_with fail
  have R2 := Lib.hid (M2.out.rd.other ⟨w.heap.size, 0, none⟩ (.string (s.extract (k + 1) i)) (Nat.ne_of_lt hbw))
  have Q2 := Lib.hid (P2.out.set0 (s.extract (k + 1) i))
  have K2 := Lib.hid (grown_set G2.out ⟨w.heap.size, 0, none⟩ (.string (s.extract (k + 1) i)) (Or.inr (Nat.le_refl _)))
  clear d2 x2
  refine (passYes _ b s i 61 R2.out hs hi1 (by rw [H61.out]; rfl)).mono ?_
  rintro e w3 ⟨rfl, m3⟩
  have M3 := Lib.hid m3
  clear m3
  have P3 := Lib.hid (Q2.out.grown M3.out.grown (by omega))
  have G3 := Lib.hid (grown_trans K2.out M3.out.grown)
  go_wp2_with fail
  refine (wordYes w3 b s (i + 1) j M3.out.rd hs (by omega) HJ.out).mono ?_
  rintro e w4 ⟨rfl, m4⟩
  have M4 := Lib.hid m4
  clear m4
  have P4 := Lib.hid (P3.out.grown M4.out.grown (by omega))
  have G4 := Lib.hid (grown_trans G3.out M4.out.grown)
  have d4 := P4.out.c1
  have x4 := P4.out.f1
  have c40 := P4.out.c0
  have c41 := P4.out.c1
  have f40 := P4.out.f0
  have f41 := P4.out.f1
  go_wp2_with fail
  refine bodyPost_ret (v := .tuple #[.agg #[.string (s.extract (k + 1) i), .string (s.extract (i + 1) j)], .bool true]) (by simp [results, Tryz.results166, go_sem, c40, c41]) rfl ?_
  exact ⟨rfl, grown_set (grown_set (grown_set (G4.out) _ _ (Or.inr (Nat.le_refl _))) _ _ (Or.inr (Nat.le_refl _))) _ _ (Or.inr (Nat.le_refl _)), (((M4.out.rd).other _ _ (by simp; omega)).other _ _ (by simp; omega)).other _ _ (by simp; omega)⟩
theorem tagNo1 (w : World) (b : Nat) (s : ByteArray) (k : Nat) (h : Rd w b s k) (hs : s.size ≤ 300) (hk : k ≤ s.size) (h44 : chr s k = 44) (hi : wordAt s (k + 1) = none) :
    Calls Tryz.prog 166 #[.pointer (some ⟨b, 0, none⟩)] w (TagFails w b s (k + 1)) := by
  have HI := Lib.hid hi
  clear hi
  have hk1 : k < s.size := chr_lt_size (by omega)
  have hbw := h.lt
  have h0 : Pr (w.alloc (.cells #[.string ⟨#[]⟩, .string ⟨#[]⟩] 198)) w.heap.size ⟨#[]⟩ ⟨#[]⟩ := heap_alloc_new w _
  have C1 := Lib.hid (passYes _ b s k 44 (h.alloc (.cells #[.string ⟨#[]⟩, .string ⟨#[]⟩] 198)) hs hk1 (by rw [h44]; rfl))
  have g0 : w.grownBy (w.alloc (.cells #[.string ⟨#[]⟩, .string ⟨#[]⟩] 198)) (some b) := World.grownBy_alloc _ _ _
  have H0 := Lib.hid h0
  have G0 := Lib.hid g0
  clear h0 g0 h44
  go_enter Tryz.func166, Tryz.ntmps166
  go_wp2_with ((go_at_call 158; refine C1.out.mono ?_); rintro e w1 ⟨rfl, m1⟩; have M1 := Lib.hid m1; clear m1 C1)
  have P1 := Lib.hid (H0.out.grown M1.out.grown (by omega))
  have G1 := Lib.hid (grown_trans G0.out M1.out.grown)
  refine (wordNo w1 b s (k + 1) M1.out.rd hs (by omega) HI.out).mono ?_
  rintro e w2 ⟨rfl, m2⟩
  have M2 := Lib.hid m2
  clear m2
  have P2 := Lib.hid (P1.out.grown M2.out.grown (by omega))
  have G2 := Lib.hid (grown_trans G1.out M2.out.grown)
  have d2 := P2.out.c0
  have x2 := P2.out.f0
  have c20 := P2.out.c0
  have c21 := P2.out.c1
  have f20 := P2.out.f0
  have f21 := P2.out.f1
  go_wp2_with fail
  refine bodyPost_ret (v := .tuple #[.agg #[.string ⟨#[]⟩, .string ⟨#[]⟩], .bool false]) (by simp [results, Tryz.results166, go_sem, c20, c21]) rfl ?_
  exact ⟨_, _, ⟨rfl, grown_set (grown_set (grown_set (G2.out) _ _ (Or.inr (Nat.le_refl _))) _ _ (Or.inr (Nat.le_refl _))) _ _ (Or.inr (Nat.le_refl _)), (((M2.out.rd).other _ _ (by simp; omega)).other _ _ (by simp; omega)).other _ _ (by simp; omega)⟩⟩
theorem tagNo2 (w : World) (b : Nat) (s : ByteArray) (k i : Nat) (h : Rd w b s k) (hs : s.size ≤ 300) (hk : k ≤ s.size) (h44 : chr s k = 44) (hi : wordAt s (k + 1) = some i) (h61 : chr s i ≠ 61) :
    Calls Tryz.prog 166 #[.pointer (some ⟨b, 0, none⟩)] w (TagFails w b s i) := by
  have hk0 : k < s.size := chr_lt_size (by omega)
  obtain ⟨hki, his⟩ := wordAt_le (by omega) hi
  have HI := Lib.hid hi
  have H61 := Lib.hid h61
  clear hi h61 hk0
  have hk1 : k < s.size := chr_lt_size (by omega)
  have hbw := h.lt
  have h0 : Pr (w.alloc (.cells #[.string ⟨#[]⟩, .string ⟨#[]⟩] 198)) w.heap.size ⟨#[]⟩ ⟨#[]⟩ := heap_alloc_new w _
  have C1 := Lib.hid (passYes _ b s k 44 (h.alloc (.cells #[.string ⟨#[]⟩, .string ⟨#[]⟩] 198)) hs hk1 (by rw [h44]; rfl))
  have g0 : w.grownBy (w.alloc (.cells #[.string ⟨#[]⟩, .string ⟨#[]⟩] 198)) (some b) := World.grownBy_alloc _ _ _
  have H0 := Lib.hid h0
  have G0 := Lib.hid g0
  clear h0 g0 h44
  go_enter Tryz.func166, Tryz.ntmps166
  go_wp2_with ((go_at_call 158; refine C1.out.mono ?_); rintro e w1 ⟨rfl, m1⟩; have M1 := Lib.hid m1; clear m1 C1)
  have P1 := Lib.hid (H0.out.grown M1.out.grown (by omega))
  have G1 := Lib.hid (grown_trans G0.out M1.out.grown)
  refine (wordYes w1 b s (k + 1) i M1.out.rd hs (by omega) HI.out).mono ?_
  rintro e w2 ⟨rfl, m2⟩
  have M2 := Lib.hid m2
  clear m2
  have P2 := Lib.hid (P1.out.grown M2.out.grown (by omega))
  have G2 := Lib.hid (grown_trans G1.out M2.out.grown)
  have d2 := P2.out.c0
  have x2 := P2.out.f0
  go_wp2_with fail
  have R2 := Lib.hid (M2.out.rd.other ⟨w.heap.size, 0, none⟩ (.string (s.extract (k + 1) i)) (Nat.ne_of_lt hbw))
  have Q2 := Lib.hid (P2.out.set0 (s.extract (k + 1) i))
  have K2 := Lib.hid (grown_set G2.out ⟨w.heap.size, 0, none⟩ (.string (s.extract (k + 1) i)) (Or.inr (Nat.le_refl _)))
  clear d2 x2
  refine (passNo _ b s i 61 R2.out hs his (by intro e; exact H61.out (by omega))).mono ?_
  rintro e w3 ⟨rfl, m3⟩
  have M3 := Lib.hid m3
  clear m3
  have P3 := Lib.hid (Q2.out.grown M3.out.grown (by omega))
  have G3 := Lib.hid (grown_trans K2.out M3.out.grown)
  have c30 := P3.out.c0
  have c31 := P3.out.c1
  have f30 := P3.out.f0
  have f31 := P3.out.f1
  go_wp2_with fail
  refine bodyPost_ret (v := .tuple #[.agg #[.string (s.extract (k + 1) i), .string ⟨#[]⟩], .bool false]) (by simp [results, Tryz.results166, go_sem, c30, c31]) rfl ?_
  exact ⟨_, _, ⟨rfl, grown_set (grown_set (G3.out) _ _ (Or.inr (Nat.le_refl _))) _ _ (Or.inr (Nat.le_refl _)), ((M3.out.rd).other _ _ (by simp; omega)).other _ _ (by simp; omega)⟩⟩
theorem tagNo3 (w : World) (b : Nat) (s : ByteArray) (k i : Nat) (h : Rd w b s k) (hs : s.size ≤ 300) (hk : k ≤ s.size) (h44 : chr s k = 44) (hi : wordAt s (k + 1) = some i) (h61 : chr s i = 61) (hj : wordAt s (i + 1) = none) :
    Calls Tryz.prog 166 #[.pointer (some ⟨b, 0, none⟩)] w (TagFails w b s (i + 1)) := by
  have hi1 : i < s.size := chr_lt_size (by omega)
  have HI := Lib.hid hi
  have HJ := Lib.hid hj
  have H61 := Lib.hid h61
  clear hi hj h61
  have hk1 : k < s.size := chr_lt_size (by omega)
  have hbw := h.lt
  have h0 : Pr (w.alloc (.cells #[.string ⟨#[]⟩, .string ⟨#[]⟩] 198)) w.heap.size ⟨#[]⟩ ⟨#[]⟩ := heap_alloc_new w _
  have C1 := Lib.hid (passYes _ b s k 44 (h.alloc (.cells #[.string ⟨#[]⟩, .string ⟨#[]⟩] 198)) hs hk1 (by rw [h44]; rfl))
  have g0 : w.grownBy (w.alloc (.cells #[.string ⟨#[]⟩, .string ⟨#[]⟩] 198)) (some b) := World.grownBy_alloc _ _ _
  have H0 := Lib.hid h0
  have G0 := Lib.hid g0
  clear h0 g0 h44
  go_enter Tryz.func166, Tryz.ntmps166
  go_wp2_with ((go_at_call 158; refine C1.out.mono ?_); rintro e w1 ⟨rfl, m1⟩; have M1 := Lib.hid m1; clear m1 C1)
  have P1 := Lib.hid (H0.out.grown M1.out.grown (by omega))
  have G1 := Lib.hid (grown_trans G0.out M1.out.grown)
  refine (wordYes w1 b s (k + 1) i M1.out.rd hs (by omega) HI.out).mono ?_
  rintro e w2 ⟨rfl, m2⟩
  have M2 := Lib.hid m2
  clear m2
  have P2 := Lib.hid (P1.out.grown M2.out.grown (by omega))
  have G2 := Lib.hid (grown_trans G1.out M2.out.grown)
  have d2 := P2.out.c0
  have x2 := P2.out.f0
  go_wp2_with fail
  have R2 := Lib.hid (M2.out.rd.other ⟨w.heap.size, 0, none⟩ (.string (s.extract (k + 1) i)) (Nat.ne_of_lt hbw))
  have Q2 := Lib.hid (P2.out.set0 (s.extract (k + 1) i))
  have K2 := Lib.hid (grown_set G2.out ⟨w.heap.size, 0, none⟩ (.string (s.extract (k + 1) i)) (Or.inr (Nat.le_refl _)))
  clear d2 x2
  refine (passYes _ b s i 61 R2.out hs hi1 (by rw [H61.out]; rfl)).mono ?_
  rintro e w3 ⟨rfl, m3⟩
  have M3 := Lib.hid m3
  clear m3
  have P3 := Lib.hid (Q2.out.grown M3.out.grown (by omega))
  have G3 := Lib.hid (grown_trans K2.out M3.out.grown)
  go_wp2_with fail
  refine (wordNo w3 b s (i + 1) M3.out.rd hs (by omega) HJ.out).mono ?_
  rintro e w4 ⟨rfl, m4⟩
  have M4 := Lib.hid m4
  clear m4
  have P4 := Lib.hid (P3.out.grown M4.out.grown (by omega))
  have G4 := Lib.hid (grown_trans G3.out M4.out.grown)
  have d4 := P4.out.c1
  have x4 := P4.out.f1
  have c40 := P4.out.c0
  have c41 := P4.out.c1
  have f40 := P4.out.f0
  have f41 := P4.out.f1
  go_wp2_with fail
  refine bodyPost_ret (v := .tuple #[.agg #[.string (s.extract (k + 1) i), .string ⟨#[]⟩], .bool false]) (by simp [results, Tryz.results166, go_sem, c40, c41]) rfl ?_
  exact ⟨_, _, ⟨rfl, grown_set (grown_set (grown_set (G4.out) _ _ (Or.inr (Nat.le_refl _))) _ _ (Or.inr (Nat.le_refl _))) _ _ (Or.inr (Nat.le_refl _)), (((M4.out.rd).other _ _ (by simp; omega)).other _ _ (by simp; omega)).other _ _ (by simp; omega)⟩⟩
end Go.Proofs.YtgeahpfdaehjaaaGreatDoor
namespace Go.Proofs.YtgeahpfdaehjaaaGreatDoor
open Go.ChangeShapes Go.WideShapes Go.ChangeAt Go.RowKit
set_option linter.unusedVariables false

def tagCells (ts : Tags) : List Value := ts.flatMap fun t => [.string t.1, .string t.2]
theorem tagCells_length (ts : Tags) : (tagCells ts).length = ts.length * 2 := by
  induction ts with
  | nil => rfl
  | cons t r ih => simp only [tagCells, List.flatMap_cons, List.length_append, List.length_cons, List.length_nil] at ih ⊢; omega
theorem tagCells_snoc (ts : Tags) (x y : ByteArray) : tagCells (ts ++ [(x, y)]) = tagCells ts ++ [.string x, .string y] := by
  simp [tagCells]

/-- Tags in a row of one's own, behind so many blocks. -/
def OwnT (w : World) (base : Nat) (A : Option Addr) (cap : Nat) (ts : Tags) : Prop :=
  w.ownsRow base 198 2 (.slice A ts.length cap) ts.length (tagCells ts)
theorem OwnT.nil (w : World) (base : Nat) : OwnT w base none 0 [] := World.ownsRow_nil w base _ 2
theorem OwnT.kept {w w' : World} {base : Nat} {A : Option Addr} {cap : Nat} {ts : Tags} {b : Nat} (h : OwnT w base A cap ts) (hg : w.grownBy w' (some b)) (hb : b < base) : OwnT w' base A cap ts := by
  refine World.ownsRow.kept h hg ?_
  cases hv : (Value.slice A ts.length cap).ownBlock with
  | none => exact .inl rfl
  | some g =>
    have := (World.ownsRow.lt h g hv).1
    exact .inr (fun e => by cases e; omega)
theorem OwnT.alloc {w : World} {base : Nat} {A : Option Addr} {cap : Nat} {ts : Tags} (h : OwnT w base A cap ts) (o : Obj) : OwnT (w.alloc o) base A cap ts := World.ownsRow.alloc h o
theorem OwnT.mono {w : World} {base base' : Nat} {A : Option Addr} {cap : Nat} {ts : Tags} (h : OwnT w base A cap ts) (hb : base' ≤ base) : OwnT w base' A cap ts := by
  refine ⟨h.1, ?_⟩
  rcases h.2 with hn | ⟨g, cap, cur, hv, hg, r⟩
  · exact .inl hn
  · exact .inr ⟨g, cap, cur, hv, Nat.le_trans hb hg, r⟩

theorem infoT : (Tryz.prog.info? 198).map (fun i => (i.zero, i.size, i.bytes)) = some (some (.agg #[.string ⟨#[]⟩, .string ⟨#[]⟩]), 2, 32) := by kernel_rfl

theorem append_tag {w : World} {base : Nat} {A : Option Addr} {cap : Nat} {ts : Tags} (x y : ByteArray) (h : OwnT w base A cap ts) (hb : base ≤ w.heap.size) (hl : ts.length ≤ 100) :
    ∃ A' cap' w', (Builtin.append_ #[152, 152] 152 #[.slice A ts.length cap, .slice (some ⟨w.heap.size, 0, none⟩) 1 1]).run Tryz.prog (w.alloc (.cells #[.string x, .string y] 198)) = .ok (.slice A' (ts.length + 1) cap') w' ∧
      OwnT w' base A' cap' (ts ++ [(x, y)]) ∧ Below base w w' := by
  cases hi : Tryz.prog.info? 198 with
  | none => have := infoT; rw [hi] at this; cases this
  | some i =>
    have hI := infoT
    rw [hi] at hI
    simp only [Option.map_some, Option.some.injEq, Prod.mk.injEq] at hI
    obtain ⟨hz, hz1, hz2⟩ := hI
    obtain ⟨v', w', hrun, hown, hgr, hnil⟩ := run_append_own (P := Tryz.prog) (w.alloc (.cells #[.string x, .string y] 198)) base 152 152 198 i _ 2 32 Tryz.underlying152 hi hz hz1 hz2 rfl (by omega) _ _ _ (h.alloc _) ⟨w.heap.size, 0, none⟩ 1 1 [.string x, .string y] rfl
      (fun j u hu => by
        match j, hu with
        | 0, hu => cases hu; simp [Addr.add]
        | 1, hu => cases hu; simp [Addr.add])
      (fun u hu => by
        simp only [List.mem_cons, List.not_mem_nil, or_false] at hu
        rcases hu with rfl | rfl <;> rfl)
      (by unfold maxLen; omega) (by omega) (by simp; omega)
    have hb0 : Below base w (w.alloc (.cells #[.string x, .string y] 198)) := (Below.refl _ _).alloc hb _
    have hb1 : Below base w w' := hb0.trans ⟨hgr.os, hgr.tape, hgr.output, hgr.size, fun k hk => hgr.block k (by simp; omega) (fun e => by
      have := (World.ownsRow.lt h k e.symm).1
      omega)⟩
    rcases hown.2 with ⟨e, hn0⟩ | ⟨g', cap', cur, rfl, r⟩
    · omega
    · refine ⟨_, _, w', hrun, ?_, hb1⟩
      unfold OwnT
      rw [List.length_append, tagCells_snoc]
      exact hown

def TagsOk (w : World) (b : Nat) (s : ByteArray) (k : Nat) (ts : Tags) (e : Ending) (w' : World) : Prop :=
  ∃ A cap, e = .returned (.tuple #[.slice A ts.length cap, .bool true]) ∧ Mv w b s k w' ∧ OwnT w' w.heap.size A cap ts
def TagsBad (w : World) (b : Nat) (s : ByteArray) (k : Nat) (e : Ending) (w' : World) : Prop :=
  e = .returned (.tuple #[.slice none 0 0, .bool false]) ∧ Mv w b s k w'
def TagsPost (w : World) (b : Nat) (s : ByteArray) (r : TRes) (e : Ending) (w' : World) : Prop :=
  match r with
  | .bad k => TagsBad w b s k e w'
  | .good k ts => if chr s k = 32 then TagsOk w b s k ts e w' else TagsBad w b s k e w'

theorem wpList_append_if {P : Program} {w w' : World} {ops : Array Oper} {rest : List Oper} {o : Oper} {a : Act} {Q : Exit → Act → World → Prop} (hgd : Region.wanted o (yielded ops a.tmps) = true) (s x : Operand) (t : TypeId)
    (ho : o.op = .call { callee := .builtin .append, args := #[s, x], argTypes := #[t, t] }) (vs vx v' : Value) (hs : a.eval s = vs) (hx : a.eval x = vx)
    (hrun : (Builtin.append_ #[t, t] o.type #[vs, vx]).run P w = .ok v' w') (h : wpList P ops Q rest (a.put o.dst v') w') : wpList P ops Q (o :: rest) a w := by
  refine wpList_step fun K hK => ?_
  rw [if_pos hgd]
  unfold Oper.wp
  simp [execOp, ho, resolve, invoke, builtin, hs, hx, hrun, Result.andThen]
  exact hK _ _ h

/-- Where the reading of tags stands. -/
structure AtTags (w : World) (b : Nat) (s : ByteArray) (k0 g k : Nat) (acc : Tags) (A : Option Addr) (cap : Nat) (wr : World) : Prop where
  len : acc.length + g = 6
  eq : tagsFrom s 6 k0 [] = tagsFrom s g k acc
  own : OwnT wr w.heap.size A cap acc
  mv : Mv w b s k wr
  le : k ≤ s.size

theorem chr_ne {s : ByteArray} {k : Nat} {c : Nat} (h : chr s k ≠ c) (d : Int) (hd : d = (c : Int)) : ((chr s k : Int) == d) = false := by
  rw [beq_eq_false_iff_ne]; omega
theorem chr_eq {s : ByteArray} {k : Nat} {c : Nat} (h : chr s k = c) (d : Int) (hd : d = (c : Int)) : ((chr s k : Int) == d) = true := by
  rw [beq_iff_eq]; omega

set_option maxHeartbeats 1000000 in
theorem readTags (w : World) (b : Nat) (s : ByteArray) (k0 : Nat) (h : Rd w b s k0) (hs : s.size ≤ 300) (hk : k0 ≤ s.size) :
    Calls Tryz.prog 157 #[.pointer (some ⟨b, 0, none⟩)] w (TagsPost w b s (tagsFrom s 6 k0 [])) := by
  have hbw := h.lt
  have A0 := Lib.hid (show AtTags w b s k0 6 k0 [] none 0 w from ⟨rfl, rfl, OwnT.nil _ _, ⟨grown_refl _ _, h⟩, hk⟩)
  clear h
  go_enter Tryz.func157, Tryz.ntmps157
  go_wp2
  go_step3
  go_wp2
  go_step3
  go_wp2
  go_loopg [4] 6 (fun g s4 wx => ∃ k acc A cap, s4 = .slice A (List.length acc) cap ∧ Hid (AtTags w b s k0 g k acc A cap wx))
  case atStart => exact ⟨k0, [], none, 0, rfl, A0⟩
  case round =>
    clear A0
    obtain ⟨k, acc, A, cap, rfl, HA⟩ := hrel
    have hks := HA.out.le
    have hlen := HA.out.len
    have C := Lib.hid (readNext wr b s k HA.out.mv.rd hs hks)
    by_cases h32 : chr s k = 32
    · have HP : Hid (∀ e w', TagsOk w b s k acc e w' → TagsPost w b s (tagsFrom s 6 k0 []) e w') := Lib.hid (fun e w' hp => by
        rw [HA.out.eq]
        have e1 : tagsFrom s gk k acc = .good k acc := by cases gk <;> simp [tagsFrom, h32]
        rw [e1]
        unfold TagsPost
        simp only [h32, if_true]
        exact hp)
      have e32 := chr_eq h32 32 rfl
      have e44 := chr_ne (show chr s k ≠ 44 by omega) 44 rfl
      clear h32
      go_wp2_with ((go_at_call 165; refine C.out.mono ?_); rintro e w' ⟨rfl, n, rfl⟩)
      rw [Exit.noGoto_ret]
      go_ret2
      exact HP.out _ _ ⟨A, cap, rfl, HA.out.mv.drew n, HA.out.own⟩
    by_cases h44 : chr s k = 44
    · have e32 := chr_ne h32 32 rfl
      have e44 := chr_eq h44 44 rfl
      clear h32
      have H44 := Lib.hid h44
      clear h44
      cases gk with
      | zero =>
        have HP : Hid (∀ e w', TagsBad w b s k e w' → TagsPost w b s (tagsFrom s 6 k0 []) e w') := Lib.hid (fun e w' hp => by
          rw [HA.out.eq]
          have e1 : tagsFrom s 0 k acc = .bad k := by simp [tagsFrom, H44.out]
          rw [e1]
          exact hp)
        have e6 : ((acc.length : Int) == 6) = true := by rw [beq_iff_eq]; omega
        go_wp2_with ((go_at_call 165; refine C.out.mono ?_); rintro e w' ⟨rfl, n, rfl⟩)
        rw [Exit.noGoto_ret]
        go_ret2
        exact HP.out _ _ ⟨rfl, HA.out.mv.drew n⟩
      | succ g =>
        have e6 : ((acc.length : Int) == 6) = false := by rw [beq_eq_false_iff_ne]; omega
        have HT : Hid (∀ X : TRes, (match wordAt s (k + 1) with | none => .bad (k + 1) | some i => if chr s i = 61 then (match wordAt s (i + 1) with | none => .bad (i + 1) | some j => tagsFrom s g j (acc ++ [(s.extract (k + 1) i, s.extract (i + 1) j)])) else .bad i) = X → tagsFrom s 6 k0 [] = X) := Lib.hid (fun X hX => by
          rw [HA.out.eq, ← hX]
          simp only [tagsFrom, H44.out, if_true] <;> rfl)
        go_wp2_with ((go_at_call 165; refine C.out.mono ?_); rintro e w' ⟨rfl, n, rfl⟩)
        have R1 := Lib.hid (HA.out.mv.rd.drew n)
        have M1 := Lib.hid (HA.out.mv.drew n)
        rcases hi : wordAt s (k + 1) with _ | i
        · rw [hi] at HT
          have hX := HT.out _ rfl
          have HX := Lib.hid hX
          have HI := Lib.hid hi
          clear hX hi HT
          refine (tagNo1 _ b s k R1.out hs hks H44.out HI.out).mono ?_
          rintro e w2 ⟨x, y, rfl, m2⟩
          have M2 := Lib.hid m2
          clear m2
          go_wp2_with fail
          rw [Exit.noGoto_ret]
          go_ret2
          rw [HX.out]
          exact ⟨rfl, (M1.out.trans M2.out).alloc _⟩
        rw [hi] at HT
        have HI := Lib.hid hi
        clear hi
        by_cases h61 : chr s i = 61
        · rcases hj : wordAt s (i + 1) with _ | j
          · have hX := HT.out (.bad (i + 1)) (by simp only [h61, if_true, hj])
            have HX := Lib.hid hX
            have HJ := Lib.hid hj
            have H61 := Lib.hid h61
            clear hX hj h61 HT
            refine (tagNo3 _ b s k i R1.out hs hks H44.out HI.out H61.out HJ.out).mono ?_
            rintro e w2 ⟨x, y, rfl, m2⟩
            have M2 := Lib.hid m2
            clear m2
            go_wp2_with fail
            rw [Exit.noGoto_ret]
            go_ret2
            rw [HX.out]
            exact ⟨rfl, (M1.out.trans M2.out).alloc _⟩
          · have hX := HT.out (tagsFrom s g j (acc ++ [(s.extract (k + 1) i, s.extract (i + 1) j)])) (by simp only [h61, if_true, hj])
            have HX := Lib.hid hX
            have HJ := Lib.hid hj
            have H61 := Lib.hid h61
            have hjs : j ≤ s.size := (wordAt_le (by have := chr_lt_size (s := s) (k := i) (by omega); omega) hj).2
            clear hX hj h61 HT
            refine (tagYes _ b s k i j R1.out hs hks H44.out HI.out H61.out HJ.out).mono ?_
            rintro e w2 ⟨rfl, m2⟩
            have M2 := Lib.hid (M1.out.trans m2)
            have O2 := Lib.hid ((HA.out.own.kept (w' := w2) (b := b) (grown_trans (grown_drew (grown_refl _ _) n) m2.grown) hbw).alloc (.cells #[.string (s.extract (k + 1) i), .string (s.extract (i + 1) j)] 198))
            clear m2
            have hw2 : w.heap.size ≤ w2.heap.size := M2.out.grown.size
            obtain ⟨A', cap', w3, r3, o3, b3⟩ := append_tag (s.extract (k + 1) i) (s.extract (i + 1) j) O2.out (by simp; omega) (by omega)
            simp only [World.size_alloc] at r3
            have HR3 := Lib.hid r3
            have HO3 := Lib.hid o3
            have HB3 := Lib.hid b3
            clear r3 o3 b3
            go_wp2_with (at_builtin; refine wpList_append_if rfl (.tmp 23) (.tmp 25) 152 rfl _ _ _ rfl rfl HR3.out ?_)
            go_roundg g
            case rel =>
              refine ⟨j, acc ++ [(s.extract (k + 1) i, s.extract (i + 1) j)], A', cap', by rw [List.length_append]; rfl, Lib.hid ⟨by rw [List.length_append]; simp; omega, HX.out, HO3.out, ?_, hjs⟩⟩
              exact (M2.out.alloc _).below HB3.out hbw
            case measure => omega
        · have hX := HT.out (.bad i) (by simp only [h61, if_false])
          have HX := Lib.hid hX
          have H61 := Lib.hid h61
          clear hX h61 HT
          refine (tagNo2 _ b s k i R1.out hs hks H44.out HI.out H61.out).mono ?_
          rintro e w2 ⟨x, y, rfl, m2⟩
          have M2 := Lib.hid m2
          clear m2
          go_wp2_with fail
          rw [Exit.noGoto_ret]
          go_ret2
          rw [HX.out]
          exact ⟨rfl, (M1.out.trans M2.out).alloc _⟩
    · have HP : Hid (∀ e w', TagsBad w b s k e w' → TagsPost w b s (tagsFrom s 6 k0 []) e w') := Lib.hid (fun e w' hp => by
        rw [HA.out.eq]
        have e1 : tagsFrom s gk k acc = .good k acc := by cases gk <;> simp [tagsFrom, h44]
        rw [e1]
        unfold TagsPost
        simp only [h32, if_false]
        exact hp)
      have e32 := chr_ne h32 32 rfl
      have e44 := chr_ne h44 44 rfl
      clear h32 h44
      go_wp2_with ((go_at_call 165; refine C.out.mono ?_); rintro e w' ⟨rfl, n, rfl⟩)
      rw [Exit.noGoto_ret]
      go_ret2
      exact HP.out _ _ ⟨rfl, HA.out.mv.drew n⟩
end Go.Proofs.YtgeahpfdaehjaaaGreatDoor
namespace Go.Proofs.YtgeahpfdaehjaaaGreatDoor
open Go.RowKit
set_option linter.unusedVariables false

structure Laid (w : World) : Prop where
  es : ∃ tp p, w.var? Tryz.prog "strconv.ErrSyntax" = some #[.iface tp p]
  er : ∃ tp p, w.var? Tryz.prog "strconv.ErrRange" = some #[.iface tp p]
  tab : Lib.TabIs Tryz.prog w "internal/strconv.uint64pow10" .u64 Lib.pow10Tab
  n : 6 ≤ w.heap.size

theorem gES : Tryz.prog.globalNamed "strconv.ErrSyntax" = some 1 := by kernel_rfl
theorem gER : Tryz.prog.globalNamed "strconv.ErrRange" = some 2 := by kernel_rfl
theorem gTab : Tryz.prog.globalNamed "internal/strconv.uint64pow10" = some 3 := by kernel_rfl
theorem var_block {w w' : World} {nm : String} {g : Nat} (hg : Tryz.prog.globalNamed nm = some g) (h : w'.heap[g]? = w.heap[g]?) : w'.var? Tryz.prog nm = w.var? Tryz.prog nm := by
  unfold World.var?
  rw [hg]
  simp only [Option.bind_some]
  rw [h]
theorem Laid.keep {w w' : World} (h : Laid w) (hk : ∀ k, k < 6 → w'.heap[k]? = w.heap[k]?) (hn : w.heap.size ≤ w'.heap.size) : Laid w' where
  es := by rw [var_block gES (hk _ (by decide))]; exact h.es
  er := by rw [var_block gER (hk _ (by decide))]; exact h.er
  tab := by unfold Lib.TabIs; rw [var_block gTab (hk _ (by decide))]; exact h.tab
  n := Nat.le_trans h.n hn
theorem Laid.grown {w w' : World} {r : Option Nat} (h : Laid w) (g : w.grownBy w' r) (hr : ∀ b, r = some b → 6 ≤ b) : Laid w' :=
  h.keep (fun k hk => g.block k (by have := h.n; omega) (fun e => by have := hr k e.symm; omega)) g.size
theorem Laid.below {w w' : World} (h : Laid w) (g : Below w.heap.size w w') : Laid w' :=
  h.keep (fun k hk => g.block k (by have := h.n; omega)) g.size
theorem Laid.mv {w w' : World} {b : Nat} {s : ByteArray} {k : Nat} (h : Laid w) (g : Mv w b s k w') (hb : 6 ≤ b) : Laid w' := h.grown g.grown (fun x e => by cases e; exact hb)
theorem Laid.alloc {w : World} (h : Laid w) (o : Obj) : Laid (w.alloc o) := h.grown (World.grownBy_alloc _ _ none) (by simp)
theorem Laid.drew {w : World} (h : Laid w) (n : Nat) : Laid (w.drewN n) := h.keep (fun _ _ => rfl) (Nat.le_refl _)
theorem Laid.set {w : World} (h : Laid w) (a : Addr) (v : Value) (ha : 6 ≤ a.block) : Laid (w.setCell a v) :=
  h.keep (fun k hk => heap_set_other (by omega)) (by rw [World.size_setCell]; exact Nat.le_refl _)
end Go.Proofs.YtgeahpfdaehjaaaGreatDoor
namespace Go.Proofs.YtgeahpfdaehjaaaGreatDoor
open Go.ChangeShapes Go.WideShapes Go.ChangeAt Go.RowKit
set_option linter.unusedVariables false

theorem parseIntB_bd {l : List UInt8} {v : Int} (h : Lib.parseIntB 64 l = .ok v) : -9223372036854775808 ≤ v ∧ v ≤ 9223372036854775807 := by
  unfold Lib.parseIntB at h
  split at h
  · cases h
  · simp only at h
    split at h
    · cases h
    · cases h
    · rename_i u hu
      split at h
      · cases h
      · split at h
        · cases h
        · rename_i h1 h2
          injection h with h
          subst h
          split
          · rename_i hn
            simp only [hn, not_true_eq_false, false_and, not_false_eq_true, true_and, Nat.not_lt] at h1 h2
            have : (2 : Nat) ^ (64 - 1) = 9223372036854775808 := by decide
            omega
          · rename_i hn
            simp only [hn, not_false_eq_true, true_and, Nat.not_le] at h1 h2
            have : (2 : Nat) ^ (64 - 1) = 9223372036854775808 := by decide
            omega

def POk (v : Int) (w : World) (e : Ending) (w' : World) : Prop := e = .returned (.tuple #[.int .i64 v, .nilIface]) ∧ Below w.heap.size w w'
theorem parseOk (s : ByteArray) (v : Int) (w : World) (hs : s.size ≤ 300) (h : Lib.parseIntB 64 s.data.toList = .ok v) :
    Calls Tryz.prog 169 #[.string s, .int .i64 10, .int .i64 64] w (POk v w) :=
  (Tryz.strconv_ParseInt_10_at64_ok s (by omega) v h w).mono fun e w' ⟨he, hw⟩ => ⟨he, by
    rcases hw with rfl | ⟨t, rfl⟩
    · exact Below.refl _ _
    · exact Lib.bytesWorld_below _ _ _⟩
def PErr (w : World) (e : Ending) (w' : World) : Prop := ∃ x N, e = .returned (.tuple #[.int .i64 x, .iface 250 (.pointer (some ⟨N, 0, none⟩))]) ∧ Below w.heap.size w w'
theorem parseErr (s : ByteArray) (w : World) (hL : Laid w) (hs : s.size ≤ 300) (h : ∀ v, Lib.parseIntB 64 s.data.toList ≠ .ok v) :
    Calls Tryz.prog 169 #[.string s, .int .i64 10, .int .i64 64] w (PErr w) := by
  rcases hp : Lib.parseIntB 64 s.data.toList with v | _ | _
  · exact absurd hp (h v)
  · obtain ⟨tp, p, hv⟩ := hL.es
    exact (Any.strconv_ParseInt_10_at64_syntax_var Tryz.laysC174 s (by omega) hp tp p w hv).mono fun e w' ⟨N, he, _, _, hb⟩ => ⟨_, N, he, hb⟩
  · obtain ⟨tp, p, hv⟩ := hL.er
    exact (Tryz.strconv_ParseInt_10_at64_range_var s (by omega) hp tp p w hv).mono fun e w' ⟨N, he, _, _, hb⟩ => ⟨_, N, he, hb⟩
def Strs (t : ByteArray) (w : World) (e : Ending) (w' : World) : Prop := e = .returned (.string t) ∧ Below w.heap.size w w'
theorem formatInt (n : Int) (w : World) (hL : Laid w) (h0 : -9223372036854775808 ≤ n) (h1 : n ≤ 9223372036854775807) :
    Calls Tryz.prog 170 #[.int .i64 n, .int .i64 10] w (Strs ⟨(Lib.itoa n).toArray⟩ w) :=
  (Tryz.strconv_FormatInt_10 n h0 h1 w hL.tab).mono fun e w' ⟨he, k, os, hw⟩ => ⟨he, by rw [hw]; exact Lib.below_grow _ _ (Nat.le_refl _) _ _⟩

theorem ba_ext {x y : ByteArray} (h : x.data.toList = y.data.toList) : x = y := by
  cases x; cases y; simp only [ByteArray.mk.injEq]; exact Array.ext' h

theorem ba_ne {x y : ByteArray} (h : x ≠ y) : x.toList ≠ y.toList := fun e => h (ba_ext (by rw [← Lib.toList_data, ← Lib.toList_data]; exact e))

/-- What a text of digits comes to, by the library. -/
inductive NumIs (t : ByteArray) (lo hi : Int) : Option Int → Prop where
  | err : (∀ v, Lib.parseIntB 64 t.data.toList ≠ .ok v) → NumIs t lo hi none
  | low (v : Int) : Lib.parseIntB 64 t.data.toList = .ok v → v < lo → NumIs t lo hi none
  | high (v : Int) : Lib.parseIntB 64 t.data.toList = .ok v → lo ≤ v → hi < v → NumIs t lo hi none
  | odd (v : Int) : Lib.parseIntB 64 t.data.toList = .ok v → lo ≤ v → v ≤ hi → (⟨(Lib.itoa v).toArray⟩ : ByteArray) ≠ t → NumIs t lo hi none
  | ok (v : Int) : Lib.parseIntB 64 t.data.toList = .ok v → lo ≤ v → v ≤ hi → (⟨(Lib.itoa v).toArray⟩ : ByteArray) = t → NumIs t lo hi (some v)
theorem numIs (s : ByteArray) (k : Nat) (lo hi : Int) : NumIs (s.extract k (numEnd s k)) lo hi (numAt s k lo hi) := by
  generalize ht : s.extract k (numEnd s k) = t
  unfold numAt
  rw [ht]
  unfold valOf
  rcases hp : Lib.parseIntB 64 t.data.toList with v | _ | _
  rotate_left
  · exact .err (by rw [hp]; intro v h; cases h)
  · exact .err (by rw [hp]; intro v h; cases h)
  · simp only
    have hi' : (⟨(Lib.itoa v).toArray⟩ : ByteArray) = t ↔ Lib.itoa v = t.data.toList := ⟨fun h => by rw [← h], fun h => ba_ext (by simpa using h)⟩
    by_cases he : Lib.itoa v = t.data.toList
    · rw [if_pos he]
      simp only
      by_cases hr : lo ≤ v ∧ v ≤ hi
      · rw [if_pos hr]
        exact .ok v hp hr.1 hr.2 (hi'.2 he)
      · rw [if_neg hr]
        by_cases h1 : v < lo
        · exact .low v hp h1
        · exact .high v hp (by omega) (by omega)
    · rw [if_neg he]
      by_cases h1 : v < lo
      · exact .low v hp h1
      by_cases h2 : hi < v
      · exact .high v hp (by omega) h2
      · exact .odd v hp (by omega) (by omega) (fun h => he (hi'.1 h))

def NumOk (v : Int) (y : Bool) (w : World) (b : Nat) (s : ByteArray) (k : Nat) (e : Ending) (w' : World) : Prop := e = .returned (.tuple #[.int .i64 v, .bool y]) ∧ Mv w b s k w'
def NumPost (w : World) (b : Nat) (s : ByteArray) (k j : Nat) (r : Option Int) (e : Ending) (w' : World) : Prop :=
  match r with
  | some v => NumOk v true w b s j e w'
  | none => NumOk 0 false w b s k e w'

/-- What follows the loop: the digits from k to m. -/
theorem numEnd_le {s : ByteArray} {k : Nat} (h : k ≤ s.size) : k ≤ numEnd s k ∧ numEnd s k ≤ s.size := by
  unfold numEnd
  split
  · rename_i hc
    have := chr_lt_size (s := s) (k := k) (by omega)
    have := runEnd_ge isD s (k + 1)
    exact ⟨by omega, runEnd_le (by omega)⟩
  · exact ⟨runEnd_ge _ _ _, runEnd_le h⟩

set_option maxHeartbeats 2000000 in
theorem readNum (w : World) (b : Nat) (s : ByteArray) (k : Nat) (lo hi : Int) (h : Rd w b s k) (hL : Laid w) (hb7 : 6 ≤ b) (hs : s.size ≤ 300) (hk : k ≤ s.size)
    (l0 : -9223372036854775808 ≤ lo) (l1 : lo ≤ 9223372036854775807) (h0 : -9223372036854775808 ≤ hi) (h1 : hi ≤ 9223372036854775807) :
    Calls Tryz.prog 160 #[.pointer (some ⟨b, 0, none⟩), .int .i64 lo, .int .i64 hi] w (NumPost w b s k (numEnd s k) (numAt s k lo hi)) := by
  have hN := numIs s k lo hi
  obtain ⟨hkj, hjs⟩ := numEnd_le hk
  obtain ⟨j, hj⟩ : ∃ j, j = numEnd s k := ⟨_, rfl⟩
  rw [← hj] at hN hkj hjs ⊢
  have C := Lib.hid (readNext w b s k h hs hk)
  have HR := Lib.hid h
  have HJ := Lib.hid hj
  have HN := Lib.hid hN
  have HL := Lib.hid hL
  clear h hj hN hL
  have c0 := HR.out.c0
  have c1 := HR.out.c1
  have f1 := HR.out.f1
  obtain ⟨y, k1, e45, hk1, hk1s, ha1⟩ : ∃ y k1, ((chr s k : Int) == 45) = y ∧ k1 = (if y = true then k + 1 else k) ∧ k1 ≤ s.size ∧ runEnd isD s k1 = j := by
    by_cases h45 : chr s k = 45
    · refine ⟨true, k + 1, ?_, rfl, ?_, ?_⟩
      · rw [beq_iff_eq]; omega
      · have := chr_lt_size (s := s) (k := k) (by omega); omega
      · rw [HJ.out, numEnd, if_pos h45]
    · refine ⟨false, k, ?_, rfl, hk, ?_⟩
      · rw [beq_eq_false_iff_ne]; omega
      · rw [HJ.out, numEnd, if_neg h45]
  have HA1 := Lib.hid ha1
  clear ha1 HJ
  generalize chr s k = x at C e45
  generalize numAt s k lo hi = r at HN ⊢
  cases y
  all_goals
    simp only [Bool.false_eq_true, if_false, if_true] at hk1
    go_enter Tryz.func160, Tryz.ntmps160
    go_wp2_with ((go_at_call 165; refine C.out.mono ?_); rintro e w' ⟨rfl, n, rfl⟩)
    clear C e45
    go_loop [8] (fun i => ∃ m : Nat, k ≤ m ∧ m ≤ s.size ∧ i = .int .i64 m ∧ Hid (runEnd isD s m = j)) (fun i => s.size - (intOf i).toNat)
    case atStart => exact ⟨k1, by omega, hk1s, by subst hk1; first | rfl | go_num, HA1⟩
    case round =>
      clear hk1 HA1
      obtain ⟨m, hkm, hm, rfl, HA⟩ := hrel
      by_cases hgo : ∃ hlt : m < s.size, isD s[m] = true
      · obtain ⟨hlt, hb⟩ := hgo
        go_wp2_with ((go_at_call 168; refine (lineIsDigit _ _).mono ?_); rintro e w' ⟨rfl, rfl⟩)
        go_round
        case rel => exact ⟨m + 1, by omega, by omega, by go_num, Lib.hid ((runEnd_step hlt hb).symm.trans HA.out)⟩
        case measure => simp [intOf]; omega
      · have hex : s.size ≤ m ∨ ∃ hlt : m < s.size, isD s[m] = false := by
          rcases Nat.lt_or_ge m s.size with hlt | hge
          · exact .inr ⟨hlt, by cases hb : isD s[m] with | false => rfl | true => exact absurd ⟨hlt, hb⟩ hgo⟩
          · exact .inl hge
        clear hgo
        have hmj : m = j := by
          rcases hex with hge | ⟨hlt, hb⟩
          · rw [← HA.out, runEnd_end hge]
          · rw [← HA.out, runEnd_stop hlt hb]
        subst hmj
        have hts : (s.extract k m).size ≤ 300 := by rw [extract_size s k m hm]; omega
        have hr : ∃ r', r = r' ∧ NumIs (s.extract k m) lo hi r' := ⟨r, rfl, HN.out⟩
        obtain ⟨r', hr, hn⟩ := hr
        subst hr
        clear HN
        have fin : ∀ (e : Ending) (w' : World), NumOk 0 false w b s k e w' → NumPost w b s k m none e w' := fun e w' h => h
        have fin2 : ∀ (v : Int) (e : Ending) (w' : World), NumOk v true w b s m e w' → NumPost w b s k m (some v) e w' := fun v e w' h => h
        have FIN := Lib.hid fin
        have FIN2 := Lib.hid fin2
        clear fin fin2
        rcases hex with hge | ⟨hlt, hb⟩
        all_goals
          go_wp2_with ((go_at_call 168; refine (lineIsDigit _ _).mono ?_); rintro e w' ⟨rfl, rfl⟩)
          go_quiet (fail)
          go_wp2_with fail
          cases hn with
          | err hp =>
            have HP := Lib.hid hp
            clear hp
            refine (parseErr _ _ (HL.out.drew _) hts HP.out).mono ?_
            rintro e w2 ⟨x2, N2, rfl, b2⟩
            have B2 := Lib.hid b2
            clear b2
            go_wp2_with fail
            go_ret2
            exact FIN.out _ _ ⟨rfl, grown_of_below (grown_drew (grown_refl _ _) _) B2.out (Nat.le_refl _), Rd.below (HR.out.drew _) B2.out⟩
          | low v hp hv =>
            obtain ⟨v0, v1⟩ := parseIntB_bd hp
            have HP := Lib.hid hp
            clear hp
            refine (parseOk _ v _ hts HP.out).mono ?_
            rintro e w2 ⟨rfl, b2⟩
            have B2 := Lib.hid b2
            clear b2
            go_wp2_with fail
            go_ret2
            exact FIN.out _ _ ⟨rfl, grown_of_below (grown_drew (grown_refl _ _) _) B2.out (Nat.le_refl _), Rd.below (HR.out.drew _) B2.out⟩
          | high v hp hv hv2 =>
            obtain ⟨v0, v1⟩ := parseIntB_bd hp
            have HP := Lib.hid hp
            clear hp
            refine (parseOk _ v _ hts HP.out).mono ?_
            rintro e w2 ⟨rfl, b2⟩
            have B2 := Lib.hid b2
            clear b2
            have i1 : decide (v < lo) = false := decide_eq_false (by omega)
            go_wp2_with fail
            go_ret2
            exact FIN.out _ _ ⟨rfl, grown_of_below (grown_drew (grown_refl _ _) _) B2.out (Nat.le_refl _), Rd.below (HR.out.drew _) B2.out⟩
          | odd v hp hv hv2 hne =>
            obtain ⟨v0, v1⟩ := parseIntB_bd hp
            have HP := Lib.hid hp
            clear hp
            refine (parseOk _ v _ hts HP.out).mono ?_
            rintro e w2 ⟨rfl, b2⟩
            have B2 := Lib.hid b2
            clear b2
            have i1 : decide (v < lo) = false := decide_eq_false (by omega)
            have i2 : decide (hi < v) = false := decide_eq_false (by omega)
            have j1 : ((⟨(Lib.itoa v).toArray⟩ : ByteArray).toList == (s.extract k m).toList) = false := beq_eq_false_iff_ne.2 (ba_ne hne)
            have j2 : ((⟨(Lib.itoa v).toArray⟩ : ByteArray).toList != (s.extract k m).toList) = true := bne_iff_ne.2 (ba_ne hne)
            clear hne
            have CF := Lib.hid (formatInt v w2 ((HL.out.drew _).below B2.out) v0 v1)
            generalize (⟨(Lib.itoa v).toArray⟩ : ByteArray) = t at CF j1 j2
            go_wp2_with fail
            refine CF.out.mono ?_
            rintro e w3 ⟨rfl, b3⟩
            have B3 := Lib.hid b3
            clear b3
            go_wp2_with fail
            go_ret2
            exact FIN.out _ _ ⟨rfl, grown_of_below (grown_of_below (grown_drew (grown_refl _ _) _) B2.out (Nat.le_refl _)) B3.out B2.out.size, Rd.below (Rd.below (HR.out.drew _) B2.out) B3.out⟩
          | ok v hp hv hv2 he =>
            obtain ⟨v0, v1⟩ := parseIntB_bd hp
            have HP := Lib.hid hp
            clear hp
            refine (parseOk _ v _ hts HP.out).mono ?_
            rintro e w2 ⟨rfl, b2⟩
            have B2 := Lib.hid b2
            clear b2
            have i1 : decide (v < lo) = false := decide_eq_false (by omega)
            have i2 : decide (hi < v) = false := decide_eq_false (by omega)
            have CF := Lib.hid (formatInt v w2 ((HL.out.drew _).below B2.out) v0 v1)
            rw [he] at CF
            clear he
            go_wp2_with fail
            refine CF.out.mono ?_
            rintro e w3 ⟨rfl, b3⟩
            have B3 := Lib.hid b3
            clear b3
            have R3 := Lib.hid (Rd.below (Rd.below (HR.out.drew _) B2.out) B3.out)
            have k1 := R3.out.c1
            have g1 := R3.out.f1
            go_wp2_with fail
            go_ret2
            exact FIN2.out v _ _ ⟨rfl, grown_set (grown_of_below (grown_of_below (grown_drew (grown_refl _ _) _) B2.out (Nat.le_refl _)) B3.out B2.out.size) _ _ (Or.inl rfl), R3.out.set m⟩
end Go.Proofs.YtgeahpfdaehjaaaGreatDoor
