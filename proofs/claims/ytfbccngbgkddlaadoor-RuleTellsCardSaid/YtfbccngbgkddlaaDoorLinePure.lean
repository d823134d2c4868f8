/-
  Layer 4 (line), what is of no program: words, numbers, and how a line is read.
-/
import Derived.Lib.ParseIntB
import Derived.Lib.ItoaNum
namespace Go.Proofs.YtfbccngbgkddlaaDoor

def inW (c : UInt8) : Bool := decide (97 ≤ c.toNat ∧ c.toNat ≤ 122) || decide (48 ≤ c.toNat ∧ c.toNat ≤ 57) || decide (c.toNat = 95) || decide (c.toNat = 46)
def isD (c : UInt8) : Bool := decide (48 ≤ c.toNat ∧ c.toNat ≤ 57)

/-- How far bytes of a kind go on from a place. -/
def runEnd (p : UInt8 → Bool) (s : ByteArray) (k : Nat) : Nat := k + ((s.data.toList.drop k).takeWhile p).length
theorem drop_at (s : ByteArray) (k : Nat) (h : k < s.size) : s.data.toList.drop k = s[k] :: s.data.toList.drop (k + 1) :=
  List.drop_eq_getElem_cons (by simpa using h)
theorem runEnd_step {p : UInt8 → Bool} {s : ByteArray} {k : Nat} (h : k < s.size) (hp : p s[k] = true) : runEnd p s k = runEnd p s (k + 1) := by
  unfold runEnd
  rw [drop_at s k h, List.takeWhile_cons, if_pos hp, List.length_cons]
  omega
theorem runEnd_stop {p : UInt8 → Bool} {s : ByteArray} {k : Nat} (h : k < s.size) (hp : p s[k] = false) : runEnd p s k = k := by
  unfold runEnd
  rw [drop_at s k h, List.takeWhile_cons, if_neg (by simp [hp])]
  rfl
theorem runEnd_end {p : UInt8 → Bool} {s : ByteArray} {k : Nat} (h : s.size ≤ k) : runEnd p s k = k := by
  unfold runEnd
  rw [List.drop_eq_nil_of_le (by simpa using h)]
  rfl
theorem runEnd_ge (p : UInt8 → Bool) (s : ByteArray) (k : Nat) : k ≤ runEnd p s k := by unfold runEnd; omega
theorem takeWhile_le {α : Type} (p : α → Bool) : ∀ l : List α, (l.takeWhile p).length ≤ l.length
  | [] => by simp
  | a :: l => by
    rw [List.takeWhile_cons]
    split
    · simp; exact takeWhile_le p l
    · simp
theorem runEnd_le {p : UInt8 → Bool} {s : ByteArray} {k : Nat} (h : k ≤ s.size) : runEnd p s k ≤ s.size := by
  unfold runEnd
  have := takeWhile_le p (s.data.toList.drop k)
  rw [List.length_drop] at this
  have e : s.data.toList.length = s.size := by simp
  omega

def wordB (s : ByteArray) : Bool := s.data.toList.all inW && decide (1 ≤ s.size) && decide (s.size ≤ 16)
/-- The byte at a place, and 0 behind all. -/
def chr (s : ByteArray) (k : Nat) : Nat := if h : k < s.size then s[k].toNat else 0
theorem chr_in {s : ByteArray} {k : Nat} (h : k < s.size) : chr s k = s[k].toNat := by unfold chr; rw [dif_pos h]
theorem chr_out {s : ByteArray} {k : Nat} (h : s.size ≤ k) : chr s k = 0 := by unfold chr; rw [dif_neg (by omega)]
theorem chr_lt (s : ByteArray) (k : Nat) : chr s k < 256 := by
  unfold chr; split
  · exact UInt8.toNat_lt _
  · omega
theorem chr_lt_size {s : ByteArray} {k : Nat} (h : chr s k ≠ 0) : k < s.size := by
  rcases Nat.lt_or_ge k s.size with h1 | h1
  · exact h1
  · exact absurd (chr_out h1) h

/-- A word that begins at a place: where it ends. -/
def wordAt (s : ByteArray) (k : Nat) : Option Nat := if wordB (s.extract k (runEnd inW s k)) then some (runEnd inW s k) else none

abbrev Tags := List (ByteArray × ByteArray)
structure Ev where
  name : ByteArray
  tags : Tags
  kind : Int
  value : Int
  time : Int

inductive TRes where
  | bad (k : Nat)
  | good (k : Nat) (ts : Tags)
inductive Res where
  | bad (k : Nat)
  | good (e : Ev)

/-- Tags from a place on, of which so many may still come. -/
def tagsFrom (s : ByteArray) : Nat → Nat → Tags → TRes
  | 0, k, acc => if chr s k = 44 then .bad k else .good k acc
  | n + 1, k, acc =>
    if chr s k = 44 then
      match wordAt s (k + 1) with
      | none => .bad (k + 1)
      | some b =>
        if chr s b = 61 then
          match wordAt s (b + 1) with
          | none => .bad (b + 1)
          | some c => tagsFrom s n c (acc ++ [(s.extract (k + 1) b, s.extract (b + 1) c)])
        else .bad b
    else .good k acc

/-- The number of a text that is written in the one way. -/
def valOf (l : List UInt8) : Option Int :=
  match Lib.parseIntB 64 l with
  | .ok v => if Lib.itoa v = l then some v else none
  | _ => none
def numEnd (s : ByteArray) (k : Nat) : Nat := runEnd isD s (if chr s k = 45 then k + 1 else k)
def numAt (s : ByteArray) (k : Nat) (lo hi : Int) : Option Int :=
  match valOf (s.extract k (numEnd s k)).data.toList with
  | some v => if lo ≤ v ∧ v ≤ hi then some v else none
  | none => none
def kindOf (c : Nat) : Option Int := if c = 99 then some 1 else if c = 103 then some 2 else if c = 104 then some 3 else none

def parseEnd (s : ByteArray) (a : Nat) (ts : Tags) (k v : Int) (c : Nat) : Res :=
  if chr s c = 32 then
    match numAt s (c + 1) 0 1099511627776 with
    | none => .bad (c + 1)
    | some t => if numEnd s (c + 1) < s.size then .bad (numEnd s (c + 1)) else .good ⟨s.extract 0 a, ts, k, v, t⟩
  else .bad c
def parseNum (s : ByteArray) (a : Nat) (ts : Tags) (k : Int) (b : Nat) : Res :=
  if chr s b = 32 then
    match numAt s (b + 1) (-9223372036854775808) 9223372036854775807 with
    | none => .bad (b + 1)
    | some v => parseEnd s a ts k v (numEnd s (b + 1))
  else .bad b
def parseKind (s : ByteArray) (a : Nat) (ts : Tags) (b : Nat) : Res :=
  if chr s b = 32 then
    match kindOf (chr s (b + 1)) with
    | none => .bad (b + 1)
    | some k => parseNum s a ts k (b + 1 + 1)
  else .bad b
def parseTags (s : ByteArray) (a : Nat) : TRes → Res
  | .bad p => .bad p
  | .good b ts => parseKind s a ts b
/-- P4.2: the event of a text, or the byte where it can't go on. -/
def parseF (s : ByteArray) : Res :=
  match wordAt s 0 with
  | none => .bad 0
  | some a => parseTags s a (tagsFrom s 6 a [])

theorem wordAt_some {s : ByteArray} {k b : Nat} (h : wordAt s k = some b) : b = runEnd inW s k ∧ wordB (s.extract k b) = true := by
  unfold wordAt at h
  split at h
  · cases h; exact ⟨rfl, ‹_›⟩
  · cases h
theorem wordAt_le {s : ByteArray} {k b : Nat} (hk : k ≤ s.size) (h : wordAt s k = some b) : k ≤ b ∧ b ≤ s.size := by
  obtain ⟨rfl, _⟩ := wordAt_some h
  exact ⟨runEnd_ge _ _ _, runEnd_le hk⟩
theorem extract_list (s : ByteArray) (a b : Nat) : (s.extract a b).data.toList = (s.data.toList.drop a).take (b - a) := by
  rw [ByteArray.data_extract, Array.toList_extract]
end Go.Proofs.YtfbccngbgkddlaaDoor
