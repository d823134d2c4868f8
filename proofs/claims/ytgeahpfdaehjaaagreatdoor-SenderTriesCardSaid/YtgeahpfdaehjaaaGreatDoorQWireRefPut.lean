/-
  Layer 6 (wire): the document's own Number, Whole, Text: rows of bytes.
-/
import Derived.Test.YtgeahpfdaehjaaaGreatDoorGrpA
namespace Go.Proofs.YtgeahpfdaehjaaaGreatDoor
open Go.ChangeShapes Go.WideShapes Go.ChangeAt Go.RowKit
set_option linter.unusedVariables false

theorem ob_one (w : World) (B : Nat) (x : UInt8) (c : Int) (hc : ((x.toNat : Nat) : Int) = c) (hB : B ≤ w.heap.size) :
    OB (w.alloc (.cells #[.int .u8 c] 5)) B (.slice (some ⟨w.heap.size, 0, none⟩) 1 1) [x] := by
  subst hc
  have h := World.ownsRow_lit (base := B) (e := 5) (size := 1) w #[.int .u8 ((x.toNat : Nat) : Int)] 1 hB (by unfold maxLen; omega) (by simp)
  exact h
set_option maxRecDepth 100000 in
theorem refNumber (n : Nat) : ∀ (w : World) (B : Nat), n < 18446744073709551616 → B ≤ w.heap.size →
    Calls Tryz.prog 60 #[.int .u64 (n : Nat)] w (Bytes B (enc n) w) := by
  induction n using Nat.strongRecOn with
  | ind n ih =>
    intro w B hn hB
    rcases Nat.lt_or_ge n 128 with h | h
    · have O := Lib.hid (ob_one w B n.toUInt8 (n : Int) (by rw [byte_toNat (by omega)]) hB)
      have B0 := Lib.hid ((Below.refl B w).alloc hB (.cells #[.int .u8 (n : Int)] 5))
      rw [← enc_small h] at O
      clear ih hB
      go_enter Tryz.func60, Tryz.ntmps60
      go_wp2
      go_ret
      exact ⟨_, rfl, O.out, B0.out⟩
    · have O := Lib.hid (ob_one w B (n % 128 + 128).toUInt8 ((n : Int) % 128 + 128) (by rw [byte_toNat (by omega)]; omega) hB)
      have B0 := Lib.hid ((Below.refl B w).alloc hB (.cells #[.int .u8 ((n : Int) % 128 + 128)] 5))
      have I : Hid (Calls Tryz.prog 60 #[.int .u64 ((n : Int) / 128)] (w.alloc (.cells #[.int .u8 ((n : Int) % 128 + 128)] 5)) (Bytes (w.heap.size + 1) (enc (n / 128)) (w.alloc (.cells #[.int .u8 ((n : Int) % 128 + 128)] 5)))) :=
        Lib.hid (by
          have := ih (n / 128) (by omega) (w.alloc (.cells #[.int .u8 ((n : Int) % 128 + 128)] 5)) (w.heap.size + 1) (by omega) (by simp)
          rw [Int.natCast_ediv] at this
          exact this)
      have HE := Lib.hid (enc_great h)
      have hle := enc_length (n / 128) (by omega)
      clear ih
      go_enter Tryz.func60, Tryz.ntmps60
      go_wp2_with fail
      refine I.out.mono ?_
      rintro e w1 ⟨v1, rfl, o1, b1⟩
      obtain ⟨A1, c1, rfl, rd1⟩ := o1.rd
      have hk : OB w1 B (.slice (some ⟨w.heap.size, 0, none⟩) 1 1) [(n % 128 + 128).toUInt8] := by
        refine World.ownsRow.kept (row := none) O.out ⟨b1.os, b1.tape, b1.output, Nat.le_trans (by simp) b1.size, fun k hk _ => b1.block k (by simpa using hk)⟩ (Or.inr (by simp [Value.ownBlock]))
      have hB1 : B ≤ w1.heap.size := by have := b1.size; simp at this; omega
      obtain ⟨v2, w2, r2, o2, g2⟩ := ob_row hk rd1 (by simp only [List.length_cons, List.length_nil]; omega) hB1
      have R2 := Lib.hid r2
      have O2 : Hid (OB w2 B v2 (enc n)) := Lib.hid (by rw [HE.out]; exact o2)
      have B2 := Lib.hid ((B0.out.trans (b1.mono (by omega))).trans g2.below)
      clear r2 o2 g2 hk o1 rd1 b1 hle
      go_wp2_with (at_builtin; refine wpList_append_two rfl (.tmp 12) (.tmp 15) 64 64 rfl _ _ _ rfl rfl R2.out ?_)
      go_ret
      exact ⟨_, rfl, O2.out, B2.out⟩
theorem refWhole (n : Int) (w : World) (B : Nat) (hB : B ≤ w.heap.size) (h0 : -9223372036854775808 ≤ n) (h1 : n ≤ 9223372036854775807) :
    Calls Tryz.prog 62 #[.int .i64 n] w (Bytes B (enc (foldN n)) w) := by
  have C := refNumber (foldN n) w B (fold_lt h0 h1) hB
  by_cases h : n < 0
  · rw [show ((foldN n : Nat) : Int) = 2 * (-1 - n) + 1 by rw [fold_neg h]; omega] at C
    have C := Lib.hid C
    clear hB
    go_enter Tryz.func62, Tryz.ntmps62
    go_wp2_with ((go_at_call 60; refine C.out.mono ?_); rintro e w' ⟨v1, rfl, hO⟩)
    go_ret
    exact ⟨_, rfl, hO⟩
  · rw [show ((foldN n : Nat) : Int) = 2 * n by rw [fold_pos h]; omega] at C
    have C := Lib.hid C
    clear hB
    go_enter Tryz.func62, Tryz.ntmps62
    go_wp2_with ((go_at_call 60; refine C.out.mono ?_); rintro e w' ⟨v1, rfl, hO⟩)
    go_ret
    exact ⟨_, rfl, hO⟩
theorem refText (s : ByteArray) (w : World) (B : Nat) (hB : B ≤ w.heap.size) (hs : s.size ≤ 2000) :
    Calls Tryz.prog 61 #[.string s] w (Bytes B (encT s) w) := by
  have C := Lib.hid (refNumber s.size w B (by omega) hB)
  have hle := enc_length s.size (by omega)
  have HB := Lib.hid hB
  clear hB
  go_enter Tryz.func61, Tryz.ntmps61
  go_wp2_with fail
  refine C.out.mono ?_
  rintro e w1 ⟨v1, rfl, o1, b1⟩
  obtain ⟨cap, w2, r2, rd2, b2⟩ := str_row w1 s (by omega)
  have hl : s.data.toList.length = s.size := by simp
  have hB1 := Nat.le_trans HB.out b1.size
  obtain ⟨v3, w3, r3, o3, g3⟩ := ob_row (o1.below b2) rd2 (by rw [hl]; omega) (Nat.le_trans hB1 b2.size)
  rw [hl] at r3
  have R3 := Lib.hid r3
  have O : Hid (OB w3 B v3 (encT s)) := Lib.hid o3
  have B3 := Lib.hid ((b1.trans (b2.mono hB1)).trans g3.below)
  clear r3 o3 g3 o1 b1 rd2 b2 hle C hl hB1
  go_wp2_with (at_builtin; refine wpList_append_two rfl (.tmp 6) (.tmp 8) 64 64 rfl _ _ _ rfl rfl R3.out ?_)
  go_ret
  exact ⟨_, rfl, O.out, B3.out⟩
end Go.Proofs.YtgeahpfdaehjaaaGreatDoor
