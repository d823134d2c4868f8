/-
  Layer 6 (wire): put, Number, Whole, Text: rows of bytes of their own.
-/
import Derived.Test.YtgohgmihoggcpaaWireBase
import Derived.Deep.LoopGhost
import Derived.Laws.BitsAllLaws
namespace Go.Proofs.Ytgohgmihoggcpaa
open Go.ChangeShapes Go.WideShapes Go.ChangeAt Go.RowKit
set_option linter.unusedVariables false

theorem or_fin : ∀ x : Fin 256, x.val ||| 128 = x.val % 128 + 128 := by decide +kernel
theorem or_byte (m : Nat) : bits .or .u8 ((m : Int) % 256) 128 = ((m % 128 + 128 : Nat) : Int) := by
  rw [u8_or _ _ (by omega) (by omega) (by omega) (by omega)]
  have h := or_fin ⟨m % 256, by omega⟩
  simp only at h
  rw [show ((m : Int) % 256).toNat = m % 256 by omega, show (128 : Int).toNat = 128 from rfl, h]
  omega
theorem ob_byte {w : World} {B : Nat} {v : Value} {l : List UInt8} (h : OB w B v l) (x : UInt8) (c : Int) (hc : ((x.toNat : Nat) : Int) = c) (hl : l.length ≤ 100000) (hB : B ≤ w.heap.size) :
    ∃ v' w', (Builtin.append_ #[32, 32] 32 #[v, .slice (some ⟨w.heap.size, 0, none⟩) 1 1]).run Try.prog (w.alloc (.cells #[.int .u8 c] 5)) = .ok v' w' ∧ OB w' B v' (l ++ [x]) ∧ Gr B w w' := by
  subst hc
  exact ob_lit h [x] (by simp; omega) hB

structure PutAt (w : World) (B : Nat) (all : List UInt8) (acc : List UInt8) (n : Nat) (v : Value) (wr : World) : Prop where
  own : OB wr B v acc
  all : acc ++ enc n = all
  below : Below B w wr
set_option maxRecDepth 100000 in
theorem wirePut (B : Nat) (v : Value) (l : List UInt8) (n : Nat) (w : World) (ho : OB w B v l) (hB : B ≤ w.heap.size) (hl : l.length ≤ 10000) (hn : n < 18446744073709551616) :
    Calls Try.prog 37 #[v, .int .u64 (n : Nat)] w (Bytes B (l ++ enc n) w) := by
  have G0 := Lib.hid (PutAt.mk ho rfl (Below.refl B w) : PutAt w B (l ++ enc n) l n v w)
  have hle := enc_length n hn
  have hp := enc_pos n
  have hall : (l ++ enc n).length ≤ 10010 := by rw [List.length_append]; omega
  have HB := Lib.hid hB
  clear ho hB
  go_enter Try.func37, Try.ntmps37
  go_wp2
  go_loopg [0, 1] ((enc n).length - 1) (fun g s0 s1 wx => ∃ (m : Nat) (acc : List UInt8), m < 18446744073709551616 ∧ (enc m).length = g + 1 ∧ s1 = .int .u64 (m : Nat) ∧ Hid (PutAt w B (l ++ enc n) acc m s0 wx))
  case atStart => exact ⟨n, l, hn, by omega, rfl, G0⟩
  case round =>
    clear G0 hp hle hn hl
    obtain ⟨m, acc, hm, hlen, rfl, HG⟩ := hrel
    have hac : acc.length ≤ 10010 := by
      have := congrArg List.length HG.out.all
      rw [List.length_append] at this
      omega
    clear hall
    cases gk with
    | zero =>
      have hsm : m < 128 := by
        rcases Nat.lt_or_ge m 128 with h | h
        · exact h
        · rw [enc_great h] at hlen
          have := enc_pos (m / 128)
          rw [List.length_cons] at hlen
          omega
      obtain ⟨v2, w2, r2, o2, g2⟩ := ob_byte HG.out.own m.toUInt8 (m : Int) (by rw [byte_toNat (by omega)]) (by omega) (Nat.le_trans HB.out HG.out.below.size)
      have R2 := Lib.hid r2
      have O2 := Lib.hid (show OB w2 B v2 (l ++ enc n) from by have := HG.out.all; rw [enc_small hsm] at this; rw [← this]; exact o2)
      have B2 := Lib.hid (HG.out.below.trans g2.below)
      clear r2 o2 g2 hlen
      go_wp2_with (at_builtin; refine wpList_append_two rfl (.tmp 15) (.tmp 18) 32 32 rfl _ _ _ rfl rfl R2.out ?_)
      go_ret
      exact ⟨_, rfl, O2.out, B2.out⟩
    | succ g =>
      have hgr : 128 ≤ m := by
        rcases Nat.lt_or_ge m 128 with h | h
        · rw [enc_small h] at hlen
          simp at hlen
        · exact h
      obtain ⟨v2, w2, r2, o2, g2⟩ := ob_byte HG.out.own (m % 128 + 128).toUInt8 (bits .or .u8 ((m : Int) % 256) 128) (by rw [byte_toNat (by omega), or_byte]) (by omega) (Nat.le_trans HB.out HG.out.below.size)
      have R2 := Lib.hid r2
      have HA : Hid (PutAt w B (l ++ enc n) (acc ++ [(m % 128 + 128).toUInt8]) (m / 128) v2 w2) := Lib.hid ⟨o2, by rw [List.append_assoc, List.singleton_append, ← enc_great hgr]; exact HG.out.all, HG.out.below.trans g2.below⟩
      have hlen2 : (enc (m / 128)).length = g + 1 := by rw [enc_great hgr, List.length_cons] at hlen; omega
      have HL := Lib.hid hlen2
      clear r2 o2 g2 hlen hlen2
      go_wp2_with (at_builtin; refine wpList_append_two rfl (.tmp 7) (.tmp 11) 32 32 rfl _ _ _ rfl rfl R2.out ?_)
      go_roundg g
      case rel => exact ⟨m / 128, _, by omega, HL.out, by rw [Int.natCast_ediv]; rfl, HA⟩
      case measure => omega
theorem wireTextL (A : Option Addr) (cap : Nat) (l : List UInt8) (s : ByteArray) (w : World) (hr : RdS w A cap l) (hl : l.length ≤ 4000) (hs : s.size ≤ 4200) :
    Calls Try.prog 27 #[.slice A l.length cap, .string s] w (Bytes w.heap.size (l ++ encT s) w) := by
  have C := Lib.hid (wireCopy A cap l (10 + s.size) w hr (by omega) (by omega))
  have hc : ((10 + s.size : Nat) : Int) = 10 + (s.size : Int) := by omega
  rw [hc] at C
  clear hr hc
  go_enter Try.func27, Try.ntmps27
  go_wp2_with fail
  refine C.out.mono ?_
  rintro e w1 ⟨v1, rfl, o1, b1⟩
  have P := Lib.hid (wirePut w.heap.size v1 l s.size w1 o1 b1.size (by omega) (by omega))
  have B1 := Lib.hid b1
  have hz1 := b1.size
  clear o1 b1 C
  go_wp2_with fail
  refine P.out.mono ?_
  rintro e w2 ⟨v2, rfl, o2, b2⟩
  have he := enc_length s.size (by omega)
  obtain ⟨v3, w3, r3, o3, g3⟩ := ob_str o2 s (by rw [List.length_append]; omega) (Nat.le_trans hz1 b2.size)
  have R3 := Lib.hid r3
  have O : Hid (OB w3 w.heap.size v3 (l ++ encT s)) := Lib.hid (by unfold encT; rw [← List.append_assoc]; exact o3)
  have B2 := Lib.hid ((B1.out.trans b2).trans g3.below)
  clear o2 b2 r3 o3 g3 he
  go_wp2_with (at_builtin; refine wpList_append_two rfl (.tmp 13) (.tmp 14) 32 9 rfl _ _ _ rfl rfl R3.out ?_)
  go_ret
  exact ⟨_, rfl, O.out, B2.out⟩
theorem wireText (A : Option Addr) (cap : Nat) (l : List UInt8) (s : ByteArray) (w : World) (hr : RdS w A cap l) (hl : l.length ≤ 4000) (hs : s.size ≤ 2000) :
    Calls Try.prog 27 #[.slice A l.length cap, .string s] w (Bytes w.heap.size (l ++ encT s) w) :=
  wireTextL A cap l s w hr hl (by omega)
end Go.Proofs.Ytgohgmihoggcpaa
