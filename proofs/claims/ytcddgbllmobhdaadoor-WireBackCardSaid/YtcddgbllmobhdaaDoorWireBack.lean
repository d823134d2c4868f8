/-
  The law WireBack (layer 6), walked: what was written is read as it was, to the end.
-/
import Derived.Test.YtcddgbllmobhdaaDoorWireUp
import Derived.Test.YtcddgbllmobhdaaDoorWireText
namespace Go.Proofs.YtcddgbllmobhdaaDoor
open Go.ChangeShapes Go.WideShapes Go.ChangeAt Go.RowKit
set_option linter.unusedVariables false

theorem rs_num (pre : List UInt8) (n : Nat) (rest : List UInt8) (hn : n < 18446744073709551616) :
    rsNum (pre ++ (enc n ++ rest)) ⟨pre.length, false⟩ = (n, ⟨(pre ++ enc n).length, false⟩) := by
  unfold rsNum
  simp only
  rw [List.drop_left, dec_enc n 0 0 rest (by omega) (by simpa using hn) (by omega), List.length_append]
  simp
theorem rs_text (pre : List UInt8) (s : ByteArray) (rest : List UInt8) (hs : s.size ≤ 2000) :
    rsText (pre ++ (encT s ++ rest)) s.size ⟨pre.length, false⟩ = (s.data.toList, ⟨(pre ++ encT s).length, false⟩) := by
  have hl : s.data.toList.length = s.size := by simp
  have h1 := rsText_ok (pre ++ (encT s ++ rest)) ⟨pre.length, false⟩ s.size (n := s.size) (k := (enc s.size).length) rfl (by
    unfold encT
    rw [List.drop_left, List.append_assoc, dec_enc s.size 0 0 _ (by omega) (by omega) (by omega)]
    congr 1
    refine Prod.ext ?_ ?_
    · simp
    · simp)
  rw [h1]
  have e2 : pre.length + (enc s.size).length = (pre ++ enc s.size).length := by rw [List.length_append]
  have e3 : pre ++ (encT s ++ rest) = (pre ++ enc s.size) ++ (s.data.toList ++ rest) := by unfold encT; simp only [List.append_assoc]
  have e4 : pre ++ encT s = (pre ++ enc s.size) ++ s.data.toList := by unfold encT; simp only [List.append_assoc]
  simp only
  rw [e2, e3, e4]
  generalize pre ++ enc s.size = q
  rw [if_neg (by simp only [List.length_append, hl]; omega), List.drop_left]
  have e5 : (s.data.toList ++ rest).take s.size = s.data.toList := by
    have : (s.data.toList ++ rest).take s.data.toList.length = s.data.toList := List.take_left
    rw [hl] at this
    exact this
  rw [e5, List.length_append, hl]
theorem text_back (s : ByteArray) : (⟨s.data.toList.toArray⟩ : ByteArray) = s := by simp

structure Wrote (n : Nat) (f : Nat) (s : ByteArray) (m : Nat) (l : List UInt8) : Prop where
  eq : l = enc n ++ enc f ++ encT s ++ enc m
theorem wrote_reads {n f : Nat} {s : ByteArray} {m : Nat} {l : List UInt8} (h : Wrote n f s m l) (hn : n < 18446744073709551616) (hf : f < 18446744073709551616) (hs : s.size ≤ 2000) (hm : m < 18446744073709551616) :
    ∃ k1 k2 k3 k4, rsNum l ⟨0, false⟩ = (n, ⟨k1, false⟩) ∧ rsNum l ⟨k1, false⟩ = (f, ⟨k2, false⟩) ∧ rsText l s.size ⟨k2, false⟩ = (s.data.toList, ⟨k3, false⟩) ∧ rsNum l ⟨k3, false⟩ = (m, ⟨k4, false⟩) ∧ rsEnd l ⟨k4, false⟩ = none := by
  obtain ⟨rfl⟩ := h
  refine ⟨(enc n).length, (enc n ++ enc f).length, (enc n ++ enc f ++ encT s).length, (enc n ++ enc f ++ encT s ++ enc m).length, ?_, ?_, ?_, ?_, ?_⟩
  · have := rs_num [] n (enc f ++ encT s ++ enc m) hn
    simpa [List.append_assoc] using this
  · have := rs_num (enc n) f (encT s ++ enc m) hf
    simpa [List.append_assoc] using this
  · have := rs_text (enc n ++ enc f) s (enc m) hs
    simpa [List.append_assoc] using this
  · have := rs_num (enc n ++ enc f ++ encT s) m [] hm
    simpa [List.append_assoc] using this
  · unfold rsEnd
    rw [if_pos ⟨rfl, rfl⟩]

set_option maxRecDepth 100000 in
theorem wireBack_walk (n : Nat) (z : Int) (s : ByteArray) (m : Nat) (W : World) (hL : Laid W) (hn : n < 18446744073709551616) (z0 : -9223372036854775808 ≤ z) (z1 : z ≤ 9223372036854775807)
    (hs : s.size ≤ 9223372036854775807) (hm : m < 18446744073709551616) :
    Calls Tryd.prog 5 #[.int .u64 (n : Nat), .int .i64 z, .string s, .int .u64 (m : Nat)] W (Holds W) := by
  have CU := Lib.hid (up_wire W hL)
  clear hL
  by_cases h2 : 2000 < s.size
  · have hz : (2000 : Int) < (s.size : Int) := by omega
    go_enter Tryd.func5, Tryd.ntmps5
    go_wp2_with ((go_at_call 6; refine CU.out.mono ?_); rintro e w1 ⟨rfl, hb⟩)
    go_ret
    exact ⟨rfl, hb⟩
  · have hz : ¬ (2000 : Int) < (s.size : Int) := by omega
    have hle1 := enc_length n hn
    have hle2 := enc_length (foldN z) (fold_lt z0 z1)
    have hle3 := enc_length s.size (by omega)
    have hle4 := enc_length m hm
    have hlt : (encT s).length ≤ 2010 := by
      have : s.data.toList.length = s.size := by simp
      unfold encT; rw [List.length_append]; omega
    have HN := Lib.hid hn
    have HM := Lib.hid hm
    clear hn hm
    go_enter Tryd.func5, Tryd.ntmps5
    go_wp2_with fail
    refine CU.out.mono ?_
    rintro e w1 ⟨rfl, b1⟩
    have B1 := Lib.hid b1
    have C1 := Lib.hid (wireNumber none 0 [] n w1 (RdS.nil w1) (by simp) HN.out)
    clear b1 CU
    go_wp2_with fail
    refine C1.out.mono ?_
    rintro e w2 ⟨v2, rfl, o2, b2⟩
    generalize hl2 : [] ++ enc n = L2 at o2
    have HL2 := Lib.hid hl2
    have hz2 : L2.length ≤ 10 := by rw [← hl2]; simpa using hle1
    obtain ⟨A2, c2, rfl, rd2⟩ := o2.rd
    have B2 := Lib.hid (B1.out.trans (b2.mono B1.out.size))
    have C2 := Lib.hid (wireWhole A2 c2 L2 z w2 rd2 (by omega) z0 z1)
    clear o2 b2 rd2 C1 hl2
    go_wp2_with fail
    refine C2.out.mono ?_
    rintro e w3 ⟨v3, rfl, o3, b3⟩
    generalize hl3 : L2 ++ enc (foldN z) = L3 at o3
    have HL3 := Lib.hid hl3
    have hz3 : L3.length ≤ 20 := by rw [← hl3, List.length_append]; omega
    obtain ⟨A3, c3, rfl, rd3⟩ := o3.rd
    have B3 := Lib.hid (B2.out.trans (b3.mono B2.out.size))
    have C3 := Lib.hid (wireText A3 c3 L3 s w3 rd3 (by omega) (by omega))
    clear o3 b3 rd3 C2 hl3
    go_wp2_with fail
    refine C3.out.mono ?_
    rintro e w4 ⟨v4, rfl, o4, b4⟩
    generalize hl4 : L3 ++ encT s = L4 at o4
    have HL4 := Lib.hid hl4
    have hz4 : L4.length ≤ 2040 := by rw [← hl4, List.length_append]; omega
    obtain ⟨A4, c4, rfl, rd4⟩ := o4.rd
    have B4 := Lib.hid (B3.out.trans (b4.mono B3.out.size))
    have C4 := Lib.hid (wireNumber A4 c4 L4 m w4 rd4 (by omega) HM.out)
    clear o4 b4 rd4 C3 hl4
    go_wp2_with fail
    refine C4.out.mono ?_
    rintro e w5 ⟨v5, rfl, o5, b5⟩
    generalize hl5 : L4 ++ enc m = L5 at o5
    have hz5 : L5.length ≤ 3000 := by rw [← hl5, List.length_append]; omega
    have hW : Wrote n (foldN z) s m L5 := ⟨by rw [← hl5, ← HL4.out, ← HL3.out, ← HL2.out, List.nil_append]⟩
    obtain ⟨k1, k2, k3, k4, e1, e2, e3, e4, e5⟩ := wrote_reads hW HN.out (fold_lt z0 z1) (by omega) HM.out
    have E1 := Lib.hid e1
    have E2 := Lib.hid e2
    have E3 := Lib.hid e3
    have E4 := Lib.hid e4
    have E5 := Lib.hid e5
    obtain ⟨A5, c5, rfl, rd5⟩ := o5.rd
    have B5 := Lib.hid (B4.out.trans (b5.mono B4.out.size))
    have C5 := Lib.hid (wireRead w5 A5 c5 L5 rd5)
    clear o5 b5 rd5 C4 hl5 hW e1 e2 e3 e4 e5 HL2 HL3 HL4 hle1 hle2 hle3 hle4 hlt
    go_wp2_with fail
    refine C5.out.mono ?_
    rintro e w6 ⟨rfl, b6, r6⟩
    have B6 := Lib.hid (B5.out.trans (b6.mono B5.out.size))
    have hbb : W.heap.size ≤ w5.heap.size := B5.out.size
    have C6 := wireReadNumber w6 w5.heap.size A5 c5 L5 ⟨0, false⟩ r6 (by omega)
    unfold Nums at C6
    rw [E1.out] at C6
    have C6 := Lib.hid C6
    clear b6 r6 C5
    go_wp2_with fail
    refine C6.out.mono ?_
    rintro e w7 ⟨rfl, m7⟩
    have B7 := Lib.hid (m7.below B6.out hbb)
    have C7 := wireReadWhole w7 w5.heap.size A5 c5 L5 ⟨k1, false⟩ m7.rdr (by omega)
    unfold Wholes at C7
    rw [E2.out, unfold_fold] at C7
    have C7 := Lib.hid C7
    clear m7 C6
    go_wp2_with fail
    refine C7.out.mono ?_
    rintro e w8 ⟨rfl, m8⟩
    have B8 := Lib.hid (m8.below B7.out hbb)
    have C8 := wireReadText w8 w5.heap.size A5 c5 L5 ⟨k2, false⟩ (s.size : Int) m8.rdr (by omega) (by omega) (by omega)
    unfold Texts at C8
    rw [E3.out, text_back] at C8
    have C8 := Lib.hid C8
    clear m8 C7
    go_wp2_with fail
    refine C8.out.mono ?_
    rintro e w9 ⟨rfl, m9⟩
    have B9 := Lib.hid (m9.below B8.out hbb)
    have C9 := wireReadNumber w9 w5.heap.size A5 c5 L5 ⟨k3, false⟩ m9.rdr (by omega)
    unfold Nums at C9
    rw [E4.out] at C9
    have C9 := Lib.hid C9
    clear m9 C8
    go_wp2_with fail
    refine C9.out.mono ?_
    rintro e w10 ⟨rfl, m10⟩
    have B10 := Lib.hid (m10.below B9.out hbb)
    have C10 := wireEnd w10 w5.heap.size A5 c5 L5 ⟨k4, false⟩ m10.rdr (by omega)
    rw [E5.out] at C10
    have C10 := Lib.hid C10
    clear m10 C9
    go_wp2_with fail
    refine C10.out.mono ?_
    rintro e w11 ⟨rfl, b11⟩
    have B11 := Lib.hid (B10.out.trans (b11.mono B10.out.size))
    clear b11 C10
    go_wp2_with fail
    go_ret
    exact ⟨rfl, B11.out⟩
end Go.Proofs.YtcddgbllmobhdaaDoor
