/-
  The law WireWrites (layer 6), walked.
-/
import Derived.Test.YtcddgbllmobhdaaDoorWireUp
import Derived.Test.YtcddgbllmobhdaaDoorWireRefPut
import Derived.Deep.RegionHeld
import Derived.Laws.Concat

namespace Go.Proofs.YtcddgbllmobhdaaDoor
open Go.ChangeShapes Go.WideShapes Go.ChangeAt Go.RowKit
set_option linter.unusedVariables false

theorem bytes_app (x y : List UInt8) : (⟨(x ++ y).toArray⟩ : ByteArray) = ⟨x.toArray⟩ ++ ⟨y.toArray⟩ := by
  apply ByteArray.ext
  simp [ByteArray.data_append]
/-- The five rows that the last test reads. -/
structure Five (w : World) (A2 : Option Addr) (c2 : Nat) (A : Option Addr) (c : Nat) (l : List UInt8) (A3 : Option Addr) (c3 : Nat) (l3 : List UInt8) (A4 : Option Addr) (c4 : Nat) (l4 : List UInt8) (A5 : Option Addr) (c5 : Nat) (l5 : List UInt8) : Prop where
  r2 : RdS w A2 c2 l
  r1 : RdS w A c l
  r3 : RdS w A3 c3 l3
  r4 : RdS w A4 c4 l4
  r5 : RdS w A5 c5 l5
theorem RdS.drew1 {w : World} {A : Option Addr} {cap : Nat} {l : List UInt8} (h : RdS w A cap l) : RdS w.drew A cap l := ⟨h.le, h.nn, h.rd⟩
section
variable {w w' : World} {A2 : Option Addr} {c2 : Nat} {A : Option Addr} {c : Nat} {l : List UInt8} {A3 : Option Addr} {c3 : Nat} {l3 : List UInt8} {A4 : Option Addr} {c4 : Nat} {l4 : List UInt8} {A5 : Option Addr} {c5 : Nat} {l5 : List UInt8} {t t3 t4 t5 : ByteArray}
theorem Five.below (h : Five w A2 c2 A c l A3 c3 l3 A4 c4 l4 A5 c5 l5) (hb : Below w.heap.size w w') : Five w' A2 c2 A c l A3 c3 l3 A4 c4 l4 A5 c5 l5 :=
  ⟨h.r2.below hb (Nat.le_refl _), h.r1.below hb (Nat.le_refl _), h.r3.below hb (Nat.le_refl _), h.r4.below hb (Nat.le_refl _), h.r5.below hb (Nat.le_refl _)⟩
theorem Five.drew1 (h : Five w A2 c2 A c l A3 c3 l3 A4 c4 l4 A5 c5 l5) : Five w.drew A2 c2 A c l A3 c3 l3 A4 c4 l4 A5 c5 l5 := ⟨h.r2.drew1, h.r1.drew1, h.r3.drew1, h.r4.drew1, h.r5.drew1⟩
theorem Five.says (h : Five w A2 c2 A c l A3 c3 l3 A4 c4 l4 A5 c5 l5) (e : (⟨l.toArray⟩ : ByteArray) = t) (e3 : (⟨l3.toArray⟩ : ByteArray) = t3) (e4 : (⟨l4.toArray⟩ : ByteArray) = t4) (e5 : (⟨l5.toArray⟩ : ByteArray) = t5) :
    (convert 22 9 (.slice A2 l.length c2)).run Tryd.prog w = .ok (.string t) w ∧ (convert 22 9 (.slice A l.length c)).run Tryd.prog w = .ok (.string t) w ∧
    (convert 22 9 (.slice A3 l3.length c3)).run Tryd.prog w = .ok (.string t3) w ∧ (convert 22 9 (.slice A4 l4.length c4)).run Tryd.prog w = .ok (.string t4) w ∧
    (convert 22 9 (.slice A5 l5.length c5)).run Tryd.prog w = .ok (.string t5) w ∧ Hid (Five w A2 c2 A c l A3 c3 l3 A4 c4 l4 A5 c5 l5) := by
  subst e
  subst e3
  subst e4
  subst e5
  exact ⟨rd_conv h.r2, rd_conv h.r1, rd_conv h.r3, rd_conv h.r4, rd_conv h.r5, Lib.hid h⟩
end
set_option maxHeartbeats 4000000 in
set_option maxRecDepth 100000 in
theorem wireWrites_walk (A : Option Addr) (cap : Nat) (l : List UInt8) (n : Nat) (z : Int) (s : ByteArray) (W : World) (hL : Laid W) (hr : RdS W A cap l) (hl : l.length ≤ 9223372036854775807)
    (hn : n < 18446744073709551616) (z0 : -9223372036854775808 ≤ z) (z1 : z ≤ 9223372036854775807) (hs : s.size ≤ 9223372036854775807) :
    Calls Tryd.prog 3 #[.slice A l.length cap, .int .u64 (n : Nat), .int .i64 z, .string s] W (Holds W) := by
  have CU := Lib.hid (up_wire W hL)
  clear hL
  by_cases h1 : 2000 < l.length
  · have hz : (2000 : Int) < (l.length : Int) := by omega
    go_enter Tryd.func3, Tryd.ntmps3
    go_wp2_with ((go_at_call 6; refine CU.out.mono ?_); rintro e w1 ⟨rfl, hb⟩)
    go_ret
    exact ⟨rfl, hb⟩
  by_cases h2 : 2000 < s.size
  · have hz1 : ¬ (2000 : Int) < (l.length : Int) := by omega
    have hz : (2000 : Int) < (s.size : Int) := by omega
    go_enter Tryd.func3, Tryd.ntmps3
    go_wp2_with ((go_at_call 6; refine CU.out.mono ?_); rintro e w1 ⟨rfl, hb⟩)
    go_ret
    exact ⟨rfl, hb⟩
  have hy1 : ¬ (2000 : Int) < (l.length : Int) := by omega
  have hy2 : ¬ (2000 : Int) < (s.size : Int) := by omega
  have HR := Lib.hid hr
  have HN := Lib.hid hn
  clear hr hn
  go_enter Tryd.func3, Tryd.ntmps3
  go_wp2_with fail
  refine CU.out.mono ?_
  rintro e w1 ⟨rfl, b1⟩
  have o1 : OB (w1.alloc (.cells #[] 5)) W.heap.size (.slice (some ⟨w1.heap.size, 0, none⟩) 0 0) [] := World.ownsRow_lit w1 #[] 0 b1.size (by simp) (by simp)
  have b1' := b1.alloc b1.size (.cells #[] 5)
  obtain ⟨v2, w2, r2, o2, g2⟩ := ob_row o1 (HR.out.below b1' (Nat.le_refl _)) (by simp; omega) b1'.size
  have R2 := Lib.hid r2
  have B2 := Lib.hid (b1'.trans g2.below)
  rw [List.nil_append] at o2
  have O2 := Lib.hid o2
  clear o1 b1 b1' r2 o2 g2 CU
  go_wp2_with (at_builtin; refine wpList_append_two rfl (.tmp 24) (.tmp 25) 22 22 rfl _ _ _ rfl rfl R2.out ?_)
  have hle1 := enc_length n HN.out
  have hle2 := enc_length (foldN z) (fold_lt z0 z1)
  have hle3 := enc_length s.size (by omega)
  have hlt : (encT s).length ≤ 2010 := by
    have : s.data.toList.length = s.size := by simp
    unfold encT; rw [List.length_append]; omega
  obtain ⟨A2, c2, rfl, rd2⟩ := O2.out.rd
  have RD2 := Lib.hid rd2
  have C3 := Lib.hid (wireNumber A2 c2 l n w2 rd2 (by omega) HN.out)
  clear rd2 R2
  go_wp2_with fail
  refine C3.out.mono ?_
  rintro e w3 ⟨v3, rfl, o3, b3⟩
  generalize hl3 : l ++ enc n = L3 at o3
  have HL3 := Lib.hid hl3
  have hz3 : L3.length ≤ 2010 := by rw [← hl3, List.length_append]; omega
  obtain ⟨A3, c3, rfl, rd3⟩ := o3.rd
  have RD3 := Lib.hid rd3
  have B3 := Lib.hid b3
  have C4 := Lib.hid (wireWhole A2 c2 l z w3 (RD2.out.below b3 (Nat.le_refl _)) (by omega) z0 z1)
  clear rd3 o3 b3 hl3 C3
  go_wp2_with fail
  refine C4.out.mono ?_
  rintro e w4 ⟨v4, rfl, o4, b4⟩
  generalize hl4 : l ++ enc (foldN z) = L4 at o4
  have HL4 := Lib.hid hl4
  have hz4 : L4.length ≤ 2010 := by rw [← hl4, List.length_append]; omega
  obtain ⟨A4, c4, rfl, rd4⟩ := o4.rd
  have RD4 := Lib.hid rd4
  have B4 := Lib.hid (B3.out.trans (b4.mono B3.out.size))
  have RD3' := Lib.hid (RD3.out.below b4 (Nat.le_refl _))
  have C5 := Lib.hid (wireText A2 c2 l s w4 (RD2.out.below B4.out (Nat.le_refl _)) (by omega) (by omega))
  clear rd4 o4 b4 hl4 C4 B3 RD3
  go_wp2_with fail
  refine C5.out.mono ?_
  rintro e w5 ⟨v5, rfl, o5, b5⟩
  generalize hl5 : l ++ encT s = L5 at o5
  have HL5 := Lib.hid hl5
  have hz5 : L5.length ≤ 5000 := by rw [← hl5, List.length_append]; omega
  obtain ⟨A5, c5, rfl, rd5⟩ := o5.rd
  have B5 := Lib.hid (B4.out.trans (b5.mono B4.out.size))
  have BB := Lib.hid (B2.out.trans (B5.out.mono B2.out.size))
  have F5 : Hid (Five w5 A2 c2 A cap l A3 c3 L3 A4 c4 L4 A5 c5 L5) := Lib.hid ⟨RD2.out.below B5.out (Nat.le_refl _), HR.out.below BB.out (Nat.le_refl _), RD3'.out.below b5 (Nat.le_refl _), RD4.out.below b5 (Nat.le_refl _), rd5⟩
  obtain ⟨t, ht⟩ : ∃ t : ByteArray, t = ⟨l.toArray⟩ := ⟨_, rfl⟩
  obtain ⟨t3, ht3⟩ : ∃ t : ByteArray, t = ⟨(enc n).toArray⟩ := ⟨_, rfl⟩
  obtain ⟨t4, ht4⟩ : ∃ t : ByteArray, t = ⟨(enc (foldN z)).toArray⟩ := ⟨_, rfl⟩
  obtain ⟨t5, ht5⟩ : ∃ t : ByteArray, t = ⟨(encT s).toArray⟩ := ⟨_, rfl⟩
  have E : Hid ((⟨l.toArray⟩ : ByteArray) = t) := Lib.hid ht.symm
  have E3 : Hid ((⟨L3.toArray⟩ : ByteArray) = t ++ t3) := Lib.hid (by rw [← HL3.out, bytes_app, ht, ht3])
  have E4 : Hid ((⟨L4.toArray⟩ : ByteArray) = t ++ t4) := Lib.hid (by rw [← HL4.out, bytes_app, ht, ht4])
  have E5 : Hid ((⟨L5.toArray⟩ : ByteArray) = t ++ t5) := Lib.hid (by rw [← HL5.out, bytes_app, ht, ht5])
  have S0 : t.size ≤ 2000 := by rw [ht]; show l.toArray.size ≤ 2000; simp; omega
  have S3 : t3.size ≤ 2010 := by rw [ht3]; show (enc n).toArray.size ≤ 2010; simp; omega
  have S4 : t4.size ≤ 2010 := by rw [ht4]; show (enc (foldN z)).toArray.size ≤ 2010; simp; omega
  have S5 : t5.size ≤ 2010 := by rw [ht5]; show (encT s).toArray.size ≤ 2010; simp; omega
  have T3 := Lib.hid ht3
  have T4 := Lib.hid ht4
  have T5 := Lib.hid ht5
  have a3 := fun w' : World => run_string_add_sum (P := Tryd.prog) w' t t3 (by omega)
  have a4 := fun w' : World => run_string_add_sum (P := Tryd.prog) w' t t4 (by omega)
  have a5 := fun w' : World => run_string_add_sum (P := Tryd.prog) w' t t5 (by omega)
  clear o5 b5 rd5 hl5 ht ht3 ht4 ht5 C5 RD2 RD3' RD4 HL3 HL4 HL5 O2 B4
  go_wp2_with fail
  go_region_held (fun w' => (convert 22 9 (.slice A2 l.length c2)).run Tryd.prog w' = .ok (.string t) w' ∧ (convert 22 9 (.slice A l.length cap)).run Tryd.prog w' = .ok (.string t) w' ∧
    (convert 22 9 (.slice A3 L3.length c3)).run Tryd.prog w' = .ok (.string (t ++ t3)) w' ∧ (convert 22 9 (.slice A4 L4.length c4)).run Tryd.prog w' = .ok (.string (t ++ t4)) w' ∧
    (convert 22 9 (.slice A5 L5.length c5)).run Tryd.prog w' = .ok (.string (t ++ t5)) w' ∧ Hid (Five w' A2 c2 A cap l A3 c3 L3 A4 c4 L4 A5 c5 L5))
    (first
      | exact (F5.out.drew1).says E.out E3.out E4.out E5.out
      | (go_split_ands; exact ((Hid.out ‹Hid (Five _ A2 c2 A cap l A3 c3 L3 A4 c4 L4 A5 c5 L5)›).below hb9).says E.out E3.out E4.out E5.out)
      | go_keep)
    (first
      | ((go_at_call 10; with_reducible refine (refNumber n _ _ HN.out (Nat.le_refl _)).mono ?_); rintro e w9 ⟨v9, rfl, o9, hb9⟩; obtain ⟨A9, c9, rfl, rd9⟩ := o9.rd; have hcn : (convert 22 9 (.slice A9 (enc n).length c9)).run Tryd.prog w9 = .ok (.string t3) w9 := by rw [T3.out]; exact rd_conv rd9)
      | ((go_at_call 11; with_reducible refine (refWhole z _ _ (Nat.le_refl _) z0 z1).mono ?_); rintro e w9 ⟨v9, rfl, o9, hb9⟩; obtain ⟨A9, c9, rfl, rd9⟩ := o9.rd; have hcn : (convert 22 9 (.slice A9 (enc (foldN z)).length c9)).run Tryd.prog w9 = .ok (.string t4) w9 := by rw [T4.out]; exact rd_conv rd9)
      | ((go_at_call 12; with_reducible refine (refText s _ _ (Nat.le_refl _) (by omega)).mono ?_); rintro e w9 ⟨v9, rfl, o9, hb9⟩; obtain ⟨A9, c9, rfl, rd9⟩ := o9.rd; have hcn : (convert 22 9 (.slice A9 (encT s).length c9)).run Tryd.prog w9 = .ok (.string t5) w9 := by rw [T5.out]; exact rd_conv rd9))
  rename_i wa hba Aa ca rda oa hca wb hbb Ab cb rdb ob hcb hh
  have c1 := BB.out.drew
  have c2 := c1.trans (hba.mono c1.size)
  have c3 := c2.trans (hbb.mono c2.size)
  have B9 := Lib.hid (c3.trans (hb9.mono c3.size))
  clear hba hbb hb9 rda rdb rd9 oa ob o9 hca hcb hcn hh c1 c2 c3 a3 a4 a5 F5 BB B5 B2
  go_wp2_with fail
  go_ret
  exact ⟨rfl, B9.out⟩
end Go.Proofs.YtcddgbllmobhdaaDoor
