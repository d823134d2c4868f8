/-
  Layer 4: the head of the laws: the document's example parses, and nothing doesn't.
-/
import Derived.Test.YtndpaafkipanmaaDoorLineParse
import Derived.Test.YtndpaafkipanmaaDoorLineVal
import Derived.Test.YtndpaafkipanmaaDoorErrIs
namespace Go.Proofs.YtndpaafkipanmaaDoor
open Go.ChangeShapes Go.WideShapes Go.ChangeAt Go.RowKit
set_option linter.unusedVariables false

def cpuText : ByteArray := ⟨#[99, 112, 117, 44, 104, 111, 115, 116, 61, 97, 32, 99, 32, 53, 32, 49, 48, 48]⟩
def cpuTags : Tags := [(⟨#[104, 111, 115, 116]⟩, ⟨#[97]⟩)]
theorem cpu_word : wordAt cpuText 0 = some 3 := by decide +kernel
theorem cpu_tags : tagsFrom cpuText 6 3 [] = .good 10 cpuTags := by kernel_rfl
theorem num_of {s : ByteArray} {k : Nat} {lo hi v : Int} {l : List UInt8} (h : (s.extract k (numEnd s k)).data.toList = l) (hd : ∀ c ∈ l, isD c = true) (hv : refVal false l = some v) (hr : lo ≤ v ∧ v ≤ hi) : numAt s k lo hi = some v := by
  unfold numAt
  rw [h, show l = signed false l from rfl, valOf_signed false l hd, hv]
  simp only
  rw [if_pos hr]
theorem cpu_num1 : numAt cpuText 13 (-9223372036854775808) 9223372036854775807 = some 5 := num_of (l := [53]) (by decide +kernel) (by decide) (by decide +kernel) (by omega)
theorem cpu_num2 : numAt cpuText 15 0 1099511627776 = some 100 := num_of (l := [49, 48, 48]) (by decide +kernel) (by decide) (by decide +kernel) (by omega)
theorem parse_cpu : parseF cpuText = .good ⟨⟨#[99, 112, 117]⟩, cpuTags, 1, 5, 100⟩ := by
  unfold parseF
  rw [cpu_word]
  simp only
  rw [cpu_tags]
  simp only [parseTags, parseKind]
  rw [if_pos (by decide +kernel), show kindOf (chr cpuText (10 + 1)) = some 1 from by decide +kernel]
  simp only [parseNum]
  rw [if_pos (by decide +kernel), show numAt cpuText (10 + 1 + 1 + 1) (-9223372036854775808) 9223372036854775807 = some 5 from cpu_num1]
  simp only [parseEnd]
  rw [show numEnd cpuText (10 + 1 + 1 + 1) = 14 from by decide +kernel]
  rw [if_pos (by decide +kernel), show numAt cpuText (14 + 1) 0 1099511627776 = some 100 from cpu_num2]
  simp only
  rw [if_neg (by decide +kernel)]
  rfl
theorem parse_none : parseF ⟨#[]⟩ = .bad 0 := by
  unfold parseF
  rw [show wordAt ⟨#[]⟩ 0 = none from by decide +kernel]

set_option maxHeartbeats 1000000 in
set_option maxRecDepth 100000 in
theorem up_any (w : World) (hL : Laid w) : Calls Tryd.prog 6 #[] w (Holds w) := by
  have C1 := Lib.hid (lineParse cpuText w hL (by decide +kernel))
  rw [parse_cpu] at C1
  have HL := Lib.hid hL
  clear hL
  go_enter Tryd.func6, Tryd.ntmps6
  go_wp2_with fail
  refine C1.out.mono ?_
  rintro e w1 ⟨A, c, rfl, o1, b1⟩
  unfold evVal
  have HB1 := Lib.hid b1
  have hz1 := b1.size
  clear C1 o1 b1
  go_wp2_with fail
  have hL2 := (HL.out.below HB1.out).alloc (.cells #[.string ⟨#[99, 112, 117]⟩, .slice A cpuTags.length c, .int .i64 1, .int .i64 5, .int .i64 100] 25)
  have C2 := Lib.hid (lineParse ⟨#[]⟩ _ hL2 (by decide +kernel))
  rw [parse_none] at C2
  have HL2 := Lib.hid hL2
  have hE : EvB (w1.alloc (.cells #[.string ⟨#[99, 112, 117]⟩, .slice A cpuTags.length c, .int .i64 1, .int .i64 5, .int .i64 100] 25)) w1.heap.size ⟨#[99, 112, 117]⟩ A cpuTags.length c 1 5 100 := heap_alloc_new w1 _
  have HE := Lib.hid hE
  clear hL2 hE
  refine C2.out.mono ?_
  rintro e w2 ⟨N, rfl, sp, b2⟩
  unfold evZero evVal
  have hE2 : EvB w2 w1.heap.size ⟨#[99, 112, 117]⟩ A cpuTags.length c 1 5 100 := by
    unfold EvB; rw [b2.block _ (lt_of_block HE.out)]; exact HE.out
  have hL3 := HL2.out.below b2
  have hz2 : w1.heap.size < w2.heap.size := lt_of_block hE2
  have hB2 : Below w.heap.size w w2 := ((HB1.out).alloc hz1 _).trans (b2.mono (by simp; omega))
  have c0 := hE2.c0
  have c1 := hE2.c1
  have c2 := hE2.c2
  have c3 := hE2.c3
  have c4 := hE2.c4
  have CI := Lib.hid (isSpot N 0 2 (w2.alloc (.cells #[.string ⟨#[]⟩, .slice none 0 0, .int .i64 0, .int .i64 0, .int .i64 0] 25)) (hL3.alloc _) (by rw [(World.grownBy_alloc _ _ none).block N (lt_of_block sp.2) (by simp)]; exact sp.2))
  have HB2 := Lib.hid hB2
  clear C2 sp b2 hE2 hL3 hB2 HE HL2 HL HB1
  go_wp2_with ((go_at_call 10; refine CI.out.mono ?_); rintro e w3 ⟨rfl, b3⟩)
  go_ret
  exact ⟨rfl, (HB2.out.alloc HB2.out.size _).trans (b3.mono (by simp; have := HB2.out.size; omega))⟩
end Go.Proofs.YtndpaafkipanmaaDoor
