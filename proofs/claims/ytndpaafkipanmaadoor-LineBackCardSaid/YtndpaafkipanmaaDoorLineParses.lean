/-
  The law LineParses (layer 4), walked: it returns true at every text.
-/
import Derived.Test.YtndpaafkipanmaaDoorLineUp
import Derived.Test.YtndpaafkipanmaaDoorLineRefP
namespace Go.Proofs.YtndpaafkipanmaaDoor
open Go.ChangeShapes Go.WideShapes Go.ChangeAt Go.RowKit
set_option linter.unusedVariables false

theorem tags_le {s : ByteArray} : ∀ (n k : Nat) (acc : Tags) (k' : Nat) (ts : Tags), tagsFrom s n k acc = .good k' ts → ts.length ≤ acc.length + n
  | 0, k, acc, k', ts, h => by
    unfold tagsFrom at h
    split at h
    · cases h
    · cases h; omega
  | n + 1, k, acc, k', ts, h => by
    unfold tagsFrom at h
    split at h
    · split at h
      · cases h
      · split at h
        · split at h
          · cases h
          · have := tags_le n _ _ k' ts h
            rw [List.length_append] at this
            simp at this
            omega
        · cases h
    · cases h; omega
theorem parse_tags {s : ByteArray} {ev : Ev} (h : parseF s = .good ev) : ev.tags.length ≤ 6 := by
  unfold parseF at h
  split at h
  · cases h
  · rename_i a _
    cases ht : tagsFrom s 6 a [] with
    | bad p => rw [ht] at h; cases h
    | good b ts =>
      have hl := tags_le 6 a [] b ts ht
      rw [ht] at h
      simp only [parseTags, parseKind] at h
      split at h
      · split at h
        · cases h
        · simp only [parseNum] at h
          split at h
          · split at h
            · cases h
            · simp only [parseEnd] at h
              split at h
              · split at h
                · cases h
                · split at h
                  · cases h
                  · cases h; simpa using hl
              · cases h
          · cases h
      · cases h
theorem spot_keep {w w' : World} {base N p : Nat} {c : Int} (h : SpotAt w base N p c) (hb : Below w.heap.size w w') : w'.heap[N]? = some (.cells #[.int .i64 p, .int .i64 c] 47 (0, 0)) := by
  rw [hb.block N (lt_of_block h.2)]; exact h.2

set_option maxHeartbeats 2000000 in
set_option maxRecDepth 100000 in
theorem lineParses_walk (s : ByteArray) (w : World) (hL : Laid w) (hm : s.size ≤ 9223372036854775807) : Calls Tryd.prog 3 #[.string s] w (Holds w) := by
  have CU := Lib.hid (up_any w hL)
  have HL := Lib.hid hL
  clear hL
  by_cases h3 : 3000 < s.size
  · have e1 : decide ((3000 : Int) < s.size) = true := decide_eq_true (by omega)
    go_enter Tryd.func3, Tryd.ntmps3
    go_wp2_with ((go_at_call 6; refine CU.out.mono ?_); rintro e w' ⟨rfl, hb⟩)
    go_ret
    exact ⟨rfl, hb⟩
  have e1 : decide ((3000 : Int) < s.size) = false := decide_eq_false (by omega)
  by_cases h300 : 300 < s.size
  · have e2 : decide ((300 : Int) < s.size) = true := decide_eq_true (by omega)
    obtain ⟨i, hi, hcmp⟩ := Option.map_eq_some_iff.1 compC
    have heq := fun w => eql_ints (P := Tryd.prog) w 3 3 Tryd.underlying27 Tryd.underlying30 hi hcmp
    go_enter Tryd.func3, Tryd.ntmps3
    go_wp2_with fail
    refine CU.out.mono ?_
    rintro e w1 ⟨rfl, b1⟩
    have HB1 := Lib.hid b1
    clear b1
    go_wp2_with fail
    refine (parseLarge s w1 h300 hm).mono ?_
    rintro e w2 ⟨rfl, b2⟩
    have HB2 := Lib.hid (HB1.out.trans (b2.mono HB1.out.size))
    clear b2
    unfold evZero evVal
    go_wp2_with fail
    refine (refSame ⟨#[]⟩ none none 0 0 0 0 0 [] _ (.inl rfl) (.inl rfl) (by simp)).mono ?_
    rintro e w3 ⟨rfl, b3⟩
    go_wp2_with fail
    go_ret
    exact ⟨rfl, (HB2.out.alloc HB2.out.size _).trans (b3.mono (by simp; have := HB2.out.size; omega))⟩
  have e2 : decide ((300 : Int) < s.size) = false := decide_eq_false (by omega)
  have h300' : s.size ≤ 300 := by omega
  go_enter Tryd.func3, Tryd.ntmps3
  go_wp2_with fail
  refine CU.out.mono ?_
  rintro e w1 ⟨rfl, b1⟩
  have HB1 := Lib.hid b1
  have HL1 := Lib.hid (HL.out.below b1)
  clear b1 CU HL
  go_wp2_with fail
  have CP := Lib.hid (lineParse s w1 HL1.out h300')
  have CR : ∀ w', Calls Tryd.prog 9 #[.string s] w' (RefPost w' (parseF s)) := fun w' => refParse s w' h300'
  have HCR := Lib.hid CR
  clear CR
  rcases hp : parseF s with p | ev
  · rw [hp] at CP HCR
    clear hp
    refine CP.out.mono ?_
    rintro e w2 ⟨N, rfl, sp, b2⟩
    have HB2 := Lib.hid (HB1.out.trans (b2.mono HB1.out.size))
    have HL2 := Lib.hid (HL1.out.below b2)
    have HS := Lib.hid sp
    clear b2 sp CP
    unfold evZero evVal
    go_wp2_with fail
    refine (HCR.out _).mono ?_
    rintro e w4 ⟨rfl, b4⟩
    have HB4 := Lib.hid b4
    have hE : EvB w4 w2.heap.size ⟨#[]⟩ none 0 0 0 0 0 := by
      unfold EvB; rw [b4.block _ (by simp)]; exact heap_alloc_new w2 _
    have HL4 := Lib.hid ((HL2.out.alloc (.cells #[.string ⟨#[]⟩, .slice none 0 0, .int .i64 0, .int .i64 0, .int .i64 0] 25)).below b4)
    have hz4 : w2.heap.size < w4.heap.size := lt_of_block hE
    have hS4 : w4.heap[N]? = some (.cells #[.int .i64 p, .int .i64 2] 47 (0, 0)) := spot_keep HS.out ((((Below.refl _ _).alloc (Nat.le_refl _) _)).trans (b4.mono (by simp)))
    have hB4 : Below w.heap.size w w4 := (HB2.out.alloc HB2.out.size _).trans (b4.mono (by simp; have := HB2.out.size; omega))
    have c0 := hE.c0
    have c1 := hE.c1
    have c2 := hE.c2
    have c3 := hE.c3
    have c4 := hE.c4
    have HE := Lib.hid hE
    have HB5 := Lib.hid hB4
    have CI := Lib.hid (isSpot N p 2 (w4.alloc (.cells #[.string ⟨#[]⟩, .slice none 0 0, .int .i64 0, .int .i64 0, .int .i64 0] 25)) (HL4.out.alloc _) (by rw [(World.grownBy_alloc _ _ none).block N (lt_of_block hS4) (by simp)]; exact hS4))
    clear hE hS4 hB4 b4 HCR
    have e3 : decide ((0 : Int) ≤ (p : Int)) = true := decide_eq_true (by omega)
    unfold evZero evVal
    go_wp2_with fail
    refine CI.out.mono ?_
    rintro e w6 ⟨rfl, b6⟩
    have hE6 : EvB w6 w2.heap.size ⟨#[]⟩ none 0 0 0 0 0 := by
      unfold EvB; rw [b6.block _ (by simp; omega), (World.grownBy_alloc _ _ none).block _ hz4 (by simp)]; exact HE.out
    have HB6 := Lib.hid ((HB5.out.alloc HB5.out.size _).trans (b6.mono (by simp; have := HB5.out.size; omega)))
    clear c0 c1 c2 c3 c4 b6
    have c0 := hE6.c0
    have c1 := hE6.c1
    have c2 := hE6.c2
    have c3 := hE6.c3
    have c4 := hE6.c4
    clear hE6
    go_wp2_with fail
    refine (refSame ⟨#[]⟩ none none 0 0 0 0 0 [] _ (.inl rfl) (.inl rfl) (by simp)).mono ?_
    rintro e w7 ⟨rfl, b7⟩
    go_wp2_with fail
    go_ret
    exact ⟨rfl, HB6.out.trans (b7.mono HB6.out.size)⟩
  · rw [hp] at CP HCR
    have hl6 := parse_tags hp
    have hl : ev.tags.length ≤ 1000 := by omega
    clear hp hl6
    refine CP.out.mono ?_
    rintro e w2 ⟨A, c, rfl, o2, b2⟩
    have HB2 := Lib.hid (HB1.out.trans (b2.mono HB1.out.size))
    have HO2 := Lib.hid o2.rd
    clear b2 o2 CP
    unfold evVal
    go_wp2_with fail
    refine (HCR.out _).mono ?_
    rintro e w4 ⟨B, d, rfl, o4, b4⟩
    have hE : EvB w4 w2.heap.size ev.name A ev.tags.length c ev.kind ev.value ev.time := by
      unfold EvB; rw [b4.block _ (by simp)]; exact heap_alloc_new w2 _
    have hz4 : w2.heap.size < w4.heap.size := lt_of_block hE
    have hB4 : Below w.heap.size w w4 := (HB2.out.alloc HB2.out.size _).trans (b4.mono (by simp; have := HB2.out.size; omega))
    have hT1 : RdT w4 A ev.tags := (HO2.out.alloc _).below b4
    have HT1 := Lib.hid (hT1.alloc (.cells #[.string ev.name, .slice B ev.tags.length d, .int .i64 ev.kind, .int .i64 ev.value, .int .i64 ev.time] 25))
    have HT2 := Lib.hid (o4.rd.alloc (.cells #[.string ev.name, .slice B ev.tags.length d, .int .i64 ev.kind, .int .i64 ev.value, .int .i64 ev.time] 25))
    have c0 := hE.c0
    have c1 := hE.c1
    have c2 := hE.c2
    have c3 := hE.c3
    have c4 := hE.c4
    have HB4 := Lib.hid hB4
    clear hE hB4 b4 HCR o4 hT1
    unfold evVal
    go_wp2_with fail
    refine (refSame ev.name A B c d ev.kind ev.value ev.time ev.tags _ HT1.out HT2.out hl).mono ?_
    rintro e w7 ⟨rfl, b7⟩
    go_wp2_with fail
    go_ret
    exact ⟨rfl, (HB4.out.alloc HB4.out.size _).trans (b7.mono (by simp; have := HB4.out.size; omega))⟩
end Go.Proofs.YtndpaafkipanmaaDoor
