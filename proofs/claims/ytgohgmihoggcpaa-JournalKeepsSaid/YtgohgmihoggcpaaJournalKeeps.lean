/-
  Layer 9: the law JournalKeeps.
-/
import Derived.Test.YtgohgmihoggcpaaJournalUp
import Derived.Test.YtgohgmihoggcpaaJournalRows
namespace Go.Proofs.Ytgohgmihoggcpaa
open Go.ChangeShapes Go.WideShapes Go.ChangeAt Go.RowKit
set_option linter.unusedVariables false

def syAt (s i : Nat) : Nat := if s ≤ i then s else 0
theorem syAt_zero (s : Nat) : syAt s 0 = 0 := by unfold syAt; split <;> omega
theorem syAt_here {s i : Nat} (h : i + 1 = s) : syAt s (i + 1) = i + 1 := by unfold syAt; rw [if_pos (by omega)]; exact h.symm
theorem syAt_not {s i : Nat} (h : ¬ i + 1 = s) : syAt s (i + 1) = syAt s i := by unfold syAt; split <;> split <;> omega
theorem syAt_end {s n : Nat} (h : s ≤ n) : syAt s n = s := by unfold syAt; rw [if_pos h]
theorem Own8.below {W w : World} {a rm : Nat} {dn : Bool} {L : List Pt} (h : Own8 W w a rm dn L) : Below W.heap.size W w := by
  obtain ⟨F, _, _, hb⟩ := h
  exact hb
set_option maxRecDepth 100000 in
theorem keeps_early (many : Int) (A : Option Addr) (c N : Nat) (s keep : Int) (W : World) (hN : N ≤ 9223372036854775807) (hs0 : -9223372036854775808 ≤ s) (hs1 : s ≤ 9223372036854775807) (h : 30 < N ∨ (¬ 30 < N ∧ s < 0) ∨ (¬ 30 < N ∧ ¬ s < 0 ∧ (N : Int) < s)) :
    Calls Try.prog 3 #[.int .i64 many, .slice A N c, .int .i64 s, .int .i64 keep] W (Holds W) := by
  have CU := Lib.hid (up_journal W)
  rcases h with h | ⟨h, h2⟩ | ⟨h, h2, h3⟩
  all_goals
    have hh : ((30 : Int) < (N : Int)) ↔ 30 < N := by omega
    go_enter Try.func3, Try.ntmps3
    go_wp2_with fail
    refine CU.out.mono ?_
    rintro e w1 ⟨rfl, b1⟩
    have C1 := Lib.hid (Own8.new (W := W) 60000 (by omega) (by omega) b1)
    clear b1
    go_wp2_with fail
    refine C1.out.mono ?_
    rintro e w2 ⟨d, rfl, O2, _⟩
    have B2 := Lib.hid O2.below
    clear C1 O2
    go_wp2_with fail
    go_ret
    exact ⟨rfl, B2.out⟩
set_option maxRecDepth 100000 in
theorem keeps_many (many : Int) (A : Option Addr) (c N : Nat) (s keep : Int) (W : World) (h1 : ¬ 30 < N) (h2 : ¬ s < 0) (h3 : ¬ (N : Int) < s) (hm : many < 1 ∨ 100 < many) :
    Calls Try.prog 3 #[.int .i64 many, .slice A N c, .int .i64 s, .int .i64 keep] W (Holds W) := by
  have CU := Lib.hid (up_journal W)
  go_enter Try.func3, Try.ntmps3
  go_wp2_with fail
  refine CU.out.mono ?_
  rintro e w1 ⟨rfl, b1⟩
  have C1 := Lib.hid (Own8.new (W := W) 60000 (by omega) (by omega) b1)
  clear b1
  go_wp2_with fail
  refine C1.out.mono ?_
  rintro e w2 ⟨d, rfl, O2, _⟩
  have B2 := Lib.hid O2.below
  have C2 := Lib.hid (openBad w2 d many hm)
  unfold errV at C2
  clear C1 O2
  go_wp2_with fail
  refine C2.out.mono ?_
  rintro e w3 ⟨rfl, rfl⟩
  go_wp2_with fail
  go_ret
  exact ⟨rfl, B2.out⟩
theorem Jd.below {W w : World} {ad rm : Nat} {l : List Rc} {i sy : Nat} (h : Jd W w ad rm l i sy) : Below W.heap.size W w := by
  obtain ⟨G, q, _, _, _, _, _, _, o⟩ := h
  exact o.below
set_option maxRecDepth 100000 in
set_option maxHeartbeats 2000000 in
theorem keeps_walk (many : Int) (A : Option Addr) (c : Nat) (ls : List (List UInt8)) (s : Nat) (keep : Int) (W : World) (hL : RdL W A ls) (hle : ∀ l ∈ ls, l.length ≤ maxLen) (hm : 1 ≤ many ∧ many ≤ 100) (hn : ls.length ≤ 30) (hs : s ≤ ls.length)
    (hk0 : -9223372036854775808 ≤ keep) (hk1 : keep ≤ 9223372036854775807) :
    Calls Try.prog 3 #[.int .i64 many, .slice A ls.length c, .int .i64 s, .int .i64 keep] W (Holds W) := by
  have CU := Lib.hid (up_journal W)
  have HL := Lib.hid hL
  have HE := Lib.hid hle
  have HM := Lib.hid hm
  obtain ⟨N, hN⟩ : ∃ N, ls.length = N := ⟨_, rfl⟩
  have HN := Lib.hid hN
  rw [hN] at hn hs ⊢
  have h1 : ¬ 30 < N := by omega
  have h2 : ¬ (s : Int) < 0 := by omega
  have h3 : ¬ N < s := by omega
  clear hL hle hm hN
  go_enter Try.func3, Try.ntmps3
  go_wp2_with fail
  refine CU.out.mono ?_
  rintro e w1 ⟨rfl, b1⟩
  have C1 := Lib.hid (Own8.new (W := W) 60000 (by omega) (by omega) b1)
  clear b1 CU
  go_wp2_with fail
  refine C1.out.mono ?_
  rintro e w2 ⟨d, rfl, O2, _⟩
  have C2 := Lib.hid (open_first (l := ls) O2 (by omega) (by have := HN.out; omega) HM.out)
  clear C1 O2
  go_wp2_with fail
  refine C2.out.mono ?_
  rintro e w3 ⟨aj, rfl, J3⟩
  have K3 : Hid (Jl W w3 d aj 60000 many ls 0 (syAt s 0)) := Lib.hid (by rw [syAt_zero]; exact J3)
  clear C2 J3
  go_wp2_with fail
  go_loopg [14] N (fun g s14 wx => ∃ i, i + g = N ∧ s14 = .int .i64 (i : Nat) ∧ Hid (Jl W wx d aj 60000 many ls i (syAt s i)))
  case atStart => exact ⟨0, by omega, rfl, K3⟩
  case round =>
    clear K3
    obtain ⟨i, hi, rfl, HJ⟩ := hrel
    cases gk with
    | zero =>
      have x1 : ¬ i < N := by omega
      obtain rfl : i = N := by omega
      have CC := Lib.hid (HJ.out.crash keep hk1)
      rw [syAt_end hs] at CC
      clear HJ
      go_wp2_with fail
      refine CC.out.mono ?_
      rintro e w4 ⟨rfl, J4⟩
      have C4 := Lib.hid (J4.open_ (many := many) (by rw [HN.out]; omega) HM.out)
      clear CC J4
      go_wp2_with fail
      refine C4.out.mono ?_
      rintro e w5 ⟨ak, q, rfl, J5, hq1, hq2⟩
      have C5 := Lib.hid J5.first
      have C6 := Lib.hid J5.next
      have K5 := Lib.hid J5
      have q1 : ¬ (q : Int) < (s : Int) := by omega
      have q2 : ¬ (i : Int) < (q : Int) := by omega
      have q3 : ¬ q < s := by omega
      have q4 : ¬ i < q := by omega
      clear C4 J5
      go_wp2_with fail
      refine C5.out.mono ?_
      rintro e w6 ⟨rfl, rfl⟩
      clear C5
      go_wp2_with fail
      refine C6.out.mono ?_
      rintro e w7 ⟨rfl, m7, rfl⟩
      have K7 : Hid (Jo W (w6.drewN m7) ak ls q) := Lib.hid (K5.out.still (below_drewN w6 m7))
      have C7 := Lib.hid K7.out.next
      clear C6 K5
      go_wp2_with fail
      refine C7.out.mono ?_
      rintro e w8 ⟨rfl, m8, hm8⟩
      have K8 : Hid (Jo W w8 ak ls q) := Lib.hid (by rw [hm8]; exact K7.out.still (below_drewN _ m8))
      clear C7 K7 hm8
      go_wp2_with fail
      go_loopg [19] q (fun g s19 wx => ∃ k, k + g = q ∧ s19 = .int .i64 (k : Nat) ∧ Hid (Jo W wx ak ls q))
      case atStart => exact ⟨0, by omega, rfl, K8⟩
      case round =>
        clear K8
        obtain ⟨k, hk, rfl, HJ⟩ := hrel
        have CN := Lib.hid HJ.out.next
        cases gk with
        | zero =>
          have y1 : ¬ k < q := by omega
          go_wp2_with fail
          refine CN.out.mono ?_
          rintro e w9 ⟨rfl, m9, rfl⟩
          have B9 := Lib.hid (HJ.out.1.trans ((below_drewN _ m9).mono HJ.out.1.size))
          clear CN HJ
          go_wp2_with fail
          go_ret
          exact ⟨rfl, B9.out⟩
        | succ g =>
          have y1 : k < q := by omega
          obtain ⟨r, hr⟩ : ∃ r, ls[k]? = some r := ⟨ls[k]'(by have := HN.out; omega), List.getElem?_eq_getElem _⟩
          obtain ⟨b0, o, rfl, hat⟩ := HL.out.at hr
          have HR := Lib.hid hr
          have HAT := Lib.hid hat
          clear hr hat
          go_wp2_with fail
          refine CN.out.mono ?_
          rintro e w9 ⟨rfl, m9, hm9⟩
          have K9 : Hid (Jo W w9 ak ls q) := Lib.hid (by rw [hm9]; exact HJ.out.still (below_drewN _ m9))
          have C9 := Lib.hid (K9.out.record y1 HR.out)
          clear CN HJ hm9
          go_wp2_with fail
          refine C9.out.mono ?_
          rintro e w10 ⟨B10, c10, rfl, r10, b10⟩
          have K10 := Lib.hid (K9.out.still b10)
          obtain ⟨B11, c11, hc, r11⟩ := HAT.out w10 K10.out.1
          have v10 : ∀ n, (convert 32 9 (.slice B10 r.length c10)).run Try.prog (w10.drewN n) = .ok (.string ⟨r.toArray⟩) (w10.drewN n) := fun n => rd_conv (r10.drew n)
          have v11 : ∀ n, (convert 32 9 (.slice B11 r.length c11)).run Try.prog (w10.drewN n) = .ok (.string ⟨r.toArray⟩) (w10.drewN n) := fun n => rd_conv (r11.drew n)
          have z1 : (k : Int) < (i : Int) := by omega
          clear C9 K9 r10 b10 r11
          go_wp2_with fail
          go_quiet (fail)
          all_goals go_wp2_with fail
          all_goals go_roundg g
          case rel => exact ⟨k + 1, by omega, by go_num, Lib.hid (K10.out.still (below_drewN _ _))⟩
          case measure => omega
    | succ g =>
      have x1 : i < N := by omega
      obtain ⟨r, hr⟩ : ∃ r, ls[i]? = some r := ⟨ls[i]'(by have := HN.out; omega), List.getElem?_eq_getElem _⟩
      obtain ⟨b0, o, rfl, hat⟩ := HL.out.at hr
      have hlm := HE.out r (List.mem_of_getElem? hr)
      unfold maxLen at hlm
      obtain ⟨B4, c4, hc, r4⟩ := hat wr HJ.out.below
      have HB : Hid (Below W.heap.size W wr) := Lib.hid HJ.out.below
      by_cases hbad : r.length < 1 ∨ 1000 < r.length
      · clear HJ hr hat r4
        rcases hbad with hb | hb
        · generalize r.length = M at *
          go_wp2_with fail
          go_ret
          exact ⟨rfl, HB.out⟩
        · have hb2 : ¬ r.length < 1 := by omega
          generalize r.length = M at *
          go_wp2_with fail
          go_ret
          exact ⟨rfl, HB.out⟩
      · have hb1 : ¬ r.length < 1 := by omega
        have hb2 : ¬ 1000 < r.length := by omega
        have CA := Lib.hid (HJ.out.append (by have := HM.out; omega) (by omega) hr ⟨by omega, by omega⟩ r4)
        clear HJ hr hat r4 hbad
        generalize r.length = M at *
        go_wp2_with fail
        refine CA.out.mono ?_
        rintro e w4 ⟨rfl, J4⟩
        have K4 := Lib.hid J4
        clear CA J4
        by_cases hsy : i + 1 = s
        · have z1 : ((i : Int) + 1 == (s : Int)) = true := beq_iff_eq.2 (by omega)
          have CS := Lib.hid K4.out.sync
          clear K4
          go_wp2_with fail
          refine CS.out.mono ?_
          rintro e w5 ⟨rfl, J5⟩
          have K5 : Hid (Jl W w5 d aj 60000 many ls (i + 1) (syAt s (i + 1))) := Lib.hid (by rw [syAt_here hsy]; exact J5)
          clear CS J5
          go_wp2_with fail
          go_roundg g
          case rel => exact ⟨i + 1, by omega, by go_num, K5⟩
          case measure => omega
        · have z1 : ((i : Int) + 1 == (s : Int)) = false := beq_eq_false_iff_ne.2 (by omega)
          rw [← syAt_not hsy] at K4
          go_wp2_with fail
          go_roundg g
          case rel => exact ⟨i + 1, by omega, by go_num, K4⟩
          case measure => omega
end Go.Proofs.Ytgohgmihoggcpaa
