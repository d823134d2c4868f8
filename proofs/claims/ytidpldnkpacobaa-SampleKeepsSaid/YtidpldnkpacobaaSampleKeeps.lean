/-
  Layer 15 (sample): the law SampleKeeps, walked.
-/
import Derived.Test.YtidpldnkpacobaaSampleUp
import Derived.Test.YtidpldnkpacobaaSampleRef
import Derived.Deep.DeepCutAuto
import Derived.Deep.CutRange
namespace Go.Proofs.Ytidpldnkpacobaa
open Go.ChangeShapes Go.WideShapes Go.ChangeAt Go.RowKit Go.Deep
set_option linter.unusedVariables false

theorem RdX.below {w w' : World} {A : Option Addr} {l : List ByteArray} (h : RdX w A l) (b : Below w.heap.size w w') : RdX w' A l := by
  rcases h with rfl | ⟨b0, o, e, hc⟩
  · exact .inl rfl
  · exact .inr ⟨b0, o, e, fun i s hi => by
      have h1 := hc i s hi
      rw [b.cell (p := ⟨b0, o + i, none⟩) (World.block_lt_of_cell? w _ h1)]
      exact h1⟩
theorem neq_codes (w : World) (a b : Int) : (binOp .neq 28 (.iface 31 (.int .i64 a)) (.iface 31 (.int .i64 b))).run Try.prog w = .ok (.bool (!(a == b))) w := by
  obtain ⟨i, hi, hcmp⟩ := Option.map_eq_some_iff.1 compC
  simp only [binOp]
  simp [Op.equal, Op.maxDepth, equalIn_ints (P := Try.prog) w 9998 a b Try.underlying28 Try.underlying31 hi hcmp]
def shortK (k : ByteArray) : Bool := decide (k.size ≤ 1000)
set_option maxRecDepth 100000 in
set_option maxHeartbeats 1000000 in
theorem keeps_head (A : Option Addr) (cap : Nat) (ls : List (List Int)) (c v : Int) (K : Option Addr) (ck : Nat) (M : Nat) (E : Nat → Prop) (W : World) (h : RdM W E A ls) (hl : ls.length ≤ 9223372036854775807) (hf : FitM ls)
    (hM : M ≤ 9223372036854775807) (hh : fewM ls = false ∨ 50 < M) :
    Calls Try.prog 3 #[.slice A ls.length cap, .int .i64 c, .int .i64 v, .slice K M ck] W (Holds W) := by
  have CU := Lib.hid (up_sample W)
  have CF := Lib.hid (fun wx (b : Below W.heap.size W wx) => few_walk cap (h.still b) hl hf)
  generalize ls.length = N at *
  obtain ⟨fw, hfw⟩ : ∃ fw, fewM ls = fw := ⟨_, rfl⟩
  rw [hfw] at CF hh
  clear h hf hfw
  cases fw with
  | false =>
    clear hh
    go_enter Try.func3, Try.ntmps3
    go_wp2_with fail
    refine CU.out.mono ?_
    rintro e w1 ⟨rfl, b1⟩
    have C1 := Lib.hid (CF.out _ b1)
    go_wp2_with fail
    refine C1.out.mono ?_
    rintro e w2 ⟨rfl, rfl⟩
    go_wp2_with fail
    go_ret
    exact ⟨rfl, b1⟩
  | true =>
    have y1 : (50 : Int) < M := by
      rcases hh with hh | hh
      · cases hh
      · omega
    clear hh
    go_enter Try.func3, Try.ntmps3
    go_wp2_with fail
    refine CU.out.mono ?_
    rintro e w1 ⟨rfl, b1⟩
    have C1 := Lib.hid (CF.out _ b1)
    go_wp2_with fail
    refine C1.out.mono ?_
    rintro e w2 ⟨rfl, rfl⟩
    go_wp2_with fail
    go_ret
    exact ⟨rfl, b1⟩

set_option maxRecDepth 100000 in
set_option maxHeartbeats 2000000 in
theorem keeps_main (A : Option Addr) (cap : Nat) (ls : List (List Int)) (c v : Int) (K : Option Addr) (ck : Nat) (keys : List ByteArray) (E : Nat → Prop) (W : World) (h : RdM W E A ls) (hl : ls.length ≤ 9223372036854775807) (hf : FitM ls)
    (hK : RdX W K keys) (hw : fewM ls = true) (h50 : keys.length ≤ 50) :
    Calls Try.prog 3 #[.slice A ls.length cap, .int .i64 c, .int .i64 v, .slice K keys.length ck] W (Holds W) := by
  have CU := Lib.hid (up_sample W)
  have CF := Lib.hid (fun wx (b : Below W.heap.size W wx) => few_walk cap (h.still b) hl hf)
  rw [hw] at CF
  have CR := Lib.hid (fun wx (b : Below W.heap.size W wx) => ref_thr (cap := cap) (h.still b) hl hf)
  have CM := Lib.hid (fun wx (b : Below W.heap.size W wx) => may_walk (cap := cap) (h.still b) hl hf)
  have CK := Lib.hid (fun wx (b : Below W.heap.size W wx) (key : ByteArray) (hs : key.size ≤ 1000000) => keep_walk (cap := cap) (h.still b) hl hf c v key hs)
  have CQ := Lib.hid (fun wx (b : Below W.heap.size W wx) (ht : thereB ls c v = true) (key : ByteArray) (hs : key.size ≤ 1000000) => ref_keep (cap := cap) (h.still b) hl c v ht key hs)
  have CL := Lib.hid (fun wx (b : Below W.heap.size W wx) (hx : RdX wx K keys) (hs : ∀ key ∈ keys, key.size ≤ 1000000) => lost_walk (cap := cap) (ck := ck) (h.still b) hl hf c v hx (by omega) hs)
  have HR := Lib.hid h
  have HK := Lib.hid hK
  have eqc := eql_codes
  have nec := neq_codes
  have zc : ((1 : Int) == (1 : Int)) = true := rfl
  obtain ⟨N, hN⟩ : ∃ N, ls.length = N := ⟨_, rfl⟩
  have HN := Lib.hid hN
  obtain ⟨M, hM⟩ : ∃ M, keys.length = M := ⟨_, rfl⟩
  have HM := Lib.hid hM
  rw [hM] at CL h50 ⊢
  rw [hN] at CF CR CM CK CQ CL hl ⊢
  obtain ⟨my, hmy⟩ : ∃ my, mayL ls = my := ⟨_, rfl⟩
  have HMY := Lib.hid hmy
  rw [hmy] at CR CM
  have i5 : ¬ (50 : Int) < M := by omega
  clear h hf hK hw hM hN hmy
  go_enter Try.func3, Try.ntmps3
  go_wp2_with fail
  refine CU.out.mono ?_
  rintro e w1 ⟨rfl, b1⟩
  have C1 := Lib.hid (CF.out _ b1)
  have C2 := Lib.hid (CR.out _ b1)
  clear CF CR CU
  go_wp2_with fail
  refine C1.out.mono ?_
  rintro e w2 ⟨rfl, rfl⟩
  clear C1
  go_wp2_with fail
  refine C2.out.mono ?_
  rintro e w3 ⟨rfl, b2⟩
  have B2 := Lib.hid (b1.trans (b2.mono b1.size))
  have C3 := Lib.hid (CM.out _ B2.out)
  clear C2 b1 b2 CM
  go_wp2_with fail
  refine C3.out.mono ?_
  rintro e w4 ⟨rfl, b3⟩
  have B3 := Lib.hid (B2.out.trans (b3.mono B2.out.size))
  clear C3 b3 B2
  obtain ⟨tb, htb⟩ : ∃ tb, thereB ls c v = tb := ⟨_, rfl⟩
  have HTB := Lib.hid htb
  clear htb
  go_upto_if 36 with fail
  go_cut [12] from 36 to 56 (fun v12 wx => v12 = .bool tb ∧ w4 = wx)
  case first =>
    clear CK CQ CL
    cases my with
    | false =>
      have HE : Hid (false = tb) := Lib.hid (by rw [← HTB.out]; unfold thereB; rw [HMY.out]; rfl)
      go_wp2_with fail
      go_meet
      case rel => exact ⟨by rw [HE.out], rfl⟩
    | true =>
      by_cases h1 : 0 ≤ c
      case neg =>
        have HE : Hid (false = tb) := Lib.hid (by rw [← HTB.out]; unfold thereB; rw [decide_eq_false h1]; simp)
        go_wp2_with fail
        go_meet
        case rel => exact ⟨by rw [HE.out], rfl⟩
      by_cases h2 : c < N
      case neg =>
        have HE : Hid (false = tb) := Lib.hid (by rw [← HTB.out]; unfold thereB; rw [HN.out, decide_eq_false h2]; simp)
        go_wp2_with fail
        go_meet
        case rel => exact ⟨by rw [HE.out], rfl⟩
      by_cases h3 : 0 ≤ v
      case neg =>
        have HE : Hid (false = tb) := Lib.hid (by rw [← HTB.out]; unfold thereB; rw [decide_eq_false h3]; simp)
        go_wp2_with fail
        go_meet
        case rel => exact ⟨by rw [HE.out], rfl⟩
      obtain ⟨l0, hl0⟩ := at_some (l := ls) (i := 0) (by rw [HN.out]; omega)
      have hlev : lev ls = l0.length := by unfold lev; rw [getD_some hl0]
      obtain ⟨b, o, B, cc, rfl, _, p0, _⟩ := (HR.out.still B3.out).at hl0
      rw [Nat.add_zero, ← hlev] at p0
      obtain ⟨n, hn⟩ : ∃ n, lev ls = n := ⟨_, rfl⟩
      rw [hn] at p0
      have y0 : (0 : Int) < N := by omega
      have HE : Hid (decide (v < n) = tb) := Lib.hid (by rw [← HTB.out]; unfold thereB; rw [HMY.out, HN.out, hn, decide_eq_true h1, decide_eq_true h2, decide_eq_true h3]; simp)
      clear hl0 hlev hn
      go_wp2_with fail
      go_meet
      case rel => exact ⟨by rw [HE.out], rfl⟩
  case rest =>
    obtain ⟨rfl, rfl⟩ := hcut
    go_wp2_with fail
    cases tb with
    | false =>
      have HV := Lib.hid (fun key => keepV_no (key := key) HTB.out)
      have HVL := Lib.hid (lostV_no (keys := keys) HTB.out)
      go_loopg [13, 14, 15, 16] M (fun g s13 s14 s15 s16 wx => ∃ i : Nat, i + g = M ∧ s13 = .int .i64 0 ∧ s14 = .int .i64 (i : Nat) ∧ Hid (AllG shortK keys i ∧ Below W.heap.size W wx))
      case atStart => exact ⟨0, by omega, rfl, rfl, Lib.hid ⟨rfl, B3.out⟩⟩
      case round =>
        obtain ⟨i, hi, rfl, rfl, HG⟩ := hrel
        cases gk with
        | zero =>
          obtain rfl : i = M := by omega
          have HS := HG.out.1.whole (by rw [HM.out]; exact Nat.le_refl _)
          rw [List.all_eq_true] at HS
          have C := Lib.hid (CL.out _ HG.out.2 (HK.out.below HG.out.2) (fun key hk => by have := HS key hk; unfold shortK at this; rw [decide_eq_true_eq] at this; omega))
          rw [HVL.out] at C
          clear HS CL CK CQ
          go_wp2_with fail
          refine C.out.mono ?_
          rintro e w5 ⟨rfl, b5⟩
          go_wp2_with fail
          go_ret
          exact ⟨rfl, HG.out.2.trans (b5.mono HG.out.2.size)⟩
        | succ g =>
          have x1 : (i : Int) < M := by omega
          obtain ⟨key, hki⟩ := at_some (l := keys) (i := i) (by rw [HM.out]; omega)
          obtain ⟨b, o, rfl, hat⟩ := HK.out.at hki
          have c1 := hat wr HG.out.2
          have HI := Lib.hid hki
          clear hat hki
          by_cases hs : key.size ≤ 1000
          case neg =>
            have y1 : (1000 : Int) < key.size := by omega
            clear CL CK CQ
            go_wp2_with fail
            go_ret
            exact ⟨rfl, HG.out.2⟩
          have y1 : ¬ (1000 : Int) < key.size := by omega
          have HB : Hid (shortK key = true) := Lib.hid (decide_eq_true hs)
          have C := Lib.hid (CK.out _ HG.out.2 key (by omega))
          rw [HV.out] at C
          clear CL CK CQ
          go_wp2_with fail
          refine C.out.mono ?_
          rintro e w5 ⟨rfl, b5⟩
          have B5 := Lib.hid (HG.out.2.trans (b5.mono HG.out.2.size))
          clear b5 C
          go_wp2_with fail
          go_roundg g
          case rel => exact ⟨i + 1, by omega, rfl, by go_num, Lib.hid ⟨HG.out.1.next HI.out HB.out, B5.out⟩⟩
          case measure => omega
    | true =>
      have HV := Lib.hid (fun key => keepV_yes (key := key) HTB.out)
      have HVL := Lib.hid (lostV_yes (keys := keys) HTB.out)
      go_loopg [13, 14, 15, 16] M (fun g s13 s14 s15 s16 wx => ∃ i m : Nat, i + g = M ∧ m ≤ i ∧ s13 = .int .i64 (m : Nat) ∧ s14 = .int .i64 (i : Nat) ∧ Hid (AllG shortK keys i ∧ lostAt (thr ls c v) (keys.take i) = m ∧ Below W.heap.size W wx))
      case atStart => exact ⟨0, 0, by omega, by omega, rfl, rfl, Lib.hid ⟨rfl, rfl, B3.out⟩⟩
      case round =>
        obtain ⟨i, m, hi, hm, rfl, rfl, HG⟩ := hrel
        cases gk with
        | zero =>
          obtain rfl : i = M := by omega
          have HS := HG.out.1.whole (by rw [HM.out]; exact Nat.le_refl _)
          rw [List.all_eq_true] at HS
          have C := Lib.hid (CL.out _ HG.out.2.2 (HK.out.below HG.out.2.2) (fun key hk => by have := HS key hk; unfold shortK at this; rw [decide_eq_true_eq] at this; omega))
          have he : lostAt (thr ls c v) keys = m := by have := HG.out.2.1; rwa [List.take_of_length_le (by rw [HM.out]; exact Nat.le_refl _)] at this
          rw [HVL.out, he] at C
          clear HS CL CK CQ he
          go_wp2_with fail
          refine C.out.mono ?_
          rintro e w5 ⟨rfl, b5⟩
          go_wp2_with fail
          go_ret
          exact ⟨ret_bool (by simp), HG.out.2.2.trans (b5.mono HG.out.2.2.size)⟩
        | succ g =>
          have x1 : (i : Int) < M := by omega
          obtain ⟨key, hki⟩ := at_some (l := keys) (i := i) (by rw [HM.out]; omega)
          obtain ⟨b, o, rfl, hat⟩ := HK.out.at hki
          have c1 := hat wr HG.out.2.2
          have HAT := Lib.hid hat
          have HI := Lib.hid hki
          clear hat hki
          by_cases hs : key.size ≤ 1000
          case neg =>
            have y1 : (1000 : Int) < key.size := by omega
            clear CL CK CQ
            go_wp2_with fail
            go_ret
            exact ⟨rfl, HG.out.2.2⟩
          have y1 : ¬ (1000 : Int) < key.size := by omega
          have HB : Hid (shortK key = true) := Lib.hid (decide_eq_true hs)
          have hn := lost_next (t := thr ls c v) HI.out
          rw [HG.out.2.1] at hn
          have C := Lib.hid (CK.out _ HG.out.2.2 key (by omega))
          have CR := Lib.hid (fun wx b => CQ.out wx b HTB.out key (by omega))
          rw [HV.out] at C
          clear CL CK CQ hs
          cases hk : keptAt (thr ls c v) key with
          | true =>
            rw [hk] at C CR hn
            have HN2 := Lib.hid hn
            clear hk hn
            go_wp2_with fail
            refine C.out.mono ?_
            rintro e w5 ⟨rfl, b5⟩
            have B5 := Lib.hid (HG.out.2.2.trans (b5.mono HG.out.2.2.size))
            have c2 := HAT.out _ B5.out
            have C2 := Lib.hid (CR.out _ B5.out)
            clear b5 C CR
            go_wp2_with fail
            refine C2.out.mono ?_
            rintro e w6 ⟨rfl, b6⟩
            have B6 := Lib.hid (B5.out.trans (b6.mono B5.out.size))
            clear b6 C2
            go_wp2_with fail
            go_roundg g
            case rel => exact ⟨i + 1, m, by omega, by omega, rfl, by go_num, Lib.hid ⟨HG.out.1.next HI.out HB.out, by rw [HN2.out]; simp, B6.out⟩⟩
            case measure => omega
          | false =>
            rw [hk] at C CR hn
            have HN2 := Lib.hid hn
            clear hk hn
            go_wp2_with fail
            refine C.out.mono ?_
            rintro e w5 ⟨rfl, b5⟩
            have B5 := Lib.hid (HG.out.2.2.trans (b5.mono HG.out.2.2.size))
            have c2 := HAT.out _ B5.out
            have C2 := Lib.hid (CR.out _ B5.out)
            clear b5 C CR
            go_wp2_with fail
            refine C2.out.mono ?_
            rintro e w6 ⟨rfl, b6⟩
            have B6 := Lib.hid (B5.out.trans (b6.mono B5.out.size))
            clear b6 C2
            go_wp2_with fail
            go_roundg g
            case rel => exact ⟨i + 1, m + 1, by omega, by omega, by go_num, by go_num, Lib.hid ⟨HG.out.1.next HI.out HB.out, by rw [HN2.out]; simp, B6.out⟩⟩
            case measure => omega
theorem keeps_walk (A : Option Addr) (cap : Nat) (ls : List (List Int)) (c v : Int) (K : Option Addr) (ck : Nat) (keys : List ByteArray) (E : Nat → Prop) (W : World) (h : RdM W E A ls) (hl : ls.length ≤ 9223372036854775807) (hf : FitM ls)
    (hK : RdX W K keys) (hM : keys.length ≤ 9223372036854775807) :
    Calls Try.prog 3 #[.slice A ls.length cap, .int .i64 c, .int .i64 v, .slice K keys.length ck] W (Holds W) := by
  cases hw : fewM ls with
  | false => exact keeps_head A cap ls c v K ck keys.length E W h hl hf hM (.inl hw)
  | true =>
    by_cases h50 : keys.length ≤ 50
    · exact keeps_main A cap ls c v K ck keys E W h hl hf hK hw h50
    · exact keeps_head A cap ls c v K ck keys.length E W h hl hf hM (.inr (by omega))
end Go.Proofs.Ytidpldnkpacobaa
