/-
  Layer 15 (sample): the law SampleMore, walked.
-/
import Derived.Test.YtidpldnkpacobaaSampleUp
namespace Go.Proofs.Ytidpldnkpacobaa
open Go.ChangeShapes Go.WideShapes Go.ChangeAt Go.RowKit Go.Deep
set_option linter.unusedVariables false

set_option maxRecDepth 100000 in
set_option maxHeartbeats 1000000 in
theorem more_walk (A : Option Addr) (cap : Nat) (ls : List (List Int)) (c v : Int) (key : ByteArray) (E : Nat → Prop) (W : World) (h : RdM W E A ls) (hl : ls.length ≤ 9223372036854775807) (hf : FitM ls)
    (hks : key.size ≤ 9223372036854775807) :
    Calls Try.prog 4 #[.slice A ls.length cap, .int .i64 c, .int .i64 v, .string key] W (Holds W) := by
  have CU := Lib.hid (up_sample W)
  have CF := Lib.hid (fun wx (b : Below W.heap.size W wx) => few_walk cap (h.still b) hl hf)
  have CK := Lib.hid (fun wx (b : Below W.heap.size W wx) (x : Int) (hs : key.size ≤ 1000000) => keep_walk (cap := cap) (h.still b) hl hf c x key hs)
  generalize ls.length = N at *
  obtain ⟨fw, hfw⟩ : ∃ fw, fewM ls = fw := ⟨_, rfl⟩
  rw [hfw] at CF
  clear h hf hfw
  cases fw with
  | false =>
    go_enter Try.func4, Try.ntmps4
    go_wp2_with fail
    refine CU.out.mono ?_
    rintro e w1 ⟨rfl, b1⟩
    have C1 := Lib.hid (CF.out _ b1)
    go_wp2_with fail
    refine C1.out.mono ?_
    rintro e w2 ⟨rfl, rfl⟩
    go_wp2_with fail
    go_ret
    exact ⟨rfl, b1⟩
  | true =>
    by_cases hk : key.size ≤ 3000
    case neg =>
      have y1 : (3000 : Int) < key.size := by omega
      go_enter Try.func4, Try.ntmps4
      go_wp2_with fail
      refine CU.out.mono ?_
      rintro e w1 ⟨rfl, b1⟩
      have C1 := Lib.hid (CF.out _ b1)
      go_wp2_with fail
      refine C1.out.mono ?_
      rintro e w2 ⟨rfl, rfl⟩
      go_wp2_with fail
      go_ret
      exact ⟨rfl, b1⟩
    have y1 : ¬ (3000 : Int) < key.size := by omega
    cases ht : thereB ls c v with
    | false =>
      have HV := Lib.hid (keepV_no (key := key) ht)
      clear ht
      go_enter Try.func4, Try.ntmps4
      go_wp2_with fail
      refine CU.out.mono ?_
      rintro e w1 ⟨rfl, b1⟩
      have C1 := Lib.hid (CF.out _ b1)
      have C2 := Lib.hid (CK.out _ b1 v (by omega))
      rw [HV.out] at C2
      go_wp2_with fail
      refine C1.out.mono ?_
      rintro e w2 ⟨rfl, rfl⟩
      go_wp2_with fail
      refine C2.out.mono ?_
      rintro e w3 ⟨rfl, b2⟩
      go_wp2_with fail
      go_ret
      exact ⟨rfl, b1.trans (b2.mono b1.size)⟩
    | true =>
      have HV := Lib.hid (keepV_yes (key := key) ht)
      have h0 := there_zero ht
      have HV0 := Lib.hid (keepV_yes (key := key) h0)
      rw [kept_zero h0 key] at HV0
      obtain ⟨hm, _, _, v0, v1⟩ := there_parts ht
      have h8 := (may_parts hm).2.2.2.1
      have z1 : IntKind.i64.wrap (v + 1) = v + 1 := by rw [IntKind.wrap_i64]; omega
      have HK2 := Lib.hid (fun h2 => kept_less (key := key) ht h2)
      clear ht h0 hm h8
      obtain ⟨k1, hk1⟩ : ∃ k1, keptAt (thr ls c v) key = k1 := ⟨_, rfl⟩
      rw [hk1] at HV HK2
      clear hk1
      cases ht2 : thereB ls c (v + 1) with
      | false =>
        have HV2 := Lib.hid (keepV_no (key := key) ht2)
        clear ht2 HK2
        go_enter Try.func4, Try.ntmps4
        go_wp2_with fail
        refine CU.out.mono ?_
        rintro e w1 ⟨rfl, b1⟩
        have C1 := Lib.hid (CF.out _ b1)
        have C2 := Lib.hid (CK.out _ b1 v (by omega))
        rw [HV.out] at C2
        go_wp2_with fail
        refine C1.out.mono ?_
        rintro e w2 ⟨rfl, rfl⟩
        go_wp2_with fail
        refine C2.out.mono ?_
        rintro e w3 ⟨rfl, b2⟩
        have B2 := Lib.hid (b1.trans (b2.mono b1.size))
        have C3 := Lib.hid (CK.out _ B2.out 0 (by omega))
        rw [HV0.out] at C3
        clear C1 C2
        go_wp2_with fail
        refine C3.out.mono ?_
        rintro e w4 ⟨rfl, b3⟩
        have B3 := Lib.hid (B2.out.trans (b3.mono B2.out.size))
        have C4 := Lib.hid (CK.out _ B3.out (v + 1) (by omega))
        rw [HV2.out] at C4
        clear C3 b3
        go_wp2_with fail
        refine C4.out.mono ?_
        rintro e w5 ⟨rfl, b4⟩
        go_wp2_with fail
        go_ret
        exact ⟨rfl, B3.out.trans (b4.mono B3.out.size)⟩
      | true =>
        have HV2 := Lib.hid (keepV_yes (key := key) ht2)
        have hk3 := HK2.out ht2
        clear ht2 HK2
        obtain ⟨k2, hk2⟩ : ∃ k2, keptAt (thr ls c (v + 1)) key = k2 := ⟨_, rfl⟩
        rw [hk2] at HV2 hk3
        clear hk2
        have HE : Hid ((!k2 || k1) = true) := Lib.hid (by cases k2 with
          | false => rfl
          | true => rw [hk3 rfl]; rfl)
        clear hk3
        go_enter Try.func4, Try.ntmps4
        go_wp2_with fail
        refine CU.out.mono ?_
        rintro e w1 ⟨rfl, b1⟩
        have C1 := Lib.hid (CF.out _ b1)
        have C2 := Lib.hid (CK.out _ b1 v (by omega))
        rw [HV.out] at C2
        go_wp2_with fail
        refine C1.out.mono ?_
        rintro e w2 ⟨rfl, rfl⟩
        go_wp2_with fail
        refine C2.out.mono ?_
        rintro e w3 ⟨rfl, b2⟩
        have B2 := Lib.hid (b1.trans (b2.mono b1.size))
        have C3 := Lib.hid (CK.out _ B2.out 0 (by omega))
        rw [HV0.out] at C3
        clear C1 C2
        go_wp2_with fail
        refine C3.out.mono ?_
        rintro e w4 ⟨rfl, b3⟩
        have B3 := Lib.hid (B2.out.trans (b3.mono B2.out.size))
        have C4 := Lib.hid (CK.out _ B3.out (v + 1) (by omega))
        rw [HV2.out] at C4
        clear C3 b3
        go_wp2_with fail
        refine C4.out.mono ?_
        rintro e w5 ⟨rfl, b4⟩
        cases k2 with
        | false =>
          go_wp2_with fail
          go_ret
          exact ⟨rfl, B3.out.trans (b4.mono B3.out.size)⟩
        | true =>
          have he : k1 = true := by have := HE.out; cases k1 <;> simp at this ⊢
          subst he
          go_wp2_with fail
          go_ret
          exact ⟨rfl, B3.out.trans (b4.mono B3.out.size)⟩
end Go.Proofs.Ytidpldnkpacobaa
