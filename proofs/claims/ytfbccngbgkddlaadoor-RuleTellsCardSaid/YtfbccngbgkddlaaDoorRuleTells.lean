/-
  Layer 14 (rule): the law RuleTells, walked.
-/
import Derived.Test.YtfbccngbgkddlaaDoorRuleOf
import Derived.Test.YtfbccngbgkddlaaDoorRuleRef
import Derived.Test.YtfbccngbgkddlaaDoorRuleRefKey
import Derived.Test.YtfbccngbgkddlaaDoorRuleUp
import Derived.Test.YtfbccngbgkddlaaDoorOpenEv
namespace Go.Proofs.YtfbccngbgkddlaaDoor
open Go.ChangeShapes Go.WideShapes Go.ChangeAt Go.RowKit
set_option linter.unusedVariables false

/-- The event in its own block, and all that was there. -/
structure Es (W : World) (n : ByteArray) (B : Option Addr) (m cb : Nat) (k v t : Int) (w : World) : Prop where
  bel : Below W.heap.size W w
  ev : EvB w W.heap.size n B m cb k v t
section
variable {W w w' : World} {n : ByteArray} {B : Option Addr} {m cb : Nat} {k v t : Int}
theorem Es.start : Es W n B m cb k v t (W.alloc (.cells #[.string n, .slice B m cb, .int .i64 k, .int .i64 v, .int .i64 t] 25)) := ⟨below_new _ _, heap_alloc_new _ _⟩
theorem Es.on (h : Es W n B m cb k v t w) (b : Below w.heap.size w w') : Es W n B m cb k v t w' := ⟨h.bel.trans (b.mono h.bel.size), h.ev.on b⟩
end
theorem keyErr_codes {n : ByteArray} {ts : Tags} {k t code : Int} (h : keyErr n ts k t = some code) : code = 1 ∨ code = 5 := by
  unfold keyErr at h
  split at h
  · split at h
    · cases h
    · cases h; exact .inr rfl
  · cases h; exact .inl rfl
theorem fewR_parts {l : List Ru} (h : fewU l = true) : l.length ≤ 40 := by
  unfold fewU at h
  simp only [Bool.and_eq_true, decide_eq_true_eq] at h
  exact h.2

set_option maxHeartbeats 1000000 in
set_option maxRecDepth 100000 in
theorem tells_head (A : Option Addr) (cap : Nat) (l : List Ru) (c : Int) (key : ByteArray) (n : ByteArray) (B : Option Addr) (cb : Nat) (k v t : Int) (ts : Tags) (W : World) (hr : RdRu W A l) (hl : l.length ≤ 9223372036854775807) (hf : FitRu l)
    (hks : key.size ≤ 9223372036854775807) (ht : RdT W B ts) (hz : Sized n ts) (h : fewEv n ts = false ∨ fewU l = false ∨ 3000 < key.size) :
    Calls Tryd.prog 3 #[.slice A l.length cap, .int .i64 c, .string key, evVal n B ts.length cb k v t] W (Holds W) := by
  have E0 := Lib.hid (Es.start (W := W) (n := n) (B := B) (m := ts.length) (cb := cb) (k := k) (v := v) (t := t))
  have CU := Lib.hid (up_rule (W.alloc (.cells #[.string n, .slice B ts.length cb, .int .i64 k, .int .i64 v, .int .i64 t] 25)))
  have CE := Lib.hid (fun wx (b : Below W.heap.size W wx) => refFew n B cb k v t ts wx (ht.below b) hz.1 hz.2.1 hz.2.2)
  have CF := Lib.hid (fun wx (b : Below W.heap.size W wx) => few_walk A cap l wx (hr.below b) hl hf)
  obtain ⟨fe, hfe⟩ : ∃ fe, fewEv n ts = fe := ⟨_, rfl⟩
  obtain ⟨fw, hfw⟩ : ∃ fw, fewU l = fw := ⟨_, rfl⟩
  obtain ⟨N, hN⟩ : ∃ N, l.length = N := ⟨_, rfl⟩
  rw [hfw, hN] at CF
  rw [hfe] at CE
  rw [hfe, hfw] at h
  rw [hN]
  clear hr hf hfw hfe ht hz hl hN
  have H3 : Hid (fe = true → fw = true → (3000 : Int) < key.size) := Lib.hid (fun e1 e2 => by
    rcases h with h | h | h
    · rw [e1] at h; cases h
    · rw [e2] at h; cases h
    · omega)
  clear h
  unfold evVal at CE ⊢
  go_enter Tryd.func3, Tryd.ntmps3
  go_wp2_with fail
  refine CU.out.mono ?_
  rintro e w1 ⟨rfl, b1⟩
  have E1 := Lib.hid (E0.out.on b1)
  have C1 := Lib.hid (CE.out _ E1.out.bel)
  have c0 := E1.out.ev.c0
  have c1 := E1.out.ev.c1
  have c2 := E1.out.ev.c2
  have c3 := E1.out.ev.c3
  have c4 := E1.out.ev.c4
  clear b1 CU CE E0
  go_wp2_with fail
  refine C1.out.mono ?_
  clear c0 c1 c2 c3 c4 C1
  rintro e w2 ⟨rfl, b2⟩
  have E2 := Lib.hid (E1.out.on b2)
  have C2 := Lib.hid (CF.out _ E2.out.bel)
  clear b2 E1 CF
  go_wp2_with fail
  refine C2.out.mono ?_
  rintro e w3 ⟨rfl, rfl⟩
  clear C2
  cases fe with
  | false =>
    clear H3
    cases fw
    all_goals
      go_wp2_with fail
      go_ret
      exact ⟨rfl, E2.out.bel⟩
  | true =>
    cases fw with
    | false =>
      clear H3
      go_wp2_with fail
      go_ret
      exact ⟨rfl, E2.out.bel⟩
    | true =>
      have y1 := H3.out rfl rfl
      clear H3
      go_wp2_with fail
      go_ret
      exact ⟨rfl, E2.out.bel⟩

set_option maxHeartbeats 2000000 in
set_option maxRecDepth 100000 in
theorem tells_good (A : Option Addr) (cap : Nat) (l : List Ru) (c : Int) (key : ByteArray) (n : ByteArray) (B : Option Addr) (cb : Nat) (k v t : Int) (ts : Tags) (W : World) (hL : Laid W) (hr : RdRu W A l) (hf : FitRu l) (hc : InZ c)
    (hks : key.size ≤ 3000) (ht : RdT W B ts) (hz : Sized n ts) (hfe : fewEv n ts = true) (hfw : fewU l = true) (v0 : -9223372036854775808 ≤ v) (v1 : v ≤ 9223372036854775807) :
    Calls Tryd.prog 3 #[.slice A l.length cap, .int .i64 c, .string key, evVal n B ts.length cb k v t] W (Holds W) := by
  have hl40 := fewR_parts hfw
  have hS := small_of hfe
  have E0 := Lib.hid (Es.start (W := W) (n := n) (B := B) (m := ts.length) (cb := cb) (k := k) (v := v) (t := t))
  have CU := Lib.hid (up_rule (W.alloc (.cells #[.string n, .slice B ts.length cb, .int .i64 k, .int .i64 v, .int .i64 t] 25)))
  have CE := Lib.hid (fun wx (b : Below W.heap.size W wx) => refFew n B cb k v t ts wx (ht.below b) hz.1 hz.2.1 hz.2.2)
  have CF := Lib.hid (fun wx (b : Below W.heap.size W wx) => few_walk A cap l wx (hr.below b) (by omega) hf)
  have CC := Lib.hid (fun wx (b : Below W.heap.size W wx) => class_walk A cap l c key wx (hr.below b) (by omega) hf hc)
  have CO := Lib.hid (fun wx (b : Below W.heap.size W wx) => of_walk A cap l c n B cb k v t ts wx (hL.below b) (hr.below b) (by omega) hf hc (ht.below b) hS v0 v1)
  have CR := Lib.hid (fun wx (b : Below W.heap.size W wx) => ref_rules A cap l c wx (hr.below b) (by omega) hf hc)
  have CM := Lib.hid (fun wx (b : Below W.heap.size W wx) => may_rules A cap l c wx (hr.below b) (by omega) hf hc)
  have CK := Lib.hid (fun wx (b : Below W.heap.size W wx) => refKey14 n B cb k v t ts wx (ht.below b) hS)
  have CX := Lib.hid (fun wx (b : Below W.heap.size W wx) (x : ByteArray) (h1 : 1 ≤ c) (h4 : c ≤ 4) => ref_class A cap l c x wx (hr.below b) (by omega) h1 h4)
  obtain ⟨N, hN⟩ : ∃ N, l.length = N := ⟨_, rfl⟩
  rw [hfw, hN] at CF
  rw [hfe] at CE
  rw [hN] at CC CO CR CM CX ⊢
  have y1 : ¬ (3000 : Int) < key.size := by omega
  have he := eql_codes
  clear hr hf hfw hfe ht hz hl40 hN hc hS hL v0 v1
  unfold evVal at CE CO CK ⊢
  go_enter Tryd.func3, Tryd.ntmps3
  go_wp2_with fail
  refine CU.out.mono ?_
  rintro e w1 ⟨rfl, b1⟩
  have E1 := Lib.hid (E0.out.on b1)
  have C1 := Lib.hid (CE.out _ E1.out.bel)
  have c0 := E1.out.ev.c0
  have c1 := E1.out.ev.c1
  have c2 := E1.out.ev.c2
  have c3 := E1.out.ev.c3
  have c4 := E1.out.ev.c4
  clear b1 CU CE E0
  go_wp2_with fail
  refine C1.out.mono ?_
  clear c0 c1 c2 c3 c4 C1
  rintro e w2 ⟨rfl, b2⟩
  have E2 := Lib.hid (E1.out.on b2)
  have C2 := Lib.hid (CF.out _ E2.out.bel)
  clear b2 E1 CF
  go_wp2_with fail
  refine C2.out.mono ?_
  rintro e w3 ⟨rfl, rfl⟩
  have C3 := Lib.hid (CC.out _ E2.out.bel)
  clear C2 CC
  cases hm : mayR l c with
  | false =>
    have g1 : clsV l c key = .tuple #[.int .i64 0, .iface 35 (.int .i64 1)] := by unfold clsV; rw [hm]; rfl
    have g2 : ofV l c n ts k t = .tuple #[.int .i64 0, .iface 35 (.int .i64 1)] := by unfold ofV; rw [hm]; rfl
    rw [g1] at C3
    rw [g2] at CO
    rw [hm] at CR CM
    clear hm g1 g2 CK CX
    go_wp2_with fail
    refine C3.out.mono ?_
    rintro e w4 ⟨rfl, b4⟩
    have E4 := Lib.hid (E2.out.on b4)
    have C4 := Lib.hid (CO.out _ E4.out.bel)
    have c0 := E4.out.ev.c0
    have c1 := E4.out.ev.c1
    have c2 := E4.out.ev.c2
    have c3 := E4.out.ev.c3
    have c4 := E4.out.ev.c4
    clear b4 C3 CO E2
    go_wp2_with fail
    refine C4.out.mono ?_
    clear c0 c1 c2 c3 c4 C4
    rintro e w5 ⟨rfl, b5⟩
    have E5 := Lib.hid (E4.out.on b5)
    have C5 := Lib.hid (CR.out _ E5.out.bel)
    have C6 := Lib.hid (CM.out _ E5.out.bel)
    clear b5 E4 CR CM
    go_wp2_with fail
    refine C5.out.mono ?_
    rintro e w6 ⟨rfl, rfl⟩
    go_wp2_with fail
    refine C6.out.mono ?_
    rintro e w7 ⟨rfl, b7⟩
    have E7 := Lib.hid (E5.out.on b7)
    clear b7 E5 C5 C6
    go_wp2_with fail
    go_ret
    exact ⟨rfl, E7.out.bel⟩
  | true =>
    obtain ⟨h1, h4, _, _⟩ := may_class hm
    have CX := Lib.hid (fun wx b x => CX.out wx b x h1 h4)
    have g1 : clsV l c key = .tuple #[.int .i64 (classOf l c key), .nilIface] := by unfold clsV; rw [hm]; rfl
    have g2 : ofV l c n ts k t = keyV l c n ts (keyErr n ts k t) := by unfold ofV; rw [hm]; rfl
    rw [g1] at C3
    rw [g2] at CO
    rw [hm] at CR CM
    clear hm g1 g2 h1 h4
    obtain ⟨r, hk⟩ : ∃ r, keyErr n ts k t = r := ⟨_, rfl⟩
    rw [hk] at CO CK
    have HK := Lib.hid hk
    clear hk
    have CA := Lib.hid (fun wx b => CX.out wx b key)
    generalize classOf l c key = a at C3 CA
    go_wp2_with fail
    refine C3.out.mono ?_
    rintro e w4 ⟨rfl, b4⟩
    have E4 := Lib.hid (E2.out.on b4)
    have C4 := Lib.hid (CO.out _ E4.out.bel)
    have c0 := E4.out.ev.c0
    have c1 := E4.out.ev.c1
    have c2 := E4.out.ev.c2
    have c3 := E4.out.ev.c3
    have c4 := E4.out.ev.c4
    clear b4 C3 CO E2
    go_wp2_with fail
    refine C4.out.mono ?_
    clear c0 c1 c2 c3 c4 C4
    rintro e w5 ⟨rfl, b5⟩
    have E5 := Lib.hid (E4.out.on b5)
    have C5 := Lib.hid (CR.out _ E5.out.bel)
    have C6 := Lib.hid (CK.out _ E5.out.bel)
    have c0 := E5.out.ev.c0
    have c1 := E5.out.ev.c1
    have c2 := E5.out.ev.c2
    have c3 := E5.out.ev.c3
    have c4 := E5.out.ev.c4
    clear b5 E4 CR CK
    cases r with
    | some code =>
      clear CX
      unfold keyV
      rcases keyErr_codes HK.out with rfl | rfl
      all_goals
        clear HK
        go_wp2_with fail
        refine C5.out.mono ?_
        rintro e w6 ⟨rfl, rfl⟩
        go_wp2_with fail
        refine C6.out.mono ?_
        clear c0 c1 c2 c3 c4 C5 C6
        rintro e w7 ⟨rfl, b7⟩
        have E7 := Lib.hid (E5.out.on b7)
        have C7 := Lib.hid (CM.out _ E7.out.bel)
        clear b7 E5 CM
        go_wp2_with fail
        refine C7.out.mono ?_
        rintro e w8 ⟨rfl, b8⟩
        have E8 := Lib.hid (E7.out.on b8)
        have C8 := Lib.hid (CA.out _ E8.out.bel)
        clear b8 E7 C7 CA
        go_wp2_with fail
        refine C8.out.mono ?_
        rintro e w9 ⟨rfl, b9⟩
        have E9 := Lib.hid (E8.out.on b9)
        have CD1 : Hid (Calls Tryd.prog 13 #[.iface 35 (.int .i64 1)] w9 fun e w' => e = .returned (.int .i64 1) ∧ w' = w9) := Lib.hid (code_of w9 1 (by omega) (by omega))
        have CD5 : Hid (Calls Tryd.prog 13 #[.iface 35 (.int .i64 5)] w9 fun e w' => e = .returned (.int .i64 5) ∧ w' = w9) := Lib.hid (code_of w9 5 (by omega) (by omega))
        clear b9 E8 C8
        go_wp2_with fail
        first
          | with_reducible refine CD1.out.mono ?_
          | with_reducible refine CD5.out.mono ?_
        rintro e w10 ⟨rfl, rfl⟩
        go_wp2_with fail
        go_ret
        exact ⟨rfl, E9.out.bel⟩
    | none =>
      clear HK
      unfold keyV
      have CB := Lib.hid (fun wx b => CX.out wx b ⟨(keyL n ts).toArray⟩)
      have HT : Hid (∀ w e w', KeyTold w n ts none e w' → e = .returned (.tuple #[.string ⟨(keyL n ts).toArray⟩, .int .i64 0]) ∧ Below w.heap.size w w') := Lib.hid (fun _ _ _ h => h)
      generalize (⟨(keyL n ts).toArray⟩ : ByteArray) = K at *
      generalize classOf l c K = d at *
      clear CX
      go_wp2_with fail
      refine C5.out.mono ?_
      rintro e w6 ⟨rfl, rfl⟩
      go_wp2_with fail
      refine C6.out.mono ?_
      clear c0 c1 c2 c3 c4 C5 C6
      intro e w7 h7
      obtain ⟨rfl, b7⟩ := HT.out _ _ _ h7
      have E7 := Lib.hid (E5.out.on b7)
      have C7 := Lib.hid (CM.out _ E7.out.bel)
      clear b7 h7 HT E5 CM
      go_wp2_with fail
      refine C7.out.mono ?_
      rintro e w8 ⟨rfl, b8⟩
      have E8 := Lib.hid (E7.out.on b8)
      have C8 := Lib.hid (CA.out _ E8.out.bel)
      clear b8 E7 C7 CA
      go_wp2_with fail
      refine C8.out.mono ?_
      rintro e w9 ⟨rfl, b9⟩
      have E9 := Lib.hid (E8.out.on b9)
      have C9 := Lib.hid (CB.out _ E9.out.bel)
      clear b9 E8 C8 CB
      go_wp2_with fail
      refine C9.out.mono ?_
      rintro e w10 ⟨rfl, b10⟩
      have E10 := Lib.hid (E9.out.on b10)
      clear b10 E9 C9
      go_wp2_with fail
      go_ret
      exact ⟨rfl, E10.out.bel⟩
theorem tells_walk (A : Option Addr) (cap : Nat) (l : List Ru) (c : Int) (key : ByteArray) (n : ByteArray) (B : Option Addr) (cb : Nat) (k v t : Int) (ts : Tags) (W : World) (hL : Laid W) (hr : RdRu W A l) (hl : l.length ≤ 9223372036854775807) (hf : FitRu l) (hc : InZ c)
    (hks : key.size ≤ 9223372036854775807) (ht : RdT W B ts) (hz : Sized n ts) (v0 : -9223372036854775808 ≤ v) (v1 : v ≤ 9223372036854775807) :
    Calls Tryd.prog 3 #[.slice A l.length cap, .int .i64 c, .string key, evVal n B ts.length cb k v t] W (Holds W) := by
  cases hfe : fewEv n ts with
  | false => exact tells_head A cap l c key n B cb k v t ts W hr hl hf hks ht hz (.inl hfe)
  | true =>
    cases hfw : fewU l with
    | false => exact tells_head A cap l c key n B cb k v t ts W hr hl hf hks ht hz (.inr (.inl hfw))
    | true =>
      by_cases h3 : 3000 < key.size
      · exact tells_head A cap l c key n B cb k v t ts W hr hl hf hks ht hz (.inr (.inr h3))
      · exact tells_good A cap l c key n B cb k v t ts W hL hr hf hc (by omega) ht hz hfe hfw v0 v1
end Go.Proofs.YtfbccngbgkddlaaDoor
