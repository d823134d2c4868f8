/-
  Layer 14 (rule): rule.Of: an event's class.
-/
import Derived.Test.YtfbccngbgkddlaaDoorRuleClass
import Derived.Test.YtfbccngbgkddlaaDoorSeriesKey
namespace Go.Proofs.YtfbccngbgkddlaaDoor
open Go.ChangeShapes Go.WideShapes Go.ChangeAt Go.RowKit
set_option linter.unusedVariables false

def keyV (l : List Ru) (c : Int) (n : ByteArray) (ts : Tags) : Option Int → Value
  | some code => .tuple #[.int .i64 0, .iface 35 (.int .i64 code)]
  | none => .tuple #[.int .i64 (classOf l c ⟨(keyL n ts).toArray⟩), .nilIface]
/-- What Of answers. -/
def ofV (l : List Ru) (c : Int) (n : ByteArray) (ts : Tags) (k t : Int) : Value := if mayR l c = true then keyV l c n ts (keyErr n ts k t) else .tuple #[.int .i64 0, .iface 35 (.int .i64 1)]
theorem EvB.on {w w' : World} {g : Nat} {n : ByteArray} {A : Option Addr} {m c : Nat} {k v t : Int} (h : EvB w g n A m c k v t) (b : Below w.heap.size w w') : EvB w' g n A m c k v t := by
  unfold EvB at h ⊢; rw [b.block _ (lt_of_block h)]; exact h
set_option maxHeartbeats 1000000 in
set_option maxRecDepth 100000 in
theorem of_walk (A : Option Addr) (cap : Nat) (l : List Ru) (c : Int) (n : ByteArray) (B : Option Addr) (cb : Nat) (k v t : Int) (ts : Tags) (w : World) (hL : Laid w) (hr : RdRu w A l) (hl : l.length ≤ 9223372036854775807) (hf : FitRu l) (hc : InZ c)
    (ht : RdT w B ts) (hS : Small n ts) (v0 : -9223372036854775808 ≤ v) (v1 : v ≤ 9223372036854775807) :
    Calls Tryd.prog 8 #[.slice A l.length cap, .int .i64 c, evVal n B ts.length cb k v t] w (Tells (ofV l c n ts k t) w) := by
  have B0 := Lib.hid (below_new w (.cells #[.string n, .slice B ts.length cb, .int .i64 k, .int .i64 v, .int .i64 t] 25))
  have E0 : Hid (EvB (w.alloc (.cells #[.string n, .slice B ts.length cb, .int .i64 k, .int .i64 v, .int .i64 t] 25)) w.heap.size n B ts.length cb k v t) := Lib.hid (heap_alloc_new w _)
  have CM := Lib.hid (may_rules A cap l c (w.alloc (.cells #[.string n, .slice B ts.length cb, .int .i64 k, .int .i64 v, .int .i64 t] 25)) (hr.below B0.out) hl hf hc)
  have CK := Lib.hid (fun wx (b : Below w.heap.size w wx) => seriesKey n B cb k v t ts wx (hL.below b) (ht.below b) hS v0 v1)
  have CC := Lib.hid (fun wx (key : ByteArray) (b : Below w.heap.size w wx) => class_walk A cap l c key wx (hr.below b) hl hf hc)
  obtain ⟨N, hN⟩ : ∃ N, l.length = N := ⟨_, rfl⟩
  rw [hN] at CM CC ⊢
  clear hr hl hf hc ht hS hL hN
  cases hm : mayR l c with
  | false =>
    have HV : Hid (ofV l c n ts k t = .tuple #[.int .i64 0, .iface 35 (.int .i64 1)]) := Lib.hid (by unfold ofV; rw [hm]; rfl)
    rw [hm] at CM
    clear hm CK CC E0
    unfold evVal
    go_enter Tryd.func8, Tryd.ntmps8
    go_wp2_with fail
    refine CM.out.mono ?_
    rintro e w1 ⟨rfl, b1⟩
    have B1 := Lib.hid (B0.out.trans (b1.mono B0.out.size))
    clear b1 CM
    go_wp2_with fail
    go_ret2
    exact ⟨by rw [HV.out]; rfl, B1.out⟩
  | true =>
    have HV : Hid (ofV l c n ts k t = keyV l c n ts (keyErr n ts k t)) := Lib.hid (by unfold ofV; rw [hm]; rfl)
    have HC : Hid (∀ key, clsV l c key = .tuple #[.int .i64 (classOf l c key), .nilIface]) := Lib.hid (fun key => by unfold clsV; rw [hm]; rfl)
    rw [hm] at CM
    clear hm
    obtain ⟨r, hk⟩ : ∃ r, keyErr n ts k t = r := ⟨_, rfl⟩
    rw [hk] at CK HV
    clear hk
    unfold evVal at CK ⊢
    go_enter Tryd.func8, Tryd.ntmps8
    go_wp2_with fail
    refine CM.out.mono ?_
    rintro e w1 ⟨rfl, b1⟩
    have B1 := Lib.hid (B0.out.trans (b1.mono B0.out.size))
    have E1 := Lib.hid (E0.out.on b1)
    have c0 := E1.out.c0
    have c1 := E1.out.c1
    have c2 := E1.out.c2
    have c3 := E1.out.c3
    have c4 := E1.out.c4
    have C1 := Lib.hid (CK.out w1 B1.out)
    clear b1 CM B0 E0 CK
    go_wp2_with fail
    refine C1.out.mono ?_
    clear c0 c1 c2 c3 c4 E1 C1
    intro e w2 h
    cases r with
    | some code =>
      obtain ⟨rfl, b2⟩ := h
      have B2 := Lib.hid (B1.out.trans (b2.mono B1.out.size))
      clear b2 B1 CC HC
      go_wp2_with fail
      go_ret2
      exact ⟨by rw [HV.out]; rfl, B2.out⟩
    | none =>
      obtain ⟨rfl, b2⟩ := h
      have B2 := Lib.hid (B1.out.trans (b2.mono B1.out.size))
      have C2 := Lib.hid (CC.out w2 ⟨(keyL n ts).toArray⟩ B2.out)
      rw [HC.out] at C2
      have HV2 : Hid (ofV l c n ts k t = .tuple #[.int .i64 (classOf l c ⟨(keyL n ts).toArray⟩), .nilIface]) := Lib.hid HV.out
      clear b2 B1 CC HC HV
      generalize keyL n ts = L at *
      go_wp2_with fail
      refine C2.out.mono ?_
      rintro e w3 ⟨rfl, b3⟩
      have B3 := Lib.hid (B2.out.trans (b3.mono B2.out.size))
      clear b3 B2 C2
      go_wp2_with fail
      go_ret2
      exact ⟨by rw [HV2.out]; rfl, B3.out⟩
end Go.Proofs.YtfbccngbgkddlaaDoor
