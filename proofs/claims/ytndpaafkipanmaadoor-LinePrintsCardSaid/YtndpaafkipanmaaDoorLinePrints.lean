/-
  The laws LinePrints and LineBack (layer 4), walked: they return true at every event, and every text.
-/
import Derived.Test.YtndpaafkipanmaaDoorLineTrip
import Derived.Test.YtndpaafkipanmaaDoorLineMay2
import Derived.Test.YtndpaafkipanmaaDoorLineParses
namespace Go.Proofs.YtndpaafkipanmaaDoor
open Go.ChangeShapes Go.WideShapes Go.ChangeAt Go.RowKit
set_option linter.unusedVariables false

/-- Where a law on an event stands: its own block holds the event, the library's variables are as laid. -/
structure Ev5 (w : World) (n : ByteArray) (A : Option Addr) (c : Nat) (k v t : Int) (ts : Tags) (wr : World) : Prop where
  go : Go4 w w.heap.size n A c k v t ts wr
  laid : Laid wr
theorem Ev5.on {w : World} {n : ByteArray} {A : Option Addr} {c : Nat} {k v t : Int} {ts : Tags} {wr w' : World} (h : Ev5 w n A c k v t ts wr) (b : Below wr.heap.size wr w') : Ev5 w n A c k v t ts w' :=
  ⟨⟨h.go.below.trans (b.mono h.go.below.size), by unfold EvB; rw [b.block _ (lt_of_block h.go.ev)]; exact h.go.ev, h.go.rd.below b⟩, h.laid.below b⟩
theorem Ev5.start (w : World) (n : ByteArray) (A : Option Addr) (c : Nat) (k v t : Int) (ts : Tags) (hr : RdT w A ts) (hL : Laid w) :
    Ev5 w n A c k v t ts (w.alloc (.cells #[.string n, .slice A ts.length c, .int .i64 k, .int .i64 v, .int .i64 t] 25)) :=
  ⟨Go4.start w n A c k v t ts hr, hL.alloc _⟩
def Sized (n : ByteArray) (ts : Tags) : Prop := n.size ≤ 9223372036854775807 ∧ ts.length ≤ 9223372036854775807 ∧ ∀ x y, (x, y) ∈ ts → x.size ≤ 9223372036854775807 ∧ y.size ≤ 9223372036854775807

set_option maxHeartbeats 2000000 in
set_option maxRecDepth 100000 in
theorem linePrints_walk (n : ByteArray) (A : Option Addr) (c : Nat) (k v t : Int) (ts : Tags) (w : World) (hL : Laid w) (hr : RdT w A ts) (hz : Sized n ts)
    (v0 : -9223372036854775808 ≤ v) (v1 : v ≤ 9223372036854775807) :
    Calls Tryd.prog 4 #[evVal n A ts.length c k v t] w (Holds w) := by
  have E1 := Lib.hid (Ev5.start w n A c k v t ts hr hL)
  have HZ := Lib.hid hz
  clear hr hz hL
  unfold evVal
  go_enter Tryd.func4, Tryd.ntmps4
  go_wp2_with fail
  refine (up_any _ E1.out.laid).mono ?_
  rintro e w2 ⟨rfl, b2⟩
  have E2 := Lib.hid (E1.out.on b2)
  clear b2 E1
  have c0 := E2.out.go.ev.c0
  have c1 := E2.out.go.ev.c1
  have c2 := E2.out.go.ev.c2
  have c3 := E2.out.go.ev.c3
  have c4 := E2.out.go.ev.c4
  have CF := Lib.hid (refFew n A c k v t ts w2 E2.out.go.rd HZ.out.1 HZ.out.2.1 HZ.out.2.2)
  unfold evVal at CF
  rcases hf : fewB n ts with _ | _
  · rw [hf] at CF
    clear hf
    go_wp2_with fail
    refine CF.out.mono ?_
    rintro e w3 ⟨rfl, b3⟩
    have E3 := Lib.hid (E2.out.on b3)
    clear b3 E2 CF c0 c1 c2 c3 c4
    go_wp2_with fail
    go_ret
    exact ⟨rfl, E3.out.go.below⟩
  have hS := Lib.hid (small_of hf)
  rw [hf] at CF
  clear hf
  go_wp2_with fail
  refine CF.out.mono ?_
  rintro e w3 ⟨rfl, b3⟩
  have E3 := Lib.hid (E2.out.on b3)
  clear b3 E2 CF c0 c1 c2 c3 c4
  have c0 := E3.out.go.ev.c0
  have c1 := E3.out.go.ev.c1
  have c2 := E3.out.go.ev.c2
  have c3 := E3.out.go.ev.c3
  have c4 := E3.out.go.ev.c4
  rcases hm : mayB n ts k t with _ | _
  · have CP := Lib.hid (linePrintBad n A c k v t ts w3 E3.out.go.rd hS.out hm)
    have CM := Lib.hid (fun w' h => refMay n A c k v t ts w' h hS.out)
    have CL := Lib.hid (fun w' h => lineMay n A c k v t ts w' h hS.out)
    rw [hm] at CM CL
    unfold evVal at CP CM CL
    clear hm
    obtain ⟨i, hi, hcmp⟩ := Option.map_eq_some_iff.1 compC
    have heq := fun w => eql_ints (P := Tryd.prog) w 1 1 Tryd.underlying27 Tryd.underlying30 hi hcmp
    go_wp2_with fail
    refine CP.out.mono ?_
    rintro e w4 ⟨rfl, b4⟩
    have E4 := Lib.hid (E3.out.on b4)
    clear b4 E3 CP c0 c1 c2 c3 c4
    have c0 := E4.out.go.ev.c0
    have c1 := E4.out.go.ev.c1
    have c2 := E4.out.go.ev.c2
    have c3 := E4.out.go.ev.c3
    have c4 := E4.out.go.ev.c4
    go_wp2_with fail
    refine (CM.out w4 E4.out.go.rd).mono ?_
    rintro e w5 ⟨rfl, b5⟩
    have E5 := Lib.hid (E4.out.on b5)
    clear b5 E4 CM c0 c1 c2 c3 c4
    have c0 := E5.out.go.ev.c0
    have c1 := E5.out.go.ev.c1
    have c2 := E5.out.go.ev.c2
    have c3 := E5.out.go.ev.c3
    have c4 := E5.out.go.ev.c4
    go_wp2_with fail
    refine (CL.out w5 E5.out.go.rd).mono ?_
    rintro e w6 ⟨rfl, b6⟩
    have E6 := Lib.hid (E5.out.on b6)
    clear b6 E5 CL c0 c1 c2 c3 c4
    go_wp2_with fail
    go_ret
    exact ⟨rfl, E6.out.go.below⟩
  · have CP := Lib.hid (linePrint n A c k v t ts w3 E3.out.laid E3.out.go.rd hS.out hm v0 v1)
    have CR := Lib.hid (fun w' h => refPrint n A c k v t ts w' h hS.out hm v0 v1)
    have CM := Lib.hid (fun w' h => refMay n A c k v t ts w' h hS.out)
    have CL := Lib.hid (fun w' h => lineMay n A c k v t ts w' h hS.out)
    rw [hm] at CM CL
    unfold evVal at CP CM CL CR
    clear hm
    generalize printL n ts k v t = l at CP CR
    go_wp2_with fail
    refine CP.out.mono ?_
    rintro e w4 ⟨rfl, b4⟩
    have E4 := Lib.hid (E3.out.on b4)
    clear b4 E3 CP c0 c1 c2 c3 c4
    have c0 := E4.out.go.ev.c0
    have c1 := E4.out.go.ev.c1
    have c2 := E4.out.go.ev.c2
    have c3 := E4.out.go.ev.c3
    have c4 := E4.out.go.ev.c4
    go_wp2_with fail
    refine (CM.out w4 E4.out.go.rd).mono ?_
    rintro e w5 ⟨rfl, b5⟩
    have E5 := Lib.hid (E4.out.on b5)
    clear b5 E4 CM c0 c1 c2 c3 c4
    have c0 := E5.out.go.ev.c0
    have c1 := E5.out.go.ev.c1
    have c2 := E5.out.go.ev.c2
    have c3 := E5.out.go.ev.c3
    have c4 := E5.out.go.ev.c4
    go_wp2_with fail
    refine (CL.out w5 E5.out.go.rd).mono ?_
    rintro e w6 ⟨rfl, b6⟩
    have E6 := Lib.hid (E5.out.on b6)
    clear b6 E5 CL c0 c1 c2 c3 c4
    have c0 := E6.out.go.ev.c0
    have c1 := E6.out.go.ev.c1
    have c2 := E6.out.go.ev.c2
    have c3 := E6.out.go.ev.c3
    have c4 := E6.out.go.ev.c4
    go_wp2_with fail
    refine (CR.out w6 E6.out.go.rd).mono ?_
    rintro e w7 ⟨rfl, b7⟩
    have E7 := Lib.hid (E6.out.on b7)
    clear b7 E6 CR c0 c1 c2 c3 c4
    go_wp2_with fail
    go_ret
    exact ⟨rfl, E7.out.go.below⟩

set_option maxHeartbeats 4000000 in
set_option maxRecDepth 100000 in
theorem lineBack_walk (n : ByteArray) (A : Option Addr) (c : Nat) (k v t : Int) (ts : Tags) (s : ByteArray) (w : World) (hL : Laid w) (hr : RdT w A ts) (hz : Sized n ts) (hs : s.size ≤ 9223372036854775807)
    (v0 : -9223372036854775808 ≤ v) (v1 : v ≤ 9223372036854775807) :
    Calls Tryd.prog 5 #[evVal n A ts.length c k v t, .string s] w (Holds w) := by
  have E1 := Lib.hid (Ev5.start w n A c k v t ts hr hL)
  have HZ := Lib.hid hz
  clear hr hz hL
  unfold evVal
  go_enter Tryd.func5, Tryd.ntmps5
  go_wp2_with fail
  refine (up_any _ E1.out.laid).mono ?_
  rintro e w2 ⟨rfl, b2⟩
  have E2 := Lib.hid (E1.out.on b2)
  clear b2 E1
  have c0 := E2.out.go.ev.c0
  have c1 := E2.out.go.ev.c1
  have c2 := E2.out.go.ev.c2
  have c3 := E2.out.go.ev.c3
  have c4 := E2.out.go.ev.c4
  have CF := Lib.hid (refFew n A c k v t ts w2 E2.out.go.rd HZ.out.1 HZ.out.2.1 HZ.out.2.2)
  unfold evVal at CF
  rcases hf : fewB n ts with _ | _
  · rw [hf] at CF
    clear hf
    go_wp2_with fail
    refine CF.out.mono ?_
    rintro e w3 ⟨rfl, b3⟩
    have E3 := Lib.hid (E2.out.on b3)
    clear b3 E2 CF c0 c1 c2 c3 c4
    go_wp2_with fail
    go_ret
    exact ⟨rfl, E3.out.go.below⟩
  have hS := Lib.hid (small_of hf)
  rw [hf] at CF
  clear hf
  by_cases h3 : 3000 < s.size
  · have e3 : decide ((3000 : Int) < s.size) = true := decide_eq_true (by omega)
    go_wp2_with fail
    refine CF.out.mono ?_
    rintro e w3 ⟨rfl, b3⟩
    have E3 := Lib.hid (E2.out.on b3)
    clear b3 E2 CF c0 c1 c2 c3 c4
    go_wp2_with fail
    go_ret
    exact ⟨rfl, E3.out.go.below⟩
  have e3 : decide ((3000 : Int) < s.size) = false := decide_eq_false (by omega)
  go_wp2_with fail
  refine CF.out.mono ?_
  rintro e w3 ⟨rfl, b3⟩
  have E3 := Lib.hid (E2.out.on b3)
  clear b3 E2 CF c0 c1 c2 c3 c4
  have c0 := E3.out.go.ev.c0
  have c1 := E3.out.go.ev.c1
  have c2 := E3.out.go.ev.c2
  have c3 := E3.out.go.ev.c3
  have c4 := E3.out.go.ev.c4
  rcases hm : mayB n ts k t with _ | _
  · have CP := Lib.hid (linePrintBad n A c k v t ts w3 E3.out.go.rd hS.out hm)
    unfold evVal at CP
    clear hm
    go_wp2_with fail
    refine CP.out.mono ?_
    rintro e w4 ⟨rfl, b4⟩
    have E4 := Lib.hid (E3.out.on b4)
    clear b4 E3 CP c0 c1 c2 c3 c4 e3
    go_wp2_with fail
    by_cases h300 : 300 < s.size
    · refine (parseLarge s w4 h300 (by omega)).mono ?_
      rintro e wa ⟨rfl, ba⟩
      have EA := Lib.hid (E4.out.on ba)
      clear ba E4
      unfold evZero evVal
      go_wp2_with fail
      go_ret
      exact ⟨rfl, EA.out.go.below.alloc EA.out.go.below.size _⟩
    have CP := Lib.hid (lineParse s w4 E4.out.laid (by omega))
    rcases hp : parseF s with p | ev
    · rw [hp] at CP
      clear hp
      refine CP.out.mono ?_
      rintro e wa ⟨N, rfl, sp, ba⟩
      have EA := Lib.hid (E4.out.on ba)
      clear ba E4 CP sp
      unfold evZero evVal
      go_wp2_with fail
      go_ret
      exact ⟨rfl, EA.out.go.below.alloc EA.out.go.below.size _⟩
    · rw [hp] at CP
      obtain ⟨pm, p0, p1, pe⟩ := print_parse hp
      have HPE := Lib.hid pe
      have HSM := Lib.hid (small_of_may pm)
      have HPM := Lib.hid pm
      clear hp pe pm
      refine CP.out.mono ?_
      rintro e wa ⟨B, d, rfl, oa, ba⟩
      have EA := Lib.hid (E4.out.on ba)
      have OA := Lib.hid oa.rd
      clear ba E4 CP oa
      unfold evVal
      have hE : EvB (wa.alloc (.cells #[.string ev.name, .slice B ev.tags.length d, .int .i64 ev.kind, .int .i64 ev.value, .int .i64 ev.time] 25)) wa.heap.size ev.name B ev.tags.length d ev.kind ev.value ev.time := heap_alloc_new wa _
      have c0 := hE.c0
      have c1 := hE.c1
      have c2 := hE.c2
      have c3 := hE.c3
      have c4 := hE.c4
      have CQ := Lib.hid (linePrint ev.name B d ev.kind ev.value ev.time ev.tags (wa.alloc (.cells #[.string ev.name, .slice B ev.tags.length d, .int .i64 ev.kind, .int .i64 ev.value, .int .i64 ev.time] 25)) (EA.out.laid.alloc _) (OA.out.alloc _) HSM.out HPM.out p0 p1)
      rw [HPE.out] at CQ
      unfold evVal at CQ
      clear hE
      go_wp2_with fail
      refine CQ.out.mono ?_
      rintro e wb ⟨he, bb⟩
      rw [show (⟨s.data.toList.toArray⟩ : ByteArray) = s from by cases s; rfl] at he
      subst he
      have BB := Lib.hid ((EA.out.go.below.alloc EA.out.go.below.size _).trans (bb.mono (by simp; have := EA.out.go.below.size; omega)))
      clear bb EA CQ c0 c1 c2 c3 c4
      go_wp2_with fail
      go_ret
      exact ⟨rfl, BB.out⟩
  · have CP := Lib.hid (linePrint n A c k v t ts w3 E3.out.laid E3.out.go.rd hS.out hm v0 v1)
    have hle := printL_le hm v0 v1
    have hpp := Lib.hid (parse_print hm v0 v1)
    obtain ⟨l, hl⟩ : ∃ l : ByteArray, ⟨(printL n ts k v t).toArray⟩ = l := ⟨_, rfl⟩
    have hsz : l.size ≤ 300 := by rw [← hl]; simpa [ByteArray.size] using hle
    have HL := Lib.hid hl
    rw [hl] at hpp
    have hl6 : ts.length ≤ 1000 := by have := (may_open hm).2.2.2; omega
    unfold evVal at CP
    clear hm hle hl
    go_wp2_with fail
    refine CP.out.mono ?_
    rintro e w4 ⟨he, b4⟩
    rw [HL.out] at he
    subst he
    have E4 := Lib.hid (E3.out.on b4)
    clear b4 E3 CP c0 c1 c2 c3 c4
    go_wp2_with fail
    have CX := Lib.hid (lineParse l w4 E4.out.laid hsz)
    rw [hpp.out] at CX
    refine CX.out.mono ?_
    rintro e w5 ⟨B, d, rfl, o5, b5⟩
    have E5 := Lib.hid (E4.out.on b5)
    have O5 := Lib.hid o5.rd
    clear b5 E4 CX o5 hpp
    unfold evVal
    have hE : EvB (w5.alloc (.cells #[.string n, .slice B ts.length d, .int .i64 k, .int .i64 v, .int .i64 t] 25)) w5.heap.size n B ts.length d k v t := heap_alloc_new w5 _
    have E6 := Lib.hid (E5.out.on (w' := w5.alloc (.cells #[.string n, .slice B ts.length d, .int .i64 k, .int .i64 v, .int .i64 t] 25)) ((Below.refl _ _).alloc (Nat.le_refl _) _))
    have x0 := hE.c0
    have x1 := hE.c1
    have x2 := hE.c2
    have x3 := hE.c3
    have x4 := hE.c4
    have c0 := E6.out.go.ev.c0
    have c1 := E6.out.go.ev.c1
    have c2 := E6.out.go.ev.c2
    have c3 := E6.out.go.ev.c3
    have c4 := E6.out.go.ev.c4
    have CS := Lib.hid (refSame n B A d c k v t ts _ (O5.out.alloc (.cells #[.string n, .slice B ts.length d, .int .i64 k, .int .i64 v, .int .i64 t] 25)) E6.out.go.rd hl6)
    unfold evVal at CS
    have e300 : decide ((300 : Int) < l.size) = false := decide_eq_false (by omega)
    clear hE E5 O5
    go_wp2_with fail
    refine CS.out.mono ?_
    rintro e w7 ⟨rfl, b7⟩
    have E7 := Lib.hid (E6.out.on b7)
    clear b7 E6 CS c0 c1 c2 c3 c4 x0 x1 x2 x3 x4
    go_wp2_with fail
    by_cases h300 : 300 < s.size
    · refine (parseLarge s w7 h300 (by omega)).mono ?_
      rintro e wa ⟨rfl, ba⟩
      have EA := Lib.hid (E7.out.on ba)
      clear ba E7
      unfold evZero evVal
      go_wp2_with fail
      go_ret
      exact ⟨rfl, EA.out.go.below.alloc EA.out.go.below.size _⟩
    have CP := Lib.hid (lineParse s w7 E7.out.laid (by omega))
    rcases hp : parseF s with p | ev
    · rw [hp] at CP
      clear hp
      refine CP.out.mono ?_
      rintro e wa ⟨N, rfl, sp, ba⟩
      have EA := Lib.hid (E7.out.on ba)
      clear ba E7 CP sp
      unfold evZero evVal
      go_wp2_with fail
      go_ret
      exact ⟨rfl, EA.out.go.below.alloc EA.out.go.below.size _⟩
    · rw [hp] at CP
      obtain ⟨pm, p0, p1, pe⟩ := print_parse hp
      have HPE := Lib.hid pe
      have HSM := Lib.hid (small_of_may pm)
      have HPM := Lib.hid pm
      clear hp pe pm
      refine CP.out.mono ?_
      rintro e wa ⟨B, d, rfl, oa, ba⟩
      have EA := Lib.hid (E7.out.on ba)
      have OA := Lib.hid oa.rd
      clear ba E7 CP oa
      unfold evVal
      have hE : EvB (wa.alloc (.cells #[.string ev.name, .slice B ev.tags.length d, .int .i64 ev.kind, .int .i64 ev.value, .int .i64 ev.time] 25)) wa.heap.size ev.name B ev.tags.length d ev.kind ev.value ev.time := heap_alloc_new wa _
      have c0 := hE.c0
      have c1 := hE.c1
      have c2 := hE.c2
      have c3 := hE.c3
      have c4 := hE.c4
      have CQ := Lib.hid (linePrint ev.name B d ev.kind ev.value ev.time ev.tags (wa.alloc (.cells #[.string ev.name, .slice B ev.tags.length d, .int .i64 ev.kind, .int .i64 ev.value, .int .i64 ev.time] 25)) (EA.out.laid.alloc _) (OA.out.alloc _) HSM.out HPM.out p0 p1)
      rw [HPE.out] at CQ
      unfold evVal at CQ
      clear hE
      go_wp2_with fail
      refine CQ.out.mono ?_
      rintro e wb ⟨he, bb⟩
      rw [show (⟨s.data.toList.toArray⟩ : ByteArray) = s from by cases s; rfl] at he
      subst he
      have BB := Lib.hid ((EA.out.go.below.alloc EA.out.go.below.size _).trans (bb.mono (by simp; have := EA.out.go.below.size; omega)))
      clear bb EA CQ c0 c1 c2 c3 c4
      go_wp2_with fail
      go_ret
      exact ⟨rfl, BB.out⟩
end Go.Proofs.YtndpaafkipanmaaDoor
