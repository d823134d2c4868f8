/-
  Layer 10: the law RingOrder.
-/
import Derived.Test.YtcpkkgfdgdkogaaRingUp
import Derived.Deep.LoopGhost
namespace Go.Proofs.Ytcpkkgfdgdkogaa
open Go.ChangeShapes Go.WideShapes Go.ChangeAt Go.RowKit Go.Deep
set_option linter.unusedVariables false

/-- Texts that were handed in. -/
def RdX (w : World) (A : Option Addr) (l : List ByteArray) : Prop := l = [] ∨ ∃ b o, A = some ⟨b, o, none⟩ ∧ ∀ i s, l[i]? = some s → w.cell? ⟨b, o + i, none⟩ = some (.string s)
theorem RdX.at {w : World} {A : Option Addr} {l : List ByteArray} (h : RdX w A l) {i : Nat} {s : ByteArray} (hi : l[i]? = some s) : ∃ b o, A = some ⟨b, o, none⟩ ∧ ∀ w', Below w.heap.size w w' → w'.cell? ⟨b, o + i, none⟩ = some (.string s) := by
  rcases h with rfl | ⟨b, o, e, hc⟩
  · simp at hi
  · refine ⟨b, o, e, fun w' hb => ?_⟩
    have h1 := hc i s hi
    have hl := World.block_lt_of_cell? w _ h1
    rw [hb.cell (p := ⟨b, o + i, none⟩) hl]
    exact h1
theorem cells_str : Try.prog.cellsOf 9 = 1 := by kernel_rfl
section
variable {H : Type} {enc : TypeId × Value → H} {W : World}
set_option maxRecDepth 100000 in
theorem open_texts {v : Value} {x : DataW H} {ps : List MemPlace} {r : Reach} {b0 : Nat}
    (hval : Value.okWide Try.prog W r b0 39 v) (hd : DataW.Trod enc Try.prog W 0 (fun _ => true) true 39 v x ps) :
    ∃ (A : Option Addr) (c : Nat) (l : List ByteArray), v = .slice A l.length c ∧ RdX W A l ∧ l.length ≤ maxLen := by
  obtain ⟨A0, len0, cap0, rfl⟩ := okWide_slice Try.underlying39 hval
  obtain ⟨fuel, h⟩ := hd
  rcases open_strs Try.underlying39 Try.underlying9 cells_str h with ⟨hcs, _⟩ | ⟨a, len, cap, m, Sx, hcs, _, hl, hm, hmm, _, hx⟩
  · simp [Value.cells] at hcs
    obtain ⟨rfl, rfl, rfl⟩ := hcs
    exact ⟨none, 0, [], rfl, .inl rfl, by simp⟩
  · simp [Value.cells] at hcs
    obtain ⟨rfl, rfl, rfl⟩ := hcs
    simp only [if_true] at hmm
    subst hmm
    have hlen : ((List.range len0).map Sx).length = len0 := by simp
    refine ⟨some a, _, (List.range len0).map Sx, by rw [hlen], ?_, by omega⟩
    by_cases h0 : len0 = 0
    · subst h0; exact .inl rfl
    · obtain ⟨b, o, spot⟩ := a
      have hsp : spot = none := by
        have h8 := (hx 0 (by omega)).1
        have := World.cell?_spot h8
        simpa [Addr.add] using this
      subst hsp
      refine .inr ⟨b, o, rfl, fun i s hi => ?_⟩
      rw [List.getElem?_map] at hi
      by_cases hil : i < len0
      · rw [List.getElem?_range hil] at hi
        obtain rfl := Option.some.inj hi
        have := (hx i (by omega)).1
        rw [Go.WideShapes.add_plain] at this
        exact this
      · rw [List.getElem?_eq_none (by simp; omega)] at hi
        cases hi
end
/-- Those from the k-th to ahead of the i-th. -/
def mid (l : List ByteArray) (k i : Nat) : List ByteArray := (l.take i).drop k
theorem mid_nil (l : List ByteArray) (k : Nat) : mid l k k = [] := by unfold mid; rw [List.drop_eq_nil_iff, List.length_take]; omega
theorem mid_len {l : List ByteArray} {k i : Nat} (h : i ≤ l.length) : (mid l k i).length = i - k := by unfold mid; rw [List.length_drop, List.length_take]; omega
theorem mid_push {l : List ByteArray} {k i : Nat} {s : ByteArray} (hk : k ≤ i) (h : l[i]? = some s) : mid l k i ++ [s] = mid l k (i + 1) := by
  have hl := (List.getElem?_eq_some_iff.1 h).1
  unfold mid
  have e : k - min i l.length = 0 := by omega
  rw [List.take_add_one, h, List.drop_append, List.length_take, e]
  rfl
theorem mid_pop {l : List ByteArray} {k i : Nat} {s : ByteArray} (hk : k < i) (h : l[k]? = some s) : mid l k i = s :: mid l (k + 1) i := by
  have hl := (List.getElem?_eq_some_iff.1 h)
  have h1 := hl.1
  unfold mid
  rw [List.drop_eq_getElem_cons (by rw [List.length_take]; omega), List.getElem_take, hl.2]
set_option maxRecDepth 100000 in
theorem order_bad (room : Int) (A : Option Addr) (c n : Nat) (W : World) (h : room < 1 ∨ 1000 < room) :
    Calls Try.prog 4 #[.int .i64 room, .slice A n c] W (Holds W) := by
  have CU := Lib.hid (up_ring W)
  have CN := Lib.hid (fun w => new_badS w room h)
  unfold errR at CN
  clear h
  go_enter Try.func4, Try.ntmps4
  go_wp2_with fail
  refine CU.out.mono ?_
  rintro e w1 ⟨rfl, b1⟩
  have B1 := Lib.hid b1
  clear b1 CU
  go_wp2_with fail
  refine (CN.out _).mono ?_
  rintro e w2 ⟨rfl, rfl⟩
  go_wp2_with fail
  go_ret
  exact ⟨rfl, B1.out⟩
set_option maxRecDepth 100000 in
theorem order_many (r : Nat) (A : Option Addr) (c n : Nat) (W : World) (h0 : 1 ≤ r) (h1 : r ≤ 1000) (hn : 300 < n) (hn1 : n ≤ 9223372036854775807) :
    Calls Try.prog 4 #[.int .i64 (r : Nat), .slice A n c] W (Holds W) := by
  have CU := Lib.hid (up_ring W)
  have CN := Lib.hid (fun w => newS w r h0 h1)
  have i3 : (300 : Int) < n := by omega
  go_enter Try.func4, Try.ntmps4
  go_wp2_with fail
  refine CU.out.mono ?_
  rintro e w1 ⟨rfl, b1⟩
  have B1 := Lib.hid b1
  clear b1 CU
  go_wp2_with fail
  refine (CN.out _).mono ?_
  rintro e w2 ⟨a, F, rfl, _, b2, _⟩
  have B2 := Lib.hid (B1.out.trans (b2.mono B1.out.size))
  clear b2
  go_wp2_with fail
  go_ret
  exact ⟨rfl, B2.out⟩
/-- A ring at the head of a round: there are those from the k-th to ahead of the i-th in it. -/
def RoS (W w : World) (a r : Nat) (l : List ByteArray) (k i : Nat) : Prop := (∃ F, OrS W w F a r (mid l k i)) ∧ k ≤ i ∧ i ≤ k + r
set_option maxRecDepth 100000 in
set_option maxHeartbeats 2000000 in
theorem order_walk (r : Nat) (A : Option Addr) (c : Nat) (l : List ByteArray) (W : World) (hA : RdX W A l) (h0 : 1 ≤ r) (h1 : r ≤ 1000) (hn : l.length ≤ 300) :
    Calls Try.prog 4 #[.int .i64 (r : Nat), .slice A l.length c] W (Holds W) := by
  have CU := Lib.hid (up_ring W)
  have CN := Lib.hid (fun w => newS w r h0 h1)
  have HA := Lib.hid hA
  obtain ⟨N, hN⟩ : ∃ N, l.length = N := ⟨_, rfl⟩
  have HN := Lib.hid hN
  rw [hN] at hn ⊢
  have i3 : ¬ (300 : Int) < N := by omega
  clear hA hN
  go_enter Try.func4, Try.ntmps4
  go_wp2_with fail
  refine CU.out.mono ?_
  rintro e w1 ⟨rfl, b1⟩
  have B1 := Lib.hid b1
  clear b1 CU
  go_wp2_with fail
  refine (CN.out _).mono ?_
  rintro e w2 ⟨a, F, rfl, r2, b2, hF⟩
  have R2 : Hid (RoS W w2 a r l 0 0) := Lib.hid ⟨⟨F, by rw [mid_nil]; exact Or.start r2 hF B1.out b2⟩, by omega, by omega⟩
  clear r2 b2 hF CN B1
  go_wp2_with fail
  go_loopg [8, 9, 10] N (fun g s8 s9 s10 wx => ∃ (i k : Nat), i + g = N ∧ s8 = .int .i64 (i : Nat) ∧ s9 = .int .i64 (k : Nat) ∧ s10 = .int .i64 (i : Nat) ∧ Hid (RoS W wx a r l k i))
  case atStart => exact ⟨0, 0, by omega, rfl, rfl, rfl, R2⟩
  case round =>
    clear R2
    obtain ⟨i, k, hi, rfl, rfl, rfl, HR⟩ := hrel
    cases gk with
    | zero =>
      have x1 : ¬ i < N := by omega
      obtain rfl : i = N := by omega
      go_wp2_with fail
      go_loopg [9] (i - k) (fun g s9 wx => ∃ j : Nat, j + g = i ∧ s9 = .int .i64 (j : Nat) ∧ Hid (∃ F, OrS W wx F a r (mid l j i)))
      case atStart => exact ⟨k, by have := HR.out.2.1; omega, rfl, Lib.hid HR.out.1⟩
      case round =>
        clear HR
        obtain ⟨j, hj, rfl, HJ⟩ := hrel
        cases gk with
        | zero =>
          have y1 : ¬ j < i := by omega
          obtain rfl : j = i := by omega
          obtain ⟨F, hO⟩ := HJ.out
          rw [mid_nil] at hO
          have C3 := Lib.hid (pop_noneS hO.1)
          have O3 := Lib.hid hO
          clear HJ hO
          go_wp2_with fail
          refine C3.out.mono ?_
          rintro e w3 ⟨rfl, n3, rfl⟩
          have O4 := Lib.hid (O3.out.drewN n3)
          clear C3 O3
          go_wp2_with fail
          go_ret
          exact ⟨rfl, O4.out.2.2⟩
        | succ g =>
          have y1 : j < i := by omega
          obtain ⟨s, hs⟩ : ∃ s, l[j]? = some s := ⟨l[j]'(by have := HN.out; omega), List.getElem?_eq_getElem _⟩
          obtain ⟨b0, o, rfl, hat⟩ := HA.out.at hs
          obtain ⟨F, hO⟩ := HJ.out
          rw [mid_pop y1 hs] at hO
          have C3 := Lib.hid (popS hO.1)
          have O3 := Lib.hid hO
          have HAT := Lib.hid hat
          clear HJ hO hat hs
          go_wp2_with fail
          refine C3.out.mono ?_
          rintro e w3 ⟨rfl, r3, m3⟩
          have O4 := Lib.hid (O3.out.turn r3 m3)
          have p3 := HAT.out w3 O4.out.2.2
          clear C3 O3 r3 m3
          go_wp2_with fail
          go_roundg g
          case rel => exact ⟨j + 1, by omega, by go_num, Lib.hid ⟨F, O4.out⟩⟩
          case measure => omega
    | succ g =>
      have x1 : i < N := by omega
      obtain ⟨s, hs⟩ : ∃ s, l[i]? = some s := ⟨l[i]'(by have := HN.out; omega), List.getElem?_eq_getElem _⟩
      obtain ⟨b0, o, rfl, hat⟩ := HA.out.at hs
      obtain ⟨⟨F, hO⟩, hki, hir⟩ := HR.out
      have p2 := hat _ hO.2.2
      have hlen : (mid l k i).length = i - k := mid_len (by have := HN.out; omega)
      have HAT := Lib.hid hat
      have HS := Lib.hid hs
      by_cases hf : i = k + r
      · have C3 := Lib.hid (push_fullS hO.1 (by rw [hlen]; omega) s)
        have O3 := Lib.hid hO
        have hk : k < i := by omega
        obtain ⟨t, ht⟩ : ∃ t, l[k]? = some t := ⟨l[k]'(by have := HN.out; omega), List.getElem?_eq_getElem _⟩
        obtain ⟨b1, o1, eb, hat1⟩ := HA.out.at ht
        cases eb
        have HAT1 := Lib.hid hat1
        have HT := Lib.hid ht
        have hlen1 : (mid l (k + 1) i).length = r - 1 := by rw [mid_len (by have := HN.out; omega)]; omega
        have HL := Lib.hid hlen1
        have hk2 : i ≤ k + r := by omega
        clear HR hO hat hs hat1 ht hlen hlen1 hf
        go_wp2_with fail
        refine C3.out.mono ?_
        rintro e w3 ⟨rfl, n3, e3⟩
        have O4 : Hid (OrS W w3 F a r (t :: mid l (k + 1) i)) := Lib.hid (by rw [e3, ← mid_pop hk HT.out]; exact O3.out.drewN n3)
        have C4 := Lib.hid (popS O4.out.1)
        clear C3 O3 e3
        go_wp2_with fail
        refine C4.out.mono ?_
        rintro e w4 ⟨rfl, r4, m4⟩
        have O5 := Lib.hid (O4.out.turn r4 m4)
        have p4 := HAT1.out w4 O5.out.2.2
        have q4 := HAT.out w4 O5.out.2.2
        have C5 := Lib.hid (lenS r4)
        have C6 := Lib.hid (pushS r4 (by rw [HL.out]; omega) s)
        rw [HL.out] at C5
        have z1 : ((r - 1 : Nat) : Int) = (r : Int) - 1 := by omega
        rw [z1] at C5
        clear C4 O4 r4 m4
        go_wp2_with fail
        refine C5.out.mono ?_
        rintro e w5 ⟨rfl, rfl⟩
        go_wp2_with fail
        refine C6.out.mono ?_
        rintro e w6 ⟨rfl, F6, r6, m6⟩
        have O7 : Hid (OrS W w6 F6 a r (mid l (k + 1) (i + 1))) := Lib.hid (by rw [← mid_push (by omega) HS.out]; exact O5.out.turn r6 m6)
        clear C5 C6 O5 r6 m6 p4 q4
        go_wp2_with fail
        go_roundg g
        case rel => exact ⟨i + 1, k + 1, by omega, by go_num, by go_num, by go_num, Lib.hid ⟨⟨F6, O7.out⟩, by omega, by omega⟩⟩
        case measure => omega
      · have C3 := Lib.hid (pushS hO.1 (by rw [hlen]; omega) s)
        have O3 := Lib.hid hO
        clear HR hO hat hs hlen
        go_wp2_with fail
        refine C3.out.mono ?_
        rintro e w3 ⟨rfl, F3, r3, m3⟩
        have O4 : Hid (OrS W w3 F3 a r (mid l k (i + 1))) := Lib.hid (by rw [← mid_push hki HS.out]; exact O3.out.turn r3 m3)
        clear C3 O3 r3 m3
        go_wp2_with fail
        go_roundg g
        case rel => exact ⟨i + 1, k, by omega, by go_num, rfl, by go_num, Lib.hid ⟨⟨F3, O4.out⟩, by omega, by omega⟩⟩
        case measure => omega
end Go.Proofs.Ytcpkkgfdgdkogaa
