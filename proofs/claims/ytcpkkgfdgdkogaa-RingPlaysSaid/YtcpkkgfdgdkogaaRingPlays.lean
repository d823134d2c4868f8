/-
  Layer 10: the law RingPlays.
-/
import Derived.Test.YtcpkkgfdgdkogaaRingDeeds
import Derived.Deep.LoopGhost
import Derived.Deep.RegionLaw
namespace Go.Proofs.Ytcpkkgfdgdkogaa
open Go.ChangeShapes Go.WideShapes Go.ChangeAt Go.RowKit Go.Deep
set_option linter.unusedVariables false

theorem step_append_ring {P : Program} {ops : Array Oper} {o : Oper} {a : Act} {w w' : World} {K : Act → World → Prop} {Q : Exit → Act → World → Prop} {E : Prop} {s x : Operand} {t : TypeId} {vs vx v' : Value}
    (hrun : (Builtin.append_ #[t, t] t #[vs, vx]).run P w = .ok v' w') (hop : o.op = Op.call { callee := Callee.builtin Builtin.append, args := #[s, x], argTypes := #[t, t] })
    (hg : o.guard = none) (ht : o.type = t) (hs : a.eval s = vs) (hx : a.eval x = vx) (hK : K (a.put o.dst v') w') :
    if Region.wanted o (yielded ops a.tmps) = true then Oper.wp P o a w K Q else E := by
  have hw : Region.wanted o (yielded ops a.tmps) = true := by simp [Region.wanted, hg]
  rw [if_pos hw]
  subst ht
  unfold Oper.wp
  simp [execOp, hop, resolve, invoke, builtin, hs, hx, hrun, Result.andThen]
  exact hK
set_option maxRecDepth 100000 in
theorem plays_bad (room : Int) (A : Option Addr) (c n : Nat) (W : World) (h : room < 1 ∨ 1000 < room) :
    Calls Try.prog 3 #[.int .i64 room, .slice A n c] W (Holds W) := by
  have CU := Lib.hid (up_ring W)
  have CN := Lib.hid (fun w => new_badI w room h)
  unfold errR at CN
  have eqc := eql_codes
  rcases h with h | h
  all_goals
    go_enter Try.func3, Try.ntmps3
    go_wp2_with fail
    refine CU.out.mono ?_
    rintro e w1 ⟨rfl, b1⟩
    have B1 := Lib.hid b1
    clear b1 CU
    go_wp2_with fail
    refine (CN.out _).mono ?_
    rintro e w2 ⟨rfl, rfl⟩
    go_wp2_with fail
    go_ret
    exact ⟨rfl, B1.out⟩
set_option maxRecDepth 100000 in
theorem plays_many (r : Nat) (A : Option Addr) (c n : Nat) (W : World) (h0 : 1 ≤ r) (h1 : r ≤ 1000) (hn : 300 < n) (hn1 : n ≤ 9223372036854775807) :
    Calls Try.prog 3 #[.int .i64 (r : Nat), .slice A n c] W (Holds W) := by
  have CU := Lib.hid (up_ring W)
  have CN := Lib.hid (fun w => newI w r h0 h1)
  have i3 : (300 : Int) < n := by omega
  have i1 : ¬ (r : Int) < 1 := by omega
  have i2 : ¬ (1000 : Int) < r := by omega
  go_enter Try.func3, Try.ntmps3
  go_wp2_with fail
  refine CU.out.mono ?_
  rintro e w1 ⟨rfl, b1⟩
  have B1 := Lib.hid b1
  clear b1 CU
  go_wp2_with fail
  refine (CN.out _).mono ?_
  rintro e w2 ⟨a, F, rfl, _, b2, _⟩
  have B2 := Lib.hid (B1.out.trans (b2.mono B1.out.size))
  clear b2
  go_wp2_with fail
  go_ret
  exact ⟨rfl, B2.out⟩
/-- A ring at the head of a round, and the law's own row beside it. -/
def RoI (W w : World) (F : Nat → Prop) (a r n cap : Nat) (A : Option Addr) (q : List Int) : Prop := OrI W w F a r q ∧ RdQ w F A cap q ∧ q.length = n
theorem RoI.turn {W w w' : World} {F F' : Nat → Prop} {a r n cap : Nat} {A : Option Addr} {q : List Int} (h : RoI W w F a r n cap A q) {q' : List Int} (hr : RnI w' F' a r q') (m : Mv8 w F w' F') : OrI W w' F' a r q' ∧ RdQ w' F' A cap q := ⟨h.1.turn hr m, h.2.1.turn m⟩
set_option maxRecDepth 100000 in
set_option maxHeartbeats 4000000 in
theorem plays_walk (r : Nat) (A : Option Addr) (c : Nat) (l : List (Int × Int)) (W : World) (hX : RdD W A l) (hF : Wide2 l) (h0 : 1 ≤ r) (h1 : r ≤ 1000) (hn : l.length ≤ 300) :
    Calls Try.prog 3 #[.int .i64 (r : Nat), .slice A l.length c] W (Holds W) := by
  have CU := Lib.hid (up_ring W)
  have CN := Lib.hid (fun w => newI w r h0 h1)
  have HA := Lib.hid hX
  have HF := Lib.hid hF
  obtain ⟨N, hN⟩ : ∃ N, l.length = N := ⟨_, rfl⟩
  have HN := Lib.hid hN
  rw [hN] at hn ⊢
  have i3 : ¬ (300 : Int) < N := by omega
  have i1 : ¬ (r : Int) < 1 := by omega
  have i2 : ¬ (1000 : Int) < r := by omega
  clear hX hF hN
  go_enter Try.func3, Try.ntmps3
  go_wp2_with fail
  refine CU.out.mono ?_
  rintro e w1 ⟨rfl, b1⟩
  have B1 := Lib.hid b1
  clear b1 CU
  go_wp2_with fail
  refine (CN.out _).mono ?_
  rintro e w2 ⟨a, F, rfl, r2, b2, hF⟩
  have R2 : Hid (RoI W w2 F a r 0 0 none []) := Lib.hid ⟨Or.start r2 hF B1.out b2, RdQ.nil _ _, rfl⟩
  clear r2 b2 hF CN B1
  go_wp2_with fail
  go_loopg [8, 9] N (fun g s8 s9 wx => ∃ (i n cap : Nat) (A8 : Option Addr) (F : Nat → Prop) (q : List Int), i + g = N ∧ s8 = .slice A8 n cap ∧ s9 = .int .i64 (i : Nat) ∧ Hid (RoI W wx F a r n cap A8 q))
  case atStart => exact ⟨0, 0, 0, none, F, [], by omega, rfl, rfl, R2⟩
  case round =>
    clear R2
    obtain ⟨i, n, cap, A8, F, q, hi, rfl, rfl, HR⟩ := hrel
    cases gk with
    | zero =>
      have x1 : ¬ i < N := by omega
      go_wp2_with fail
      go_ret
      exact ⟨rfl, HR.out.1.2.2⟩
    | succ g =>
      have x1 : i < N := by omega
      obtain ⟨x, y, hs⟩ : ∃ x y, l[i]? = some (x, y) := ⟨(l[i]'(by have := HN.out; omega)).1, (l[i]'(by have := HN.out; omega)).2, List.getElem?_eq_getElem _⟩
      obtain ⟨b0, o, rfl, hat⟩ := HA.out.at hs
      have hw := HF.out x y (List.mem_of_getElem? hs)
      have CP := Lib.hid (fun w => pick_walk w x hw.1 hw.2.1)
      have hlt := pickN_lt x
      obtain ⟨p, hp⟩ : ∃ p, pickN x = p := ⟨_, rfl⟩
      rw [hp] at CP hlt
      obtain ⟨hO, hQ, hn8⟩ := HR.out
      obtain ⟨p2, p3⟩ := hat _ hO.2.2
      have HAT := Lib.hid hat
      have hnr : n ≤ r := by have := hO.1.len; omega
      have HI := Lib.hid hi
      clear hs hat hp hw hi
      have hcase : p = 0 ∨ p = 1 ∨ p = 2 ∨ p = 3 := by omega
      clear hlt
      by_cases hpush : p = 0 ∨ p = 1
      · clear hcase
        by_cases hf : n = r
        · have C3 := Lib.hid (push_fullI hO.1 (by omega) y)
          have y1 : r ≤ n := by omega
          clear hO hQ hn8
          obtain rfl := hf
          rcases hpush with rfl | rfl
          all_goals
            go_wp2_with fail
            refine (CP.out _).mono ?_
            rintro e w3 ⟨rfl, rfl⟩
            go_wp2_with fail
            refine C3.out.mono ?_
            rintro e w3 ⟨rfl, n3, e3⟩
            have R3 : Hid (RoI W w3 F a n n cap A8 q) := Lib.hid (by rw [e3]; exact ⟨HR.out.1.drewN n3, HR.out.2.1.drewN n3, HR.out.2.2⟩)
            have C4 := Lib.hid (lenI R3.out.1.1)
            rw [R3.out.2.2] at C4
            clear C3 HR e3
            go_wp2_with fail
            refine C4.out.mono ?_
            rintro e w4 ⟨rfl, rfl⟩
            go_wp2_with fail
            go_roundg g
            case rel => exact ⟨i + 1, n, cap, A8, F, q, by have := HI.out; omega, rfl, by go_num, R3⟩
            case measure => omega
        · have C3 := Lib.hid (pushI hO.1 (by omega) y)
          have y1 : ¬ r ≤ n := by omega
          clear hO hQ hn8
          have hpp : p = 0 ∨ p = 1 := hpush
          rcases hpush with rfl | rfl
          all_goals
            clear hpp
            go_wp2_with fail
            refine (CP.out _).mono ?_
            rintro e w3 ⟨rfl, rfl⟩
            go_wp2_with fail
            refine C3.out.mono ?_
            rintro e w3 ⟨rfl, F3, r3, m3⟩
            have O3 := Lib.hid (HR.out.turn r3 m3)
            have l3 := HR.out.2.2
            have d3 : RdQ w3.drew F3 A8 cap q := O3.out.2.still (below_drew w3)
            have f3 : ∀ g, F3 g → g < w3.drew.heap.size := fun g hg => r3.lt hg
            have ll3 : q.length ≤ 1000 := by omega
            obtain ⟨A1, k1, u1, A2, k2, u2, GA⟩ := growA d3 ll3 y f3
            obtain ⟨B1, k3, u3, B2, k4, u4, GB⟩ := growB d3 ll3 y f3
            obtain ⟨D1, k5, u5, D2, k6, u6, GD⟩ := growC d3 ll3 y f3
            have GA : Grown w3.drew u1 u2 (w3.alloc (.cells #[] 3)).drew (u1.alloc (.cells #[.int .i64 y] 3)) F3 A8 A1 A2 cap k1 k2 w3.heap.size u1.heap.size q y := GA
            have GB : Grown w3.drew u3 u4 ((w3.alloc (.cells #[] 3)).alloc (.cells #[.int .i64 y] 3)).drew u3 F3 A8 B1 B2 cap k3 k4 w3.heap.size (w3.heap.size + 1) q y := GB
            have GD : Grown w3.drew u5 u6 ((w3.alloc (.cells #[.int .i64 y] 3)).alloc (.cells #[] 3)).drew u5 F3 A8 D1 D2 cap k5 k6 (w3.heap.size + 1) w3.heap.size q y := GD
            have cW3 := (HAT.out _ O3.out.1.2.2).2
            have cE := (HAT.out _ ((O3.out.1.still ((Below.refl w3.heap.size w3).alloc (Nat.le_refl _) (.cells #[] 3))).2.2)).2
            have cU := (HAT.out _ ((O3.out.1.still ((below_drew w3).trans GA.b1)).2.2)).2
            have E1 : Hid (RoI W u2 F3 a r (n + 1) k2 A2 (q ++ [y])) := Lib.hid ⟨O3.out.1.still ((below_drew w3).trans GA.b2), GA.q2, by simp [l3]⟩
            have E2 : Hid (RoI W u4 F3 a r (n + 1) k4 B2 (q ++ [y])) := Lib.hid ⟨O3.out.1.still ((below_drew w3).trans GB.b2), GB.q2, by simp [l3]⟩
            have E3 : Hid (RoI W u6 F3 a r (n + 1) k6 D2 (q ++ [y])) := Lib.hid ⟨O3.out.1.still ((below_drew w3).trans GD.b2), GD.q2, by simp [l3]⟩
            have C4A := Lib.hid (lenI E1.out.1.1)
            have C4B := Lib.hid (lenI E2.out.1.1)
            have C4D := Lib.hid (lenI E3.out.1.1)
            rw [E1.out.2.2] at C4A
            rw [E2.out.2.2] at C4B
            rw [E3.out.2.2] at C4D
            have ra1 := GA.r1
            have ra2 := GA.r2
            have rb1 := GB.r1
            have rb2 := GB.r2
            have rd1 := GD.r1
            have rd2 := GD.r2
            rw [l3] at ra1 ra2 rb1 rb2 rd1 rd2
            have ra1 := Lib.hid ra1
            have ra2 := Lib.hid ra2
            have rb1 := Lib.hid rb1
            have rb2 := Lib.hid rb2
            have rd1 := Lib.hid rd1
            have rd2 := Lib.hid rd2
            clear C3 HR r3 m3 d3 f3 ll3 GA GB GD O3 l3
            go_wp2_with fail
            go_region_law (first
              | ((with_reducible refine step_append_ring ra1.out (s := .tmp 115) (x := .tmp 116) ?h1 ?h2 ?h3 ?h4 ?h5 ?_); (case h1 => rfl); (case h2 => rfl); (case h3 => rfl); (case h4 => rfl); (case h5 => rfl))
              | ((with_reducible refine step_append_ring rb1.out (s := .tmp 115) (x := .tmp 116) ?h1 ?h2 ?h3 ?h4 ?h5 ?_); (case h1 => rfl); (case h2 => rfl); (case h3 => rfl); (case h4 => rfl); (case h5 => rfl))
              | ((with_reducible refine step_append_ring rd1.out (s := .tmp 115) (x := .tmp 116) ?h1 ?h2 ?h3 ?h4 ?h5 ?_); (case h1 => rfl); (case h2 => rfl); (case h3 => rfl); (case h4 => rfl); (case h5 => rfl))
              | ((with_reducible refine step_append_ring ra2.out (s := .tmp 117) (x := .tmp 123) ?h1 ?h2 ?h3 ?h4 ?h5 ?_); (case h1 => rfl); (case h2 => rfl); (case h3 => rfl); (case h4 => rfl); (case h5 => rfl))
              | ((with_reducible refine step_append_ring rb2.out (s := .tmp 117) (x := .tmp 123) ?h1 ?h2 ?h3 ?h4 ?h5 ?_); (case h1 => rfl); (case h2 => rfl); (case h3 => rfl); (case h4 => rfl); (case h5 => rfl))
              | ((with_reducible refine step_append_ring rd2.out (s := .tmp 117) (x := .tmp 123) ?h1 ?h2 ?h3 ?h4 ?h5 ?_); (case h1 => rfl); (case h2 => rfl); (case h3 => rfl); (case h4 => rfl); (case h5 => rfl))
              | fail)
            all_goals
              go_wp2_with fail
              first
                | refine C4A.out.mono ?_
                | refine C4B.out.mono ?_
                | refine C4D.out.mono ?_
              rintro e w4 ⟨rfl, rfl⟩
              go_wp2_with fail
              go_roundg g
              case rel => first
                | exact ⟨i + 1, n + 1, k2, A2, F3, q ++ [y], by have := HI.out; omega, rfl, by go_num, E1⟩
                | exact ⟨i + 1, n + 1, k4, B2, F3, q ++ [y], by have := HI.out; omega, rfl, by go_num, E2⟩
                | exact ⟨i + 1, n + 1, k6, D2, F3, q ++ [y], by have := HI.out; omega, rfl, by go_num, E3⟩
              case measure => omega
      · have hcase : p = 2 ∨ p = 3 := by omega
        clear hpush
        cases q with
        | nil =>
          obtain rfl : n = 0 := by simpa using hn8.symm
          have CF := Lib.hid (front_noneI hO.1)
          have CQ := Lib.hid (pop_noneI hO.1)
          clear hO hQ hn8 p3
          rcases hcase with rfl | rfl
          all_goals
            go_wp2_with fail
            refine (CP.out _).mono ?_
            rintro e w3 ⟨rfl, rfl⟩
            go_wp2_with fail
            first
              | refine CQ.out.mono ?_
              | refine CF.out.mono ?_
            rintro e w3 ⟨rfl, n3, e3⟩
            have R3 : Hid (RoI W w3 F a r 0 cap A8 []) := Lib.hid (by rw [e3]; exact ⟨HR.out.1.drewN n3, HR.out.2.1.drewN n3, HR.out.2.2⟩)
            have C4 := Lib.hid (lenI R3.out.1.1)
            rw [R3.out.2.2] at C4
            clear CF CQ HR e3
            go_wp2_with fail
            refine C4.out.mono ?_
            rintro e w4 ⟨rfl, rfl⟩
            go_wp2_with fail
            go_roundg g
            case rel => exact ⟨i + 1, 0, cap, A8, F, [], by have := HI.out; omega, rfl, by go_num, R3⟩
            case measure => omega
        | cons z q =>
          obtain ⟨k, hk⟩ : ∃ k, q.length = k := ⟨_, rfl⟩
          obtain rfl : n = k + 1 := by simp only [List.length_cons] at hn8; omega
          have CF := Lib.hid (front_someI hO.1)
          have CQ := Lib.hid (popI hO.1)
          obtain ⟨b8, o8, rfl, c8⟩ := hQ.head
          obtain ⟨A9, cap9, s9, q9⟩ := hQ.tail
          rw [hk] at s9
          have y2 : 0 < k + 1 := by omega
          have Q9 := Lib.hid q9
          have HK := Lib.hid hk
          clear hn8 p3 q9 hk
          rcases hcase with rfl | rfl
          · go_wp2_with fail
            refine (CP.out _).mono ?_
            rintro e w3 ⟨rfl, rfl⟩
            go_wp2_with fail
            refine CQ.out.mono ?_
            rintro e w3 ⟨rfl, r3, m3⟩
            have R3 : Hid (RoI W w3 F a r k cap9 A9 q) := Lib.hid ⟨HR.out.1.turn r3 m3, Q9.out.turn m3, HK.out⟩
            have c9 := (HR.out.2.1.turn m3).head
            obtain ⟨b9, o9, e9, c9⟩ := c9
            cases e9
            have C4 := Lib.hid (lenI R3.out.1.1)
            rw [R3.out.2.2] at C4
            clear CF CQ HR r3 m3 hO hQ
            go_wp2_with fail
            refine C4.out.mono ?_
            rintro e w4 ⟨rfl, rfl⟩
            go_wp2_with fail
            go_roundg g
            case rel => exact ⟨i + 1, k, cap9, A9, F, q, by have := HI.out; omega, rfl, by go_num, R3⟩
            case measure => omega
          · go_wp2_with fail
            refine (CP.out _).mono ?_
            rintro e w3 ⟨rfl, rfl⟩
            go_wp2_with fail
            refine CF.out.mono ?_
            rintro e w3 ⟨rfl, n3, e3⟩
            have R3 : Hid (RoI W w3 F a r (k + 1) cap (some ⟨b8, o8, none⟩) (z :: q)) := Lib.hid (by rw [e3]; exact ⟨HR.out.1.drewN n3, HR.out.2.1.drewN n3, HR.out.2.2⟩)
            obtain ⟨b9, o9, e9, c9⟩ := R3.out.2.1.head
            cases e9
            have C4 := Lib.hid (lenI R3.out.1.1)
            rw [R3.out.2.2] at C4
            clear CF CQ HR e3 hO hQ
            go_wp2_with fail
            refine C4.out.mono ?_
            rintro e w4 ⟨rfl, rfl⟩
            go_wp2_with fail
            go_roundg g
            case rel => exact ⟨i + 1, k + 1, cap, some ⟨b8, o8, none⟩, F, z :: q, by have := HI.out; omega, rfl, by go_num, R3⟩
            case measure => omega
end Go.Proofs.Ytcpkkgfdgdkogaa
