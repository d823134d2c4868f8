/-
  Layer 17: the law LedgerPlays.
-/
import Derived.Test.YthadgficphkpkaaLedgerUp
import Derived.Test.YthadgficphkpkaaDbis
import Derived.Deep.LoopGhost
import Derived.Deep.Cut
import Derived.Deep.CutRange
namespace Go.Proofs.Ythadgficphkpkaa
open Go.ChangeShapes Go.WideShapes Go.ChangeAt Go.RowKit
set_option linter.unusedVariables false

theorem neq_codes (w : World) (a b : Int) : (binOp .neq 26 (.iface 29 (.int .i64 a)) (.iface 29 (.int .i64 b))).run Try.prog w = .ok (.bool (!(a == b))) w := by
  obtain ⟨i, hi, hcmp⟩ := Option.map_eq_some_iff.1 compC
  simp only [binOp]
  simp [Op.equal, Op.maxDepth, equalIn_ints (P := Try.prog) w 9998 a b Try.underlying26 Try.underlying29 hi hcmp]
set_option maxRecDepth 100000 in
set_option maxHeartbeats 1000000 in
theorem plays_bad (N cl re : Int) (A : Option Addr) (cap n : Nat) (W : World) (h : ¬ (1 ≤ N ∧ N ≤ 4)) :
    Calls Try.prog 3 #[.int .i64 N, .slice A n cap, .int .i64 cl, .int .i64 re] W (Holds W) := by
  have CU := Lib.hid (up_ledger W)
  have CN := Lib.hid (fun w => new_bad w N h)
  unfold errD at CN
  have eqc := eql_codes
  have x : N < 1 ∨ (¬ N < 1 ∧ 4 < N) := by omega
  clear h
  rcases x with x | ⟨x1, x2⟩
  all_goals
    go_enter Try.func3, Try.ntmps3
    go_wp2_with fail
    refine CU.out.mono ?_
    rintro e w1 ⟨rfl, b1⟩
    go_wp2_with fail
    refine (CN.out _).mono ?_
    rintro e w2 ⟨rfl, rfl⟩
    go_wp2_with fail
    go_ret
    exact ⟨rfl, b1⟩
set_option maxRecDepth 100000 in
set_option maxHeartbeats 1000000 in
theorem plays_many (N cl re : Int) (A : Option Addr) (cap n : Nat) (W : World) (h : 1 ≤ N) (h4 : N ≤ 4) (hn : 500 < n) :
    Calls Try.prog 3 #[.int .i64 N, .slice A n cap, .int .i64 cl, .int .i64 re] W (Holds W) := by
  have CU := Lib.hid (up_ledger W)
  have CN := Lib.hid (fun w => new_good w N (N + 1).toNat h h4 (by omega))
  unfold Newed at CN
  have i3 : (500 : Int) < n := by omega
  have x1 : ¬ N < 1 := by omega
  have x2 : ¬ 4 < N := by omega
  clear h h4 hn
  go_enter Try.func3, Try.ntmps3
  go_wp2_with fail
  refine CU.out.mono ?_
  rintro e w1 ⟨rfl, b1⟩
  go_wp2_with fail
  refine (CN.out _).mono ?_
  rintro e w2 ⟨a, g, rfl, h2, ha, hg, b2⟩
  have B2 := Lib.hid (b1.trans (b2.mono b1.size))
  clear b1 b2 h2 ha hg CN CU
  go_wp2_with fail
  go_ret
  exact ⟨rfl, B2.out⟩
/-- The law's state at the head of a round, with what it has counted by itself. -/
structure Pw (W w : World) (a g n : Nat) (i : Int) (s : Bk) (cl re v1 v2 v3 : Int) : Prop where
  lg : Lg w a g n s
  ok : BkOk n i s
  bel : Below W.heap.size W w
  e1 : v1 = s.cm cl
  e2 : v2 = s.en cl re
  e3 : v3 = s.tot cl
section
variable {W w w' : World} {a g n : Nat} {i : Int} {s s' : Bk} {cl re v1 v2 v3 : Int}
theorem Lg.lt2 (h : Lg w a g n s) : g < w.heap.size := by
  obtain ⟨C, e, _⟩ := h.row
  exact lt_of_block e
theorem Pw.put (h : Pw W w a g n i s cl re v1 v2 v3) (o : Obj) : Pw W (w.alloc o) a g n i s cl re v1 v2 v3 :=
  ⟨h.lg.still ((Below.refl _ w).alloc (Nat.le_refl _) o), h.ok, h.bel.alloc h.bel.size o, h.e1, h.e2, h.e3⟩
theorem Pw.same (h : Pw W w a g n i s cl re v1 v2 v3) : Pw W w a g n (i + 1) s cl re v1 v2 v3 := ⟨h.lg, h.ok.more (by omega), h.bel, h.e1, h.e2, h.e3⟩
theorem Pw.note {u1 u2 u3 : Int} (h : Pw W w a g n i s cl re v1 v2 v3) (hg : W.heap.size ≤ g) (m : Ml w w' a g n s') (ok : BkOk n (i + 1) s') (e1 : u1 = s'.cm cl) (e2 : u2 = s'.en cl re) (e3 : u3 = s'.tot cl) : Pw W w' a g n (i + 1) s' cl re u1 u2 u3 :=
  ⟨m.lg, ok, h.bel.trans (m.kp.below (B := W.heap.size) (fun k e => by subst e; exact hg) h.bel.size), e1, e2, e3⟩
theorem Pw.deed {o : Obj} (h : Pw W w a g n i s cl re v1 v2 v3) (m : Ml (w.alloc o) w' a g n s') : w'.heap[w.heap.size]? = some o :=
  keeps_out m.kp (heap_alloc_new w o) (fun e => by have := h.lg.lt2; omega)
end
set_option maxRecDepth 100000 in
set_option maxHeartbeats 4000000 in
theorem plays_walk (N cl re : Int) (A : Option Addr) (cap : Nat) (l : List Dbi) (W : World) (h : 1 ≤ N) (h4 : N ≤ 4) (hA : RdB W A l) (hl : l.length ≤ 500) :
    Calls Try.prog 3 #[.int .i64 N, .slice A l.length cap, .int .i64 cl, .int .i64 re] W (Holds W) := by
  have CU := Lib.hid (up_ledger W)
  obtain ⟨n, hn⟩ : ∃ n : Nat, N + 1 = n := ⟨(N + 1).toNat, by omega⟩
  have CN := Lib.hid (fun w => new_good w N n h h4 hn)
  unfold Newed at CN
  have eqc := eql_codes
  have nec := neq_codes
  have zc : ((1 : Int) == (1 : Int)) = true := rfl
  have HN := Lib.hid hn
  have HA := Lib.hid hA
  obtain ⟨K, hK⟩ : ∃ K, l.length = K := ⟨_, rfl⟩
  have HK := Lib.hid hK
  rw [hK] at hl ⊢
  have HL := Lib.hid hl
  have i3 : ¬ (500 : Int) < K := by omega
  have i1 : ¬ N < 1 := by omega
  have i2 : ¬ 4 < N := by omega
  clear h h4 hA hK hn hl
  go_enter Try.func3, Try.ntmps3
  go_wp2_with fail
  refine CU.out.mono ?_
  rintro e w1 ⟨rfl, b1⟩
  go_wp2_with fail
  refine (CN.out _).mono ?_
  rintro e w2 ⟨a, g, rfl, h2, ha, hg, b2⟩
  have HG : Hid (W.heap.size ≤ g) := Lib.hid (Nat.le_trans b1.size hg)
  have S2 : Hid (Pw W w2 a g n 0 Bk.new cl re 0 0 0) := Lib.hid ⟨h2, BkOk.new n, b1.trans (b2.mono b1.size), rfl, rfl, rfl⟩
  clear b1 b2 h2 ha hg CN CU
  go_wp2_with fail
  clear i1 i2 i3
  go_loopg [12, 13, 14, 15] K (fun gk s12 s13 s14 s15 wx => ∃ (i : Nat) (s : Bk) (v1 v2 v3 : Int), i + gk = K ∧ s12 = .int .u64 v1 ∧ s13 = .int .u64 v2 ∧ s14 = .int .u64 v3 ∧ s15 = .int .i64 (i : Nat) ∧ Hid (Pw W wx a g n i s cl re v1 v2 v3))
  case atStart => exact ⟨0, Bk.new, 0, 0, 0, by omega, rfl, rfl, rfl, rfl, S2⟩
  case round =>
    clear S2
    obtain ⟨i, s, v1, v2, v3, hi, rfl, rfl, rfl, rfl, HS⟩ := hrel
    cases gk with
    | zero =>
      have x1 : ¬ i < K := by omega
      have i5 : (i : Int) ≤ 500 := by have := HL.out; omega
      have CR := Lib.hid (received_walk HS.out.lg cl (HS.out.ok.co cl))
      have CE := Lib.hid (ended_walk HS.out.lg cl re (HS.out.ok.eo cl re))
      rw [← HS.out.e1] at CR
      rw [← HS.out.e2] at CE
      have b0 := HS.out.ok.c0 cl
      have b1 := HS.out.ok.c1 cl
      have b2 := HS.out.ok.tot0 cl
      have b3 := HS.out.ok.t1 cl
      rw [← HS.out.e1] at b0 b1
      rw [← HS.out.e3] at b2 b3
      by_cases hc : HasC n cl
      · have CO := Lib.hid (open_walk HS.out.lg hc (HS.out.ok.e_zero cl) (HS.out.ok.e0 cl) (HS.out.ok.c0 cl) (by have := HS.out.ok.c1 cl; omega))
        unfold Opens at CO
        rw [← HS.out.e1, ← HS.out.e3] at CO
        have y1 : 0 ≤ cl := hc.1
        have y2 : cl ≤ N := by have := hc.2; have := HN.out; omega
        by_cases ht : v3 ≤ v1
        · rw [if_pos ht, decide_eq_true ht] at CO
          obtain ⟨q, hq⟩ : ∃ q, v1 - v3 = q := ⟨_, rfl⟩
          rw [hq] at CO
          have z1 : IntKind.u64.wrap (v1 - v3) = q := by rw [IntKind.wrap_u64]; omega
          clear hc hi i5 b0 b1 b2 b3 hq
          go_wp2_with fail
          refine CO.out.mono ?_
          rintro e w3 ⟨rfl, rfl⟩
          go_wp2_with fail
          refine CR.out.mono ?_
          rintro e w3 ⟨rfl, rfl⟩
          go_wp2_with fail
          refine CE.out.mono ?_
          rintro e w3 ⟨rfl, rfl⟩
          go_wp2_with fail
          go_ret
          exact ⟨rfl, HS.out.bel⟩
        · rw [if_neg ht, decide_eq_false ht] at CO
          clear hc hi i5 b0 b1 b2 b3
          go_wp2_with fail
          refine CO.out.mono ?_
          rintro e w3 ⟨rfl, rfl⟩
          go_wp2_with fail
          refine CR.out.mono ?_
          rintro e w3 ⟨rfl, rfl⟩
          go_wp2_with fail
          refine CE.out.mono ?_
          rintro e w3 ⟨rfl, rfl⟩
          go_wp2_with fail
          go_ret
          exact ⟨rfl, HS.out.bel⟩
      · have CO := Lib.hid (open_out HS.out.lg hc)
        have y : ¬ 0 ≤ cl ∨ (0 ≤ cl ∧ ¬ cl ≤ N) := by
          have := HN.out
          rcases not_c hc with y1 | ⟨y1, y2, y3⟩
          · exact .inl (by omega)
          · exact .inr ⟨y2, by omega⟩
        clear hc hi i5 b0 b1 b2 b3
        rcases y with y1 | ⟨y1, y2⟩
        all_goals
          go_wp2_with fail
          refine CO.out.mono ?_
          rintro e w3 ⟨rfl, rfl⟩
          go_wp2_with fail
          refine CR.out.mono ?_
          rintro e w3 ⟨rfl, rfl⟩
          go_wp2_with fail
          refine CE.out.mono ?_
          rintro e w3 ⟨rfl, rfl⟩
          go_wp2_with fail
          go_ret
          exact ⟨rfl, HS.out.bel⟩
    | succ gk =>
      have x1 : i < K := by omega
      obtain ⟨⟨b, x, y⟩, hd⟩ : ∃ d, l[i]? = some d := ⟨l[i]'(by have := HK.out; omega), List.getElem?_eq_getElem _⟩
      obtain ⟨b0, o, rfl, hat⟩ := HA.out.at hd
      obtain ⟨p0, p1, p2⟩ := hat _ HS.out.bel
      have HI := Lib.hid hi
      have i500 : (i : Int) < 500 := by have := HL.out; omega
      dsimp only at p0 p1 p2
      have HP := Lib.hid (HS.out.put (.cells #[.bool b, .int .i64 x, .int .i64 y] 32))
      have HD := Lib.hid (fun w' s' (m : Ml (wr.alloc (.cells #[.bool b, .int .i64 x, .int .i64 y] 32)) w' a g n s') => HS.out.deed m)
      have D0 := Lib.hid (heap_alloc_new wr (.cells #[.bool b, .int .i64 x, .int .i64 y] 32))
      obtain ⟨xb, hxb⟩ : ∃ xb, wr.heap.size = xb := ⟨_, rfl⟩
      have k1 := HP.out.ok.c1 cl
      have k2 := HP.out.ok.t1 cl
      have k3 := HP.out.ok.e1 cl re
      have k4 := HP.out.ok.c0 cl
      have k5 := HP.out.ok.tot0 cl
      have k6 := HP.out.ok.e0 cl re
      rw [← HP.out.e1] at k1 k4
      rw [← HP.out.e3] at k2 k5
      rw [← HP.out.e2] at k3 k6
      have z1 : IntKind.u64.wrap (v1 + 1) = v1 + 1 := by rw [IntKind.wrap_u64]; omega
      have z2 : IntKind.u64.wrap (v2 + 1) = v2 + 1 := by rw [IntKind.wrap_u64]; omega
      have z3 : IntKind.u64.wrap (v3 + 1) = v3 + 1 := by rw [IntKind.wrap_u64]; omega
      rw [hxb] at HD D0
      clear hd hat hi HS k1 k2 k3 k4 k5 k6
      have HE : Hid (¬ HasC n x → ¬ 0 ≤ x ∨ (0 ≤ x ∧ ¬ x ≤ N)) := Lib.hid (fun hc => by
        have := HN.out
        rcases not_c hc with y1 | ⟨y1, y2, y3⟩
        · exact .inl (by omega)
        · exact .inr ⟨y2, by omega⟩)
      cases b with
      | false =>
        by_cases hc : HasC n x
        · have CC := Lib.hid (come_good HP.out.lg hc (HP.out.ok.c0 x) (by have := HP.out.ok.c1 x; omega))
          unfold NoteGood at CC
          have OK := Lib.hid (HP.out.ok.come hc)
          have y1 : 0 ≤ x := hc.1
          have y2 : x ≤ N := by have := hc.2; have := HN.out; omega
          clear hc i500
          go_wp2_with fail
          refine CC.out.mono ?_
          rintro e w4 ⟨rfl, m4⟩
          have q0 : w4.cell? ⟨xb, 0, none⟩ = some (.bool false) := cell_of_block (HD.out _ _ m4)
          have q1 : w4.cell? ⟨xb, 1, none⟩ = some (.int .i64 x) := cell_of_block (HD.out _ _ m4)
          by_cases hx : x = cl
          · subst hx
            have S3 : Hid (Pw W w4 a g n ((i : Int) + 1) (s.come x) x re (v1 + 1) v2 v3) := Lib.hid (HP.out.note HG.out m4 OK.out (by rw [cm_come, if_pos rfl, HP.out.e1]) HP.out.e2 HP.out.e3)
            clear m4 HP CC HD D0 OK
            go_wp2_with fail
            go_roundg gk
            case rel => exact ⟨i + 1, _, _, _, _, by have := HI.out; omega, rfl, rfl, rfl, by go_num, S3⟩
            case measure => omega
          · have S3 : Hid (Pw W w4 a g n ((i : Int) + 1) (s.come x) cl re v1 v2 v3) := Lib.hid (HP.out.note HG.out m4 OK.out (by rw [cm_come, if_neg (fun e => hx e.symm), HP.out.e1]) HP.out.e2 HP.out.e3)
            clear m4 HP CC HD D0 OK
            go_wp2_with fail
            go_roundg gk
            case rel => exact ⟨i + 1, _, _, _, _, by have := HI.out; omega, rfl, rfl, rfl, by go_num, S3⟩
            case measure => omega
        · have CC := Lib.hid (come_bad HP.out.lg hc)
          unfold NoteBad errD at CC
          have S3 := Lib.hid HP.out.same
          have q0 : (wr.alloc (.cells #[.bool false, .int .i64 x, .int .i64 y] 32)).cell? ⟨xb, 0, none⟩ = some (.bool false) := cell_of_block D0.out
          have q1 : (wr.alloc (.cells #[.bool false, .int .i64 x, .int .i64 y] 32)).cell? ⟨xb, 1, none⟩ = some (.int .i64 x) := cell_of_block D0.out
          rcases HE.out hc with y1 | ⟨y1, y2⟩
          all_goals
            clear hc HP HD D0 i500 HE
            go_wp2_with fail
            refine CC.out.mono ?_
            rintro e w4 ⟨rfl, rfl⟩
            go_wp2_with fail
            go_roundg gk
            case rel => exact ⟨i + 1, _, _, _, _, by have := HI.out; omega, rfl, rfl, rfl, by go_num, S3⟩
            case measure => omega
      | true =>
        by_cases hc : HasC n x ∧ HasR y
        · have CC := Lib.hid (end_good HP.out.lg hc.1 hc.2 (HP.out.ok.e0 x y) (by have := HP.out.ok.e1 x y; omega))
          unfold NoteGood at CC
          have OK := Lib.hid (HP.out.ok.ends hc.1 hc.2)
          have HR := Lib.hid hc.2
          have y1 : 0 ≤ x := hc.1.1
          have y2 : x ≤ N := by have := hc.1.2; have := HN.out; omega
          have y3 : 1 ≤ y := hc.2.1
          have y4 : y ≤ 7 := hc.2.2
          clear hc i500
          go_wp2_with fail
          refine CC.out.mono ?_
          rintro e w4 ⟨rfl, m4⟩
          have q0 : w4.cell? ⟨xb, 0, none⟩ = some (.bool true) := cell_of_block (HD.out _ _ m4)
          have q1 : w4.cell? ⟨xb, 1, none⟩ = some (.int .i64 x) := cell_of_block (HD.out _ _ m4)
          have q2 : w4.cell? ⟨xb, 2, none⟩ = some (.int .i64 y) := cell_of_block (HD.out _ _ m4)
          by_cases hx : x = cl
          · subst hx
            by_cases hy : y = re
            · subst hy
              have S3 : Hid (Pw W w4 a g n ((i : Int) + 1) (s.ends x y) x y v1 (v2 + 1) (v3 + 1)) := Lib.hid (HP.out.note HG.out m4 OK.out HP.out.e1 (by rw [en_ends, if_pos ⟨rfl, rfl⟩, HP.out.e2]) (by rw [tot_ends _ _ HR.out, if_pos rfl, HP.out.e3]))
              clear m4 HP CC HD D0 OK
              go_wp2_with fail
              go_roundg gk
              case rel => exact ⟨i + 1, _, _, _, _, by have := HI.out; omega, rfl, rfl, rfl, by go_num, S3⟩
              case measure => omega
            · have S3 : Hid (Pw W w4 a g n ((i : Int) + 1) (s.ends x y) x re v1 v2 (v3 + 1)) := Lib.hid (HP.out.note HG.out m4 OK.out HP.out.e1 (by rw [en_ends, if_neg (fun e => hy e.2.symm), HP.out.e2]) (by rw [tot_ends _ _ HR.out, if_pos rfl, HP.out.e3]))
              clear m4 HP CC HD D0 OK
              go_wp2_with fail
              go_roundg gk
              case rel => exact ⟨i + 1, _, _, _, _, by have := HI.out; omega, rfl, rfl, rfl, by go_num, S3⟩
              case measure => omega
          · have S3 : Hid (Pw W w4 a g n ((i : Int) + 1) (s.ends x y) cl re v1 v2 v3) := Lib.hid (HP.out.note HG.out m4 OK.out HP.out.e1 (by rw [en_ends, if_neg (fun e => hx e.1.symm), HP.out.e2]) (by rw [tot_ends _ _ HR.out, if_neg (fun e => hx e.symm), HP.out.e3]))
            clear m4 HP CC HD D0 OK
            go_wp2_with fail
            go_roundg gk
            case rel => exact ⟨i + 1, _, _, _, _, by have := HI.out; omega, rfl, rfl, rfl, by go_num, S3⟩
            case measure => omega
        · have CC := Lib.hid (end_bad HP.out.lg hc)
          unfold NoteBad errD at CC
          have S3 := Lib.hid HP.out.same
          have q0 : (wr.alloc (.cells #[.bool true, .int .i64 x, .int .i64 y] 32)).cell? ⟨xb, 0, none⟩ = some (.bool true) := cell_of_block D0.out
          have q1 : (wr.alloc (.cells #[.bool true, .int .i64 x, .int .i64 y] 32)).cell? ⟨xb, 1, none⟩ = some (.int .i64 x) := cell_of_block D0.out
          have q2 : (wr.alloc (.cells #[.bool true, .int .i64 x, .int .i64 y] 32)).cell? ⟨xb, 2, none⟩ = some (.int .i64 y) := cell_of_block D0.out
          have hE : ¬ 0 ≤ x ∨ (0 ≤ x ∧ ¬ x ≤ N) ∨ (0 ≤ x ∧ x ≤ N ∧ ¬ 1 ≤ y) ∨ (0 ≤ x ∧ x ≤ N ∧ 1 ≤ y ∧ ¬ y ≤ 7) := by
            by_cases h1 : HasC n x
            · have a1 := h1.1
              have a2 : x ≤ N := by have := h1.2; have := HN.out; omega
              rcases not_r (fun h2 => hc ⟨h1, h2⟩) with r1 | ⟨r1, r2⟩
              · exact .inr (.inr (.inl ⟨a1, a2, by omega⟩))
              · exact .inr (.inr (.inr ⟨a1, a2, r1, by omega⟩))
            · rcases HE.out h1 with r1 | r1
              · exact .inl r1
              · exact .inr (.inl r1)
          clear hc HP HD D0 i500 HE
          rcases hE with y1 | ⟨y1, y2⟩ | ⟨y1, y2, y3⟩ | ⟨y1, y2, y3, y4⟩
          all_goals
            go_wp2_with fail
            refine CC.out.mono ?_
            rintro e w4 ⟨rfl, rfl⟩
            go_wp2_with fail
            go_roundg gk
            case rel => exact ⟨i + 1, _, _, _, _, by have := HI.out; omega, rfl, rfl, rfl, by go_num, S3⟩
            case measure => omega
end Go.Proofs.Ythadgficphkpkaa
