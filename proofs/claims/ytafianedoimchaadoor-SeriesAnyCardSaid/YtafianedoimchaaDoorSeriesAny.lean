/-
  The law SeriesAny (layer 5), walked: it returns true at every event.
-/
import Derived.Test.YtafianedoimchaaDoorSeriesUp
import Derived.Test.YtafianedoimchaaDoorLinePrints
import Derived.Deep.RegionLaw
namespace Go.Proofs.YtafianedoimchaaDoor
open Go.ChangeShapes Go.WideShapes Go.ChangeAt Go.RowKit
set_option linter.unusedVariables false

theorem step_append_run {P : Program} {ops : Array Oper} {o : Oper} {a : Act} {w w' : World} {K : Act → World → Prop} {Q : Exit → Act → World → Prop} {E : Prop}
    (hg : o.guard = none) (s x : Operand) (t : TypeId) (hop : o.op = Op.call { callee := Callee.builtin Builtin.append, args := #[s, x], argTypes := #[t, t] })
    (vs vx v' : Value) (hs : a.eval s = vs) (hx : a.eval x = vx) (hrun : (Builtin.append_ #[t, t] o.type #[vs, vx]).run P w = .ok v' w') (hK : K (a.put o.dst v') w') :
    if Region.wanted o (yielded ops a.tmps) = true then Oper.wp P o a w K Q else E := by
  have hw : Region.wanted o (yielded ops a.tmps) = true := by simp [Region.wanted, hg]
  rw [if_pos hw]
  unfold Oper.wp
  simp [execOp, hop, resolve, invoke, builtin, hs, hx, hrun, Result.andThen]
  exact hK

/-- A block of an event's own behind w4, whose tags lie in a row of their own. -/
structure An (w4 : World) (n : ByteArray) (k v t : Int) (B : Option Addr) (m cap : Nat) (us : Tags) (wr : World) : Prop where
  keep : Below w4.heap.size w4 wr
  rb : EvB wr w4.heap.size n B m cap k v t
  own : OwnT wr (w4.heap.size + 1) B cap us
section
variable {w4 wr w' : World} {n : ByteArray} {k v t : Int} {B : Option Addr} {m cap : Nat} {us : Tags}
theorem An.on (h : An w4 n k v t B m cap us wr) (b : Below wr.heap.size wr w') : An w4 n k v t B m cap us w' :=
  ⟨h.keep.trans (b.mono h.keep.size), by unfold EvB; rw [b.block _ (lt_of_block h.rb)]; exact h.rb, h.own.below b⟩
theorem An.next {x y : ByteArray} {B' : Option Addr} {cap' : Nat} {ts : Tags} (h : An w4 n k v t B m cap (ts.reverse.take m) wr) (hx : ts.reverse[m]? = some (x, y)) (b : Below (w4.heap.size + 1) wr w')
    (o : OwnT w' (w4.heap.size + 1) B' cap' (ts.reverse.take m ++ [(x, y)])) :
    An w4 n k v t B' (m + 1) cap' (ts.reverse.take (m + 1)) (w'.setCell ⟨w4.heap.size, 1, none⟩ (.slice B' (m + 1) cap')) := by
  obtain ⟨hm, e⟩ := List.getElem?_eq_some_iff.1 hx
  refine ⟨(h.keep.trans (b.mono (Nat.le_succ _))).setCell (Nat.le_refl _) _, ?_, ?_⟩
  · have : EvB w' w4.heap.size n B m cap k v t := by unfold EvB; rw [b.block _ (Nat.lt_succ_self _)]; exact h.rb
    exact this.set1 B' (m + 1) cap'
  · rw [List.take_succ_eq_append_getElem hm, e]
    exact o.set _ _ (Nat.lt_succ_self _)
end

/-- A row of one's own, appended to an empty one. -/
theorem append_copy {w : World} {base : Nat} {B : Option Addr} {cap : Nat} {us : Tags} (h : OwnT w base B cap us) (hl : us.length ≤ 100) :
    ∃ D d w', (Builtin.append_ #[22, 22] 22 #[.slice (some ⟨w.heap.size, 0, none⟩) 0 0, .slice B us.length cap]).run Tryd.prog (w.alloc (.cells #[] 32)) = .ok (.slice D us.length d) w' ∧
      OwnT w' w.heap.size D d us ∧ Below w.heap.size w w' := by
  cases hi : Tryd.prog.info? 32 with
  | none => have := infoT; rw [hi] at this; cases this
  | some i =>
    have hI := infoT
    rw [hi] at hI
    simp only [Option.map_some, Option.some.injEq, Prod.mk.injEq] at hI
    obtain ⟨hz, hz1, hz2⟩ := hI
    have hv : OwnT (w.alloc (.cells #[] 32)) w.heap.size (some ⟨w.heap.size, 0, none⟩) 0 [] :=
      ⟨rfl, .inr ⟨w.heap.size, 0, #[], rfl, Nat.le_refl _, heap_alloc_new w _, Nat.le_refl _, by unfold maxLen; omega, rfl, rfl⟩⟩
    have h' := h.alloc (.cells #[] 32)
    rcases h.2 with ⟨hB, hn⟩ | ⟨g, cap', cur, hB, _⟩
    · have e : us = [] := List.eq_nil_of_length_eq_zero hn
      subst e
      cases hB
      have hrun := run_append_owned_none (P := Tryd.prog) (w := w.alloc (.cells #[] 32)) w.heap.size 22 22 32 i 2 Tryd.underlying22 hi _ _ _ hv
      exact ⟨_, _, _, hrun, hv, below_new _ _⟩
    · cases hB
      obtain ⟨v', w', hrun, hown, hgr, hnil⟩ := run_append_own (P := Tryd.prog) (w.alloc (.cells #[] 32)) w.heap.size 22 22 32 i _ 2 32 Tryd.underlying22 hi hz hz1 hz2 rfl (by omega) _ _ _ hv ⟨g, 0, none⟩ us.length cap (tagCells us) (tagCells_length us)
        (fun j u hu => World.ownsRow.cells h' (g := g) rfl j u hu)
        (fun u hu => by
          unfold tagCells at hu
          obtain ⟨p, _, hp⟩ := List.mem_flatMap.1 hu
          simp only [List.mem_cons, List.not_mem_nil, or_false] at hp
          rcases hp with rfl | rfl <;> rfl)
        (by simp only [List.length_nil]; unfold maxLen; omega) (by simp only [List.length_nil]; omega) (by simp)
      have hne : v' ≠ .slice none 0 0 := fun e => by have := (hnil.1 e).1; cases this
      rcases hown.2 with ⟨e, _⟩ | ⟨g', cap', cur, rfl, _, r⟩
      · exact absurd e hne
      · simp only [List.length_nil, Nat.zero_add] at hrun hown
        exact ⟨_, _, w', hrun, hown, (below_new w _).trans ⟨hgr.os, hgr.tape, hgr.output, hgr.size, fun k hk => hgr.block k (by simp; omega) (fun e => by simp [Value.ownBlock] at e; omega)⟩⟩

/-- What Key answers, whatever it is. -/
def Answer (n : ByteArray) (ts : Tags) (r : Option Int) (x : ByteArray) (f : Value) : Prop :=
  match r with
  | some code => x = ⟨#[]⟩ ∧ f = .iface 35 (.int .i64 code)
  | none => x = ⟨(keyL n ts).toArray⟩ ∧ f = .nilIface
theorem KeyPost.answer {w : World} {n : ByteArray} {ts : Tags} {r : Option Int} {e : Ending} {w' : World} (h : KeyPost w n ts r e w') :
    ∃ x f, Answer n ts r x f ∧ e = .returned (.tuple #[.string x, f]) ∧ Below w.heap.size w w' := by
  cases r with
  | some code => exact ⟨_, _, ⟨rfl, rfl⟩, h.1, h.2⟩
  | none => exact ⟨_, _, ⟨rfl, rfl⟩, h.1, h.2⟩

theorem Answer.same {n : ByteArray} {ts : Tags} {k t : Int} {r : Option Int} {x y : ByteArray} {f g : Value} (hk : keyErr n ts k t = r) (h1 : Answer n ts r x f) (h2 : Answer n ts.reverse r y g) : y = x ∧ g = f := by
  cases r with
  | some code => exact ⟨h2.1.trans h1.1.symm, h2.2.trans h1.2.symm⟩
  | none =>
    have e := keyL_reverse (n := n) (keyErr_none hk).2
    refine ⟨h2.1.trans ?_, h2.2.trans h1.2.symm⟩
    rw [e]
    exact h1.1.symm
theorem Small.reverse {n : ByteArray} {ts : Tags} (h : Small n ts) : Small n ts.reverse :=
  ⟨h.1, by rw [List.length_reverse]; exact h.2.1, fun x y hx => h.2.2 x y (List.mem_reverse.1 hx)⟩

set_option maxHeartbeats 4000000 in
set_option maxRecDepth 100000 in
theorem seriesAny_walk (n : ByteArray) (A : Option Addr) (c : Nat) (k v t : Int) (ts : Tags) (w : World) (hL : Laid w) (hr : RdT w A ts) (hz : Sized n ts)
    (v0 : -9223372036854775808 ≤ v) (v1 : v ≤ 9223372036854775807) :
    Calls Tryd.prog 3 #[evVal n A ts.length c k v t] w (Holds w) := by
  have E1 := Lib.hid (Ev5.start w n A c k v t ts hr hL)
  have HZ := Lib.hid hz
  clear hr hz hL
  unfold evVal
  go_enter Tryd.func3, Tryd.ntmps3
  go_wp2_with fail
  refine (up_series _ E1.out.laid).mono ?_
  rintro e w2 ⟨rfl, b2⟩
  have E2 := Lib.hid (E1.out.on b2)
  clear b2 E1
  have c0 := E2.out.go.ev.c0
  have c1 := E2.out.go.ev.c1
  have c2 := E2.out.go.ev.c2
  have c3 := E2.out.go.ev.c3
  have c4 := E2.out.go.ev.c4
  have CF := Lib.hid (refFew n A c k v t ts w2 E2.out.go.rd HZ.out.1 HZ.out.2.1 HZ.out.2.2)
  unfold evVal at CF
  rcases hf : fewB n ts with _ | _
  · rw [hf] at CF
    clear hf
    go_wp2_with fail
    refine CF.out.mono ?_
    rintro e w3 ⟨rfl, b3⟩
    have E3 := Lib.hid (E2.out.on b3)
    clear b3 E2 CF c0 c1 c2 c3 c4
    go_wp2_with fail
    go_ret
    exact ⟨rfl, E3.out.go.below⟩
  have hS := Lib.hid (small_of hf)
  have hl20 : ts.length ≤ 20 := hS.out.2.1
  rw [hf] at CF
  clear hf
  go_wp2_with fail
  refine CF.out.mono ?_
  rintro e w3 ⟨rfl, b3⟩
  have E3 := Lib.hid (E2.out.on b3)
  clear b3 E2 CF c0 c1 c2 c3 c4
  have c0 := E3.out.go.ev.c0
  have c1 := E3.out.go.ev.c1
  have c2 := E3.out.go.ev.c2
  have c3 := E3.out.go.ev.c3
  have c4 := E3.out.go.ev.c4
  have CK := Lib.hid (seriesKey n A c k v t ts w3 E3.out.laid E3.out.go.rd hS.out v0 v1)
  obtain ⟨r, hrk⟩ : ∃ r, keyErr n ts k t = r := ⟨_, rfl⟩
  rw [hrk] at CK
  have HK := Lib.hid hrk
  clear hrk
  unfold evVal at CK
  go_wp2_with fail
  refine CK.out.mono ?_
  intro e w4 h4
  obtain ⟨kx, fv, hans, rfl, b4⟩ := h4.answer
  have HA := Lib.hid hans
  have E4 := Lib.hid (E3.out.on b4)
  clear b4 h4 hans E3 CK c0 c1 c2 c3 c4
  have c0 := E4.out.go.ev.c0
  have c1 := E4.out.go.ev.c1
  have c2 := E4.out.go.ev.c2
  have c3 := E4.out.go.ev.c3
  have c4 := E4.out.go.ev.c4
  have hz4 : w.heap.size < w4.heap.size := lt_of_block E4.out.go.ev
  have hz4n : w4.heap.size ≠ w.heap.size := by omega
  go_wp2_with fail
  have A0 := Lib.hid (show An w4 n k v t none 0 0 [] (w4.alloc (.cells #[.string n, .slice none 0 0, .int .i64 k, .int .i64 v, .int .i64 t] 24)) from
    ⟨below_new _ _, heap_alloc_new w4 _, OwnT.nil _ _⟩)
  clear c0 c1 c2 c3 c4 hz4n
  go_loopg [8] (ts.length) (fun g s8 wx => ∃ (m : Nat) (B : Option Addr) (cap : Nat) (z : Int), m + g = ts.length ∧ z + 1 = g ∧ s8 = .int .i64 z ∧ Hid (An w4 n k v t B m cap (ts.reverse.take m) wx))
  case atStart => exact ⟨0, none, 0, _, by omega, by omega, rfl, A0⟩
  case round =>
    clear A0
    obtain ⟨m, B, cap, z, hmg, hzg, rfl, HG⟩ := hrel
    cases gk with
    | zero =>
      obtain rfl : z = -1 := by omega
      have hm : m = ts.length := by omega
      subst hm
      have G0 := HG.out
      rw [List.take_of_length_le (by simp)] at G0
      have hz := lt_of_block G0.rb
      have hw : w.heap.size < wr.heap.size := by omega
      have E0 := Lib.hid (E4.out.on G0.keep)
      obtain ⟨D, d, w5, r5, o5, b5⟩ := append_copy G0.own (by rw [List.length_reverse]; omega)
      rw [List.length_reverse] at r5
      have HR5 := Lib.hid r5
      have G5 := Lib.hid (G0.on b5)
      have O5 := Lib.hid o5
      have HG0 := Lib.hid G0
      have d1 := G0.rb.c1
      have q0 := G5.out.rb.c0
      have q1 := G5.out.rb.c1
      have q2 := G5.out.rb.c2
      have q3 := G5.out.rb.c3
      have q4 := G5.out.rb.c4
      clear HG G0 r5 o5 b5
      have CK := Lib.hid (seriesKey n B cap k v t ts.reverse w5 (E4.out.on G5.out.keep).laid G5.out.own.rd hS.out.reverse v0 v1)
      rw [keyErr_reverse, HK.out, List.length_reverse] at CK
      unfold evVal at CK
      go_wp2_with (at_builtin; refine wpList_append_if rfl (.tmp 48) (.tmp 50) 22 rfl _ _ _ rfl rfl HR5.out ?_)
      refine CK.out.mono ?_
      intro e w6 h6
      obtain ⟨qx, gv, hans, rfl, b6⟩ := h6.answer
      obtain ⟨rfl, rfl⟩ := HA.out.same HK.out hans
      have G6 := Lib.hid (G5.out.on b6)
      have O6 := Lib.hid (O5.out.below b6).rd
      clear h6 hans b6 G5 O5 HR5 HG0 CK E0 q0 q1 q2 q3 q4 d1 hw hz
      go_wp2_with fail
      have q1 := G6.out.rb.c1
      have np := eq_pair
      have gp := guard_pair
      go_loopg [12] (ts.length) (fun g s12 wx => ∃ (i q : Nat), i + g = ts.length ∧ s12 = .int .i64 i ∧ Hid (wx = w6.drewN q))
      case atStart => exact ⟨0, 0, by omega, rfl, Lib.hid rfl⟩
      case round =>
        obtain ⟨i, q, hig, rfl, HW⟩ := hrel
        have hw := HW.out
        subst hw
        clear HW
        cases gk with
        | zero =>
          have e1 : decide ((i : Int) < (ts.length : Int)) = false := decide_eq_false (by omega)
          have e2 : decide (i < ts.length) = false := decide_eq_false (by omega)
          have HB := Lib.hid (E4.out.on G6.out.keep)
          clear O6 G6 E4 q1 np gp
          cases r with
          | some code =>
            obtain ⟨rfl, rfl⟩ := HA.out
            go_wp2_with fail
            go_quiet (fail)
            go_wp2_with fail
            go_ret
            exact ⟨rfl, HB.out.go.below.trans ((below_drew _ _).mono HB.out.go.below.size)⟩
          | none =>
            obtain ⟨rfl, rfl⟩ := HA.out
            go_wp2_with fail
            go_quiet (fail)
            go_wp2_with fail
            have E7 := Lib.hid (HB.out.on (below_drew w6 (q + nq)))
            clear HB
            obtain ⟨w7, hw7⟩ : ∃ w7, w6.drewN (q + nq) = w7 := ⟨_, rfl⟩
            rw [hw7] at E7 ⊢
            clear hw7
            obtain ⟨hm, hri⟩ := keyErr_none HK.out
            obtain ⟨ke, kl⟩ := keyErr_of HK.out
            have hms : mayB n (sortT ts) 1 0 = true := by rw [may_perm (sortT_perm ts)]; exact may_of hm
            have CO := Lib.hid (seriesOf ⟨(keyL n ts).toArray⟩ ⟨n, sortT ts, 1, 0, 0⟩ w7 E7.out.laid
              (by
                have h := printL_le hms (v := 0) (by omega) (by omega)
                rw [print_rest, List.length_append] at h
                simp only [restL, List.length_cons, List.length_nil] at h
                show (keyL n ts).toArray.size ≤ 294
                rw [List.size_toArray]
                exact (by unfold keyL; omega))
              (by rw [show restB = ⟨restL.toArray⟩ from rfl, str_app]; exact parse_key HK.out) (may_open hms).2.2.2 true hri)
            have HSM := Lib.hid (small_of_may hms)
            have hl := sortT_len ts
            have HKE := Lib.hid ke
            have HKL := Lib.hid kl
            clear hm hri ke kl hms HK
            refine CO.out.mono ?_
            rintro e w8 ⟨D2, d2, he, r8, b8⟩
            simp only at he r8
            rw [hl] at he
            subst he
            have E8 := Lib.hid (E7.out.on b8)
            have R8 := Lib.hid r8
            clear b8 r8 E7 CO
            unfold evVal
            have E9 := Lib.hid (E8.out.on (below_new w8 (.cells #[.string n, .slice D2 ts.length d2, .int .i64 1, .int .i64 0, .int .i64 0] 24)))
            have R9 := Lib.hid (R8.out.alloc (.cells #[.string n, .slice D2 ts.length d2, .int .i64 1, .int .i64 0, .int .i64 0] 24))
            have hE : EvB (w8.alloc (.cells #[.string n, .slice D2 ts.length d2, .int .i64 1, .int .i64 0, .int .i64 0] 24)) w8.heap.size n D2 ts.length d2 1 0 0 := heap_alloc_new w8 _
            have x0 := hE.c0
            have x1 := hE.c1
            have x2 := hE.c2
            have x3 := hE.c3
            have x4 := hE.c4
            have HE := Lib.hid hE
            have CK := Lib.hid (seriesKey n D2 d2 1 0 0 (sortT ts) _ E9.out.laid R9.out HSM.out (by omega) (by omega))
            rw [HKE.out, hl] at CK
            unfold evVal at CK
            clear hE E8 R8
            go_wp2_with fail
            refine CK.out.mono ?_
            rintro e w10 ⟨he, b10⟩
            rw [HKL.out] at he
            subst he
            have E10 := Lib.hid (E9.out.on b10)
            have X10 := Lib.hid (show EvB w10 w8.heap.size n D2 ts.length d2 1 0 0 by unfold EvB; rw [b10.block _ (lt_of_block HE.out)]; exact HE.out)
            clear b10 E9 HE R9 CK x0 x1 x2 x3 x4
            have x0 := X10.out.c0
            have x1 := X10.out.c1
            have c0 := E10.out.go.ev.c0
            have c1 := E10.out.go.ev.c1
            go_wp2_with fail
            go_ret
            exact ⟨rfl, E10.out.go.below⟩
        | succ g =>
          have hlt : i < ts.length := by omega
          have hltz : (i : Int) < (ts.length : Int) := by omega
          obtain ⟨x, y, hxy⟩ : ∃ x y, ts.reverse[i]? = some (x, y) := ⟨_, _, List.getElem?_eq_getElem (by rw [List.length_reverse]; exact hlt)⟩
          rcases G6.out.own.rd with h | ⟨b1, o1, rfl, h1⟩
          · rw [h] at hxy; simp at hxy
          rcases O6.out with h | ⟨b2, o2, rfl, h2⟩
          · rw [h] at hxy; simp at hxy
          obtain ⟨p0, p1⟩ := h1 i x y hxy
          obtain ⟨s0, s1⟩ := h2 i x y hxy
          clear h1 h2 hxy
          go_wp2
          go_quiet (fail)
          go_wp2
          go_roundg g
          case rel => exact ⟨i + 1, _, by omega, by go_num, Lib.hid rfl⟩
          case measure => omega
    | succ g =>
      obtain rfl : z = (g : Int) := by omega
      have hlt : g < ts.length := by omega
      have hltz : (g : Int) < (ts.length : Int) := by omega
      obtain ⟨x, y, hxy⟩ : ∃ x y, ts[g]? = some (x, y) := ⟨_, _, List.getElem?_eq_getElem hlt⟩
      have E0 := E4.out.on HG.out.keep
      obtain ⟨b, o, hA, p0, p1⟩ := E0.go.at hxy
      have hrev : ts.reverse[m]? = some (x, y) := by
        rw [List.getElem?_reverse (by omega), show ts.length - 1 - m = g by omega]; exact hxy
      have hml : (ts.reverse.take m).length = m := by rw [List.length_take, List.length_reverse]; omega
      have hz := lt_of_block HG.out.rb
      obtain ⟨B', cap', w5, r5, o5, b5⟩ := append_tag x y (show OwnT wr.drew (w4.heap.size + 1) B cap (ts.reverse.take m) from HG.out.own) (by show w4.heap.size + 1 ≤ wr.heap.size; omega) (by omega)
      rw [hml] at r5
      have r5' : (Builtin.append_ #[22, 22] 22 #[.slice B m cap, .slice (some ⟨wr.heap.size, 0, none⟩) 1 1]).run Tryd.prog (wr.alloc (.cells #[.string x, .string y] 32)).drew = .ok (.slice B' (m + 1) cap') w5 := r5
      have HR5 := Lib.hid r5'
      have HG5 := Lib.hid (HG.out.next hrev ⟨b5.os, b5.tape, b5.output, b5.size, b5.block⟩ o5)
      have b5' : Below (w4.heap.size + 1) wr w5 := ⟨b5.os, b5.tape, b5.output, b5.size, b5.block⟩
      have c1 := E0.go.ev.c1
      have d1 := HG.out.rb.c1
      have RB := Lib.hid (show EvB w5 w4.heap.size n B m cap k v t by unfold EvB; rw [b5'.block _ (by omega)]; exact HG.out.rb)
      have q1 := RB.out.c1
      have q2 := RB.out.f 1
      have h10 : w.heap.size < wr.heap.size := by omega
      subst hA
      clear r5 r5' hrev hxy hml HG E0 b5' b5 o5
      go_wp2_with fail
      go_region_law (refine step_append_run rfl (.tmp 39) (.tmp 45) 22 rfl _ _ _ rfl rfl HR5.out ?_)
      all_goals go_wp2_with fail
      all_goals
        go_roundg g
        case rel => exact ⟨m + 1, B', cap', (g : Int) - 1, by omega, by omega, by go_num, HG5⟩
        case measure => omega
end Go.Proofs.YtafianedoimchaaDoor
