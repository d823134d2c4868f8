/-
  Layer 12 (deficit): whether all numbers may be; whether all are none; a row copied; the statement's own parts.
-/
import Derived.Test.YtjlmefjgolbfiaaRowQ
import Derived.LoopTactic
import Derived.Deep.LoopGhost
import Derived.Deep.QuietTactic
import Derived.BigQuiet
import Derived.RegionTactic
import Derived.Deep.RegionLaw
import Derived.Shelf.Abstract
import Derived.Lib.SliceRun
namespace Go.Proofs.Ytjlmefjgolbfiaa
open Go.ChangeShapes Go.WideShapes Go.ChangeAt Go.RowKit Go.Shelf
set_option linter.unusedVariables false

theorem ret_b {a b : Bool} (h : a = b) : Ending.returned (.bool a) = .returned (.bool b) := by rw [h]
section
variable {w w' : World} {E : Nat → Prop} {A : Option Addr} {cap : Nat} {l : List Int}
set_option maxRecDepth 100000 in
theorem index_walk (h : RdQ w E A cap l) (P : Int → Bool) (fid : FuncId) (cs : Array Value) (eg : ∀ args w, (callFunc fid args).run Try.prog w = .ok (.enter fid args) w)
    (hp : ∀ x, Calls Try.prog fid (#[.int .i64 x] ++ cs) w fun e w' => e = .returned (.bool (P x)) ∧ w = w') (hl : l.length ≤ 9223372036854775807) :
    Calls Try.prog 19 #[.slice A l.length cap, .func (.func fid) #[] cs] w fun e w' => ∃ z : Int, e = .returned (.int .i64 z) ∧ decide (0 ≤ z) = l.any P ∧ w = w' := by
  have HR := Lib.hid h
  have HP := Lib.hid hp
  have hl2 := hl
  obtain ⟨N, hN⟩ : ∃ N, l.length = N := ⟨_, rfl⟩
  have HN := Lib.hid hN
  rw [hN] at hl2 ⊢
  clear h hp hN hl
  go_enter Try.func19, Try.ntmps19
  go_wp2_with fail
  go_loopg [5, 8] N (fun g s5 s8 wx => ∃ i : Nat, i + g = N ∧ s8 = .int .i64 (i : Nat) ∧ Hid (∀ (j : Nat) (x : Int), j < i → l[j]? = some x → P x = false) ∧ Hid (w = wx))
  case atStart => exact ⟨0, by omega, rfl, Lib.hid (fun j x hj => by omega), Lib.hid rfl⟩
  case round =>
    obtain ⟨i, hi, rfl, HB, HW⟩ := hrel
    obtain rfl := HW.out
    cases gk with
    | zero =>
      obtain rfl : i = N := by omega
      go_wp2_with fail
      go_ret
      refine ⟨-1, rfl, ?_, rfl⟩
      symm
      rw [decide_eq_false (by omega), List.any_eq_false]
      intro x hx
      obtain ⟨j, hj⟩ := List.getElem?_of_mem hx
      have := HB.out j x (by have := (List.getElem?_eq_some_iff.1 hj).1; have := HN.out; omega) hj
      simp [this]
    | succ g =>
      have x1 : (i : Int) < N := by omega
      obtain ⟨x, hx⟩ : ∃ x, l[i]? = some x := ⟨l[i]'(by have := HN.out; omega), List.getElem?_eq_getElem _⟩
      obtain ⟨b, o, rfl, hc, _⟩ := HR.out.at hx
      have HX := Lib.hid hx
      clear hx
      go_wp2_with fail
      go_at_fn fid
      refine (HP.out x).mono ?_
      rintro e w' ⟨rfl, rfl⟩
      cases hpx : P x with
      | true =>
        have HPX := Lib.hid hpx
        clear hpx
        go_wp2_with fail
        go_ret
        refine ⟨i, rfl, ?_, rfl⟩
        symm
        rw [decide_eq_true (by omega), List.any_eq_true]
        exact ⟨x, List.mem_of_getElem? HX.out, HPX.out⟩
      | false =>
        have HPX := Lib.hid hpx
        clear hpx
        go_wp2_with fail
        go_roundg g
        case rel => exact ⟨i + 1, by omega, by go_num, Lib.hid (fun j y hj hy => by
          by_cases e : j = i
          · subst e
            have := HX.out
            rw [hy] at this
            cases this
            exact HPX.out
          · exact HB.out j y (by omega) hy), Lib.hid rfl⟩
        case measure => omega
theorem contains_walk (h : RdQ w E A cap l) (P : Int → Bool) (fid : FuncId) (cs : Array Value) (eg : ∀ args w, (callFunc fid args).run Try.prog w = .ok (.enter fid args) w)
    (hp : ∀ x, Calls Try.prog fid (#[.int .i64 x] ++ cs) w fun e w' => e = .returned (.bool (P x)) ∧ w = w') (hl : l.length ≤ 9223372036854775807) :
    Calls Try.prog 16 #[.slice A l.length cap, .func (.func fid) #[] cs] w fun e w' => e = .returned (.bool (l.any P)) ∧ w = w' := by
  have C := Lib.hid (index_walk h P fid cs eg hp hl)
  clear h hp
  go_enter Try.func16, Try.ntmps16
  go_wp2_with fail
  refine C.out.mono ?_
  rintro e w' ⟨z, rfl, hz, rfl⟩
  by_cases h0 : 0 ≤ z
  · have HZ := Lib.hid hz
    clear hz C
    go_wp2_with fail
    go_ret
    exact ⟨ret_b ((decide_eq_true h0).symm.trans HZ.out), rfl⟩
  · have HZ := Lib.hid hz
    clear hz C
    go_wp2_with fail
    go_ret
    exact ⟨ret_b HZ.out, rfl⟩
def inB (least x : Int) : Bool := decide (x < least) || decide (1000 < x)
theorem eg_in : ∀ args w, (callFunc 17 args).run Try.prog w = .ok (.enter 17 args) w := enters_of Try.func17 (by kernel_rfl) rfl
theorem eg_none : ∀ args w, (callFunc 18 args).run Try.prog w = .ok (.enter 18 args) w := enters_of Try.func18 (by kernel_rfl) rfl
theorem in_one {p : Nat} {least : Int} (hc : w.cell? ⟨p, 0, none⟩ = some (.int .i64 least)) (x : Int) :
    Calls Try.prog 17 (#[.int .i64 x] ++ #[.pointer (some ⟨p, 0, none⟩)]) w fun e w' => e = .returned (.bool (inB least x)) ∧ w = w' := by
  simp only [List.push_toArray, List.nil_append, List.cons_append, Array.append_singleton]
  by_cases h1 : x < least
  · go_enter Try.func17, Try.ntmps17
    go_wp2_with fail
    go_ret
    exact ⟨ret_b (by unfold inB; rw [decide_eq_true h1]; rfl), rfl⟩
  · go_enter Try.func17, Try.ntmps17
    go_wp2_with fail
    go_ret
    exact ⟨ret_b (by unfold inB; rw [show decide (x < least) = false from decide_eq_false (by omega)]; rfl), rfl⟩
theorem none_one (x : Int) : Calls Try.prog 18 (#[.int .i64 x] ++ #[]) w fun e w' => e = .returned (.bool (decide (0 < x))) ∧ w = w' := by
  simp only [Array.append_empty]
  go_enter Try.func18, Try.ntmps18
  go_wp2_with fail
  go_ret
  exact ⟨rfl, rfl⟩
theorem within_walk (h : RdQ w E A cap l) (least : Int) (hl : l.length ≤ 9223372036854775807) :
    Calls Try.prog 11 #[.slice A l.length cap, .int .i64 least] w fun e w' => e = .returned (.bool (!l.any (inB least))) ∧ w' = w.alloc (.cells #[.int .i64 least] 3) := by
  have hmf : ∀ (fn : Fn) (first cap : Array Value) (w : World), (Instr.makeFunc fn first cap).run Try.prog w = .ok (.func fn first cap) w := fun _ _ _ _ => rfl
  have C := Lib.hid (contains_walk (h.still ((Below.refl _ w).alloc (Nat.le_refl _) (.cells #[.int .i64 least] 3))) (inB least) 17 #[.pointer (some ⟨w.heap.size, 0, none⟩)] eg_in (in_one (by rw [cell_of_block (heap_alloc_new w _)]; rfl)) hl)
  clear h
  go_enter Try.func11, Try.ntmps11
  go_wp2_with fail
  refine C.out.mono ?_
  rintro e w' ⟨rfl, rfl⟩
  clear C
  generalize hz : l.any (inB least) = z
  go_wp2_with fail
  go_ret
  subst hz
  exact ⟨rfl, rfl⟩
theorem none_walk (h : RdQ w E A cap l) (hl : l.length ≤ 9223372036854775807) :
    Calls Try.prog 13 #[.slice A l.length cap] w fun e w' => e = .returned (.bool (!l.any fun x => decide (0 < x))) ∧ w = w' := by
  have C := Lib.hid (contains_walk h (fun x => decide (0 < x)) 18 #[] eg_none none_one hl)
  clear h
  go_enter Try.func13, Try.ntmps13
  go_wp2_with fail
  refine C.out.mono ?_
  rintro e w' ⟨rfl, rfl⟩
  clear C
  generalize hz : l.any (fun x => decide (0 < x)) = z
  go_wp2_with fail
  go_ret
  subst hz
  exact ⟨rfl, rfl⟩
/-- 'slices.Clone'. -/
theorem clone_walk (h : RdQ w E A cap l) (hl : l.length ≤ 1000) (hn : l ≠ []) :
    Calls Try.prog 12 #[.slice A l.length cap] w fun e w' => ∃ v, e = .returned v ∧ w'.ownsRow w.heap.size 3 1 v l.length (l.map encN) ∧ Below w.heap.size w w' := by
  obtain ⟨b, o, rfl⟩ : ∃ b o, A = some ⟨b, o, none⟩ := by
    rcases h.all with e | ⟨b, o, e, _⟩
    · exact absurd e hn
    · exact ⟨b, o, e⟩
  have b0 : Below w.heap.size w (w.alloc (.cells #[] 3)) := (Below.refl _ _).alloc (Nat.le_refl _) _
  obtain ⟨A1, c1, w1, r1, o1, g1, _⟩ := grow_ints (base := w.heap.size) (World.ownsRow_made w #[] 0 (Nat.le_refl _) (by simp) (by simp)) (h.still b0) hl b0.size
  have R1 := Lib.hid r1
  have END := Lib.hid (And.intro o1 (b0.grown g1 b0.size (fun k hk => by cases hk; exact Nat.le_refl _)))
  clear h r1 o1 g1 hn
  have q : ∀ (w : World) (a : Option Addr) (n c n' c' : Nat), (binOp .eql 22 (.slice a n c) (.slice none n' c')).run Try.prog w = .ok (.bool a.isNone) w := fun w a n c n' c' => Lib.run_eql_slice_nil w _ _ a n c n' c' Try.underlying22
  go_enter Try.func12, Try.ntmps12
  go_wp2_with (first
    | (at_builtin; refine wpList_append_two rfl (.tmp 5) (.tmp 6) 22 22 rfl _ _ _ rfl rfl R1.out ?_)
    | fail)
  go_ret
  exact ⟨_, rfl, END.out.1, END.out.2⟩
/-- The statement's own: are quanta right? -/
def rightB (l : List Int) : Bool := !l.any (inB 1) && decide (1 ≤ l.length) && decide (l.length ≤ 4)
theorem rightB_ok {l : List Int} : (∀ x ∈ l, 1 ≤ x ∧ x ≤ 1000) → 1 ≤ l.length → l.length ≤ 4 → rightB l = true := fun h h1 h4 => by
  unfold rightB
  rw [decide_eq_true h1, decide_eq_true h4]
  simp only [Bool.and_true, Bool.not_eq_true', List.any_eq_false]
  intro x hx
  have := h x hx
  simp [inB]; omega
set_option maxRecDepth 100000 in
theorem right_walk (h : RdQ w E A cap l) (hl : l.length ≤ 9223372036854775807) :
    Calls Try.prog 6 #[.slice A l.length cap] w fun e w' => e = .returned (.bool (rightB l)) ∧ w = w' := by
  have HR := Lib.hid h
  obtain ⟨N, hN⟩ : ∃ N, l.length = N := ⟨_, rfl⟩
  have HN := Lib.hid hN
  rw [hN] at hl ⊢
  clear h hN
  go_enter Try.func6, Try.ntmps6
  go_wp2_with fail
  go_loopg [3] N (fun g s3 wx => ∃ i : Nat, i + g = N ∧ s3 = .int .i64 (i : Nat) ∧ Hid (∀ (j : Nat) (x : Int), j < i → l[j]? = some x → inB 1 x = false) ∧ Hid (w = wx))
  case atStart => exact ⟨0, by omega, rfl, Lib.hid (fun j x hj => by omega), Lib.hid rfl⟩
  case round =>
    obtain ⟨i, hi, rfl, HB, HW⟩ := hrel
    obtain rfl := HW.out
    cases gk with
    | zero =>
      obtain rfl : i = N := by omega
      have END : Hid (l.any (inB 1) = false) := Lib.hid (by
        rw [List.any_eq_false]
        intro x hx
        obtain ⟨j, hj⟩ := List.getElem?_of_mem hx
        have := HB.out j x (by have := (List.getElem?_eq_some_iff.1 hj).1; have := HN.out; omega) hj
        simp [this])
      clear HB
      by_cases h1 : 1 ≤ i
      · by_cases h4 : i ≤ 4
        · go_wp2_with fail
          go_ret
          exact ⟨ret_b (by unfold rightB; rw [END.out, HN.out, decide_eq_true h1, decide_eq_true h4]; first | rfl | (simp; omega)), rfl⟩
        · go_wp2_with fail
          go_ret
          exact ⟨ret_b (by unfold rightB; rw [END.out, HN.out, decide_eq_true h1, decide_eq_false h4]; first | rfl | (simp; omega)), rfl⟩
      · go_wp2_with fail
        go_ret
        exact ⟨ret_b (by unfold rightB; rw [END.out, HN.out, decide_eq_false h1]; first | rfl | (simp; omega)), rfl⟩
    | succ g =>
      have x1 : (i : Int) < N := by omega
      obtain ⟨x, hx⟩ : ∃ x, l[i]? = some x := ⟨l[i]'(by have := HN.out; omega), List.getElem?_eq_getElem _⟩
      obtain ⟨b, o, rfl, hc, _⟩ := HR.out.at hx
      have HX := Lib.hid hx
      have BAD : inB 1 x = true → Hid (rightB l = false) := fun hb => Lib.hid (by
        unfold rightB
        rw [show l.any (inB 1) = true from List.any_eq_true.2 ⟨x, List.mem_of_getElem? hx, hb⟩]
        rfl)
      clear hx
      by_cases h1 : x < 1
      · have B := BAD (by unfold inB; rw [decide_eq_true h1]; rfl)
        clear BAD
        go_wp2_with fail
        go_ret
        exact ⟨ret_b B.out.symm, rfl⟩
      · by_cases h2 : 1000 < x
        · have B := BAD (by unfold inB; rw [decide_eq_true h2, Bool.or_true])
          clear BAD
          go_wp2_with fail
          go_ret
          exact ⟨ret_b B.out.symm, rfl⟩
        · clear BAD
          have OK : Hid (inB 1 x = false) := Lib.hid (by unfold inB; rw [decide_eq_false h1, decide_eq_false h2]; rfl)
          go_wp2_with fail
          go_roundg g
          case rel => exact ⟨i + 1, by omega, by go_num, Lib.hid (fun j y hj hy => by
            by_cases e : j = i
            · subst e
              have := HX.out
              rw [hy] at this
              cases this
              exact OK.out
            · exact HB.out j y (by omega) hy), Lib.hid rfl⟩
          case measure => omega
set_option maxRecDepth 100000 in
/-- The document's Ints: two rows of the same numbers. -/
theorem ints_walk {E' : Nat → Prop} {A' : Option Addr} {cap' : Nat} (h : RdQ w E A cap l) (h' : RdQ w E' A' cap' l) (hl : l.length ≤ 1000) :
    Calls Try.prog 9 #[.slice A l.length cap, .slice A' l.length cap'] w fun e w' => e = .returned (.bool true) ∧ ∃ n, w' = w.drewN n := by
  have HR := Lib.hid h
  have HR' := Lib.hid h'
  obtain ⟨N, hN⟩ : ∃ N, l.length = N := ⟨_, rfl⟩
  have HN := Lib.hid hN
  rw [hN] at hl ⊢
  clear h h' hN
  go_enter Try.func9, Try.ntmps9
  go_wp2_with fail
  go_loopg [5] N (fun g s5 wx => ∃ i : Nat, i + g = N ∧ s5 = .int .i64 (i : Nat) ∧ Hid (∃ n, wx = w.drewN n))
  case atStart => exact ⟨0, by omega, rfl, Lib.hid ⟨0, rfl⟩⟩
  case round =>
    obtain ⟨i, hi, rfl, HW⟩ := hrel
    cases gk with
    | zero =>
      obtain rfl : i = N := by omega
      go_wp2_with fail
      go_ret
      exact ⟨rfl, HW.out⟩
    | succ g =>
      have x1 : (i : Int) < N := by omega
      obtain ⟨x, hx⟩ : ∃ x, l[i]? = some x := ⟨l[i]'(by have := HN.out; omega), List.getElem?_eq_getElem _⟩
      obtain ⟨n0, rfl⟩ := HW.out
      obtain ⟨b, o, rfl, hc, _⟩ := HR.out.at hx
      obtain ⟨b', o', rfl, hc', _⟩ := HR'.out.at hx
      have z0 : (x == x) = true := by simp
      clear hx
      go_wp2_with fail
      go_quiet (fail)
      go_wp2_with fail
      go_roundg g
      case rel => exact ⟨i + 1, by omega, by go_num, Lib.hid ⟨n0 + nq, by rw [← drew_drew]⟩⟩
      case measure => omega
end
end Go.Proofs.Ytjlmefjgolbfiaa
