/-
  Layer 12 (deficit): the program's Pick.
-/
import Derived.Test.YtjlmefjgolbfiaaDeficitPays
import Derived.Test.YtjlmefjgolbfiaaDeficitNew
import Derived.WalkMore
import Derived.BigFrame
namespace Go.Proofs.Ytjlmefjgolbfiaa
open Go.ChangeShapes Go.WideShapes Go.ChangeAt Go.RowKit
set_option linter.unusedVariables false

section
variable {st : TypeId} {w w' : World} {E E' : Nat → Prop} {a : Nat} {A B : Option Addr} {cap cb : Nat} {vc : Value} {q l : List Int} {s : Tn}
/-- Costs that may be, as the statement tells. -/
def costB (q l : List Int) : Bool := decide (l.length = q.length) && !l.any (inB 0)
theorem costB_ok (h : Lok q l) : costB q l = true := by
  unfold costB
  rw [decide_eq_true h.len]
  simp only [Bool.true_and, Bool.not_eq_true', List.any_eq_false]
  intro x hx
  obtain ⟨j, hj⟩ := List.getElem?_of_mem hx
  have := h.ll j x hj
  simp [inB]; omega
def setAll : List Int → Nat → List Int → List Int
  | c, _, [] => c
  | c, o, v :: vs => setAll (c.set o v) (o + 1) vs
theorem place_all (he : st ≠ 3) {g c n : Nat} (hv : vc = .slice (some ⟨g, 0, none⟩) n c) : ∀ (vs : List Int) (o : Nat) (w : World) (s : Tn), Tg st w E a A cap vc q s → Tg st (w.setCells g o (vs.map encN)) E a A cap vc q ⟨setAll s.c o vs, s.k, s.v⟩
  | [], o, w, s, h => h
  | v :: vs, o, w, s, h => place_all he hv vs (o + 1) _ _ (h.place he hv o v)
theorem moved_all {g c n : Nat} (hv : vc = .slice (some ⟨g, 0, none⟩) n c) : ∀ (vs : List Value) (o : Nat) (w1 : World), Mt a vc w w1 → Mt a vc w (w1.setCells g o vs)
  | [], o, w1, h => h
  | v :: vs, o, w1, h => moved_all hv vs (o + 1) _ (h.row hv o v)
theorem setAll_zero {c : List Int} {n : Nat} (h : c.length = n) (h4 : n ≤ 4) : setAll c 0 (List.replicate n 0) = List.replicate n 0 := by
  subst h
  match c, h4 with
  | [], _ => rfl
  | [_], _ => rfl
  | [_, _], _ => rfl
  | [_, _, _], _ => rfl
  | [_, _, _, _], _ => rfl
  | _ :: _ :: _ :: _ :: _ :: _, h => simp at h
theorem zeroI (w : World) : (zeroValue 3).run Try.prog w = .ok (.int .i64 0) w := by kernel_rfl
set_option maxRecDepth 100000 in
theorem pick_bad (h : Tg 44 w E a A cap vc q s) (hl : RdQ w E' B cb l) (hb : costB q l = false) (hn : l.length ≤ 9223372036854775807) (h4 : q.length ≤ 4) :
    Calls Try.prog 7 #[.pointer (some ⟨a, 0, none⟩), .slice B l.length cb] w fun e w' => e = .returned (.tuple #[.int .i64 0, errT 1]) ∧ Below w.heap.size w w' := by
  have C := Lib.hid (within_walk hl 0 hn)
  have HB := Lib.hid hb
  have c0 := h.c0
  clear h hl hb
  by_cases e : l.length = q.length
  · have hany : l.any (inB 0) = true := by
      have := HB.out
      unfold costB at this
      rw [decide_eq_true e] at this
      simpa using this
    rw [hany] at C
    rw [e] at C ⊢
    clear hany e hn HB
    generalize q.length = N at *
    go_enter Try.func7, Try.ntmps7
    go_wp2_with fail
    go_step3
    go_wp2_with fail
    refine C.out.mono ?_
    rintro e w' ⟨rfl, rfl⟩
    go_wp2_with fail
    rw [Exit.noGoto_ret]
    go_ret2
    exact ⟨rfl, bel_alloc (Below.refl _ _) _⟩
  · have e' : ¬ (l.length : Int) = q.length := by omega
    have e'' : ((l.length : Int) == (q.length : Int)) = false := beq_eq_false_iff_ne.2 e'
    clear HB C
    generalize q.length = N at *
    generalize l.length = M at *
    go_enter Try.func7, Try.ntmps7
    go_wp2_with fail
    go_step3
    go_wp2_with fail
    rw [Exit.noGoto_ret]
    go_ret2
    exact ⟨rfl, Below.refl _ _⟩
set_option maxRecDepth 100000 in
theorem pick_none (h : Tg 44 w E a A cap vc q s) (ok : Tok q s) (hl : RdQ w E' B cb l) (lok : Lok q l) (hz : ∀ x ∈ l, ¬ 0 < x) :
    Calls Try.prog 7 #[.pointer (some ⟨a, 0, none⟩), .slice B l.length cb] w fun e w' => e = .returned (.tuple #[.int .i64 (-1), .nilIface]) ∧ Tg 44 w' E a A cap vc q ⟨List.replicate q.length 0, s.k, s.v⟩ ∧ Mt a vc w w' := by
  have h4 := ok.ok.n4
  have h1 := ok.ok.n1
  have hlen := lok.len
  have hcb := costB_ok lok
  have C := Lib.hid (within_walk hl 0 (by omega))
  have b1 : Below w.heap.size w (w.alloc (.cells #[.int .i64 0] 3)) := bel_alloc (Below.refl _ _) _
  have C2 := Lib.hid (none_walk (hl.still b1) (by omega))
  have any0 : l.any (inB 0) = false := by unfold costB at hcb; simpa [hlen] using hcb
  have any1 : (l.any fun x => decide (0 < x)) = false := by rw [List.any_eq_false]; intro x hx; simpa using hz x hx
  rw [any0] at C
  rw [any1] at C2
  have T := h.still b1
  obtain ⟨x, y, z, hx, _⟩ := ok.three lok
  obtain ⟨g, c, hv, _, fg, hag, hEg, hg⟩ := T.at neT hx
  have k1 : ∀ j, j < s.c.length → ((w.alloc (.cells #[.int .i64 0] 3)).cell? ⟨g, 0 + j, none⟩).isSome = true := fun j hj => by
    obtain ⟨g', c', hv', k, _⟩ := T.at neT (List.getElem?_eq_getElem hj)
    rw [hv] at hv'
    cases hv'
    rw [Nat.zero_add, k]
    rfl
  have hcl : ∀ ty, (Builtin.clear_ #[22] ty #[.slice (some ⟨g, 0, none⟩) s.c.length c]).run Try.prog (w.alloc (.cells #[.int .i64 0] 3)) = .ok (.tuple #[]) ((w.alloc (.cells #[.int .i64 0] 3)).setCells g 0 (List.replicate s.c.length (.int .i64 0))) :=
    fun ty => Lib.run_clear_slice _ 22 3 ty (.int .i64 0) Try.underlying22 zeroI rfl rfl g 0 s.c.length c (by rw [ok.len]; omega) k1 (fun j hj => fg _)
  have c0 := T.c0
  have c1 := T.c1
  have END : Hid (Tg 44 ((w.alloc (.cells #[.int .i64 0] 3)).setCells g 0 (List.replicate s.c.length (.int .i64 0))) E a A cap vc q ⟨List.replicate q.length 0, s.k, s.v⟩ ∧ Mt a vc w ((w.alloc (.cells #[.int .i64 0] 3)).setCells g 0 (List.replicate s.c.length (.int .i64 0)))) := Lib.hid (by
    have := place_all neT hv (List.replicate s.c.length 0) 0 _ _ T
    rw [setAll_zero rfl (by rw [ok.len]; exact h4), List.map_replicate, ok.len] at this
    rw [ok.len]
    exact ⟨this, moved_all hv _ 0 _ (Keeps.of_below b1 (Nat.le_refl _) _)⟩)
  have c0' := h.c0
  rw [hlen] at C C2 ⊢
  rw [ok.len] at hcl END hv
  clear h hl T k1 fg hx ok lok hz any0 any1 hcb hlen
  subst hv
  generalize q.length = N at *
  go_enter Try.func7, Try.ntmps7
  go_wp2_with fail
  go_step3
  go_wp2_with fail
  refine C.out.mono ?_
  rintro e w' ⟨rfl, rfl⟩
  go_wp2_with fail
  refine C2.out.mono ?_
  rintro e w' ⟨rfl, rfl⟩
  go_wp2_with fail
  rw [Exit.noGoto_ret]
  go_ret2
  exact ⟨rfl, END.out⟩
end
end Go.Proofs.Ytjlmefjgolbfiaa
