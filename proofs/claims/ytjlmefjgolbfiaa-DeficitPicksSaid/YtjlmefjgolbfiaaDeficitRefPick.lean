/-
  Layer 12 (deficit): the document's Pick.
-/
import Derived.Test.YtjlmefjgolbfiaaDeficitRef
namespace Go.Proofs.Ytjlmefjgolbfiaa
open Go.ChangeShapes Go.WideShapes Go.ChangeAt Go.RowKit
set_option linter.unusedVariables false

section
variable {w w' wr : World} {E : Nat → Prop} {a : Nat} {A B : Option Addr} {cap cb : Nat} {vc : Value} {q l : List Int} {s s' t : Tn}
/-- What the document's Pick makes of its turns. -/
def Refd (w : World) (E : Nat → Prop) (a : Nat) (A : Option Addr) (cap : Nat) (vc : Value) (q : List Int) (r : Int) (s' : Tn) (e : Ending) (w' : World) : Prop :=
  e = .returned (.int .i64 r) ∧ ∃ vc', Tg 34 w' E a A cap vc' q s' ∧ Keeps (fun g => g = a) w w' ∧ ∀ g, vc'.ownBlock = some g → vc.ownBlock = some g ∨ w.heap.size ≤ g
def someB (l : List Int) (i : Nat) : Bool := (l.take i).any fun x => decide (0 < x)
theorem someB_next {i : Nat} {x : Int} (h : l[i]? = some x) : someB l (i + 1) = (someB l i || decide (0 < x)) := by
  unfold someB
  rw [List.take_add_one, h, List.any_append]
  simp
theorem someB_all : someB l l.length = l.any fun x => decide (0 < x) := by unfold someB; rw [List.take_length]
set_option maxRecDepth 100000 in
theorem ref_none (h : Tg 34 w E a A cap vc q s) (ok : Tok q s) (hl : RdQ w E B cb l) (lok : Lok q l) (hz : ∀ x ∈ l, ¬ 0 < x) (hE : ∀ g, w.heap.size ≤ g → E g) :
    Calls Try.prog 8 #[.pointer (some ⟨a, 0, none⟩), .slice B l.length cb] w (Refd w E a A cap vc q (-1) ⟨List.replicate q.length 0, s.k, s.v⟩) := by
  have h4 := ok.ok.n4
  have h1 := ok.ok.n1
  have hlen := lok.len
  have hmk := fun w1 => (make_zeros w1 h4).1
  have ne : vc.ownBlock ≠ some a := h.ne neR
  have END : Hid (Refd w E a A cap vc q (-1) ⟨List.replicate q.length 0, s.k, s.v⟩ (.returned (.int .i64 (-1))) ((w.alloc (.cells (zs q.length) 3)).setCell ⟨a, 1, none⟩ (.slice (some ⟨w.heap.size, 0, none⟩) q.length q.length))) := Lib.hid (by
    have b1 : Below w.heap.size w (w.alloc (.cells (zs q.length) 3)) := bel_alloc (Below.refl _ _) _
    have hvs : ∀ g, vc.ownBlock = some g → g < w.heap.size := fun g hg => (World.ownsRow.lt h.row g hg).2
    have cr : Cr w E a A cap vc q s w.heap.size q.length q.length (List.replicate q.length 0) (w.alloc (.cells (zs q.length) 3)) :=
      ⟨h.still b1, (make_zeros w h4).2, by simp, Keeps.of_below b1 (Nat.le_refl _) _, Nat.le_refl _, hE _ (Nat.le_refl _), fun e => by have := hvs _ e; omega⟩
    exact ⟨rfl, _, cr.fin.1, cr.fin.2, fun g hg => .inr (by cases hg; exact Nat.le_refl _)⟩)
  have S0 : Hid (someB l q.length = false) := Lib.hid (by
    rw [← hlen, someB_all, List.any_eq_false]
    intro x hx
    simpa using hz x hx)
  have c0 := h.c0
  have c1 := h.c1
  have f1 := h.fr 1
  have HL := Lib.hid hl
  have lt := h.lt
  have HLEN := Lib.hid hlen
  rw [hlen]
  clear h ok hl lok hz hlen ne hE
  generalize q.length = N at *
  have j1 : (w.alloc (.cells (zs N) 3)).cell? ⟨a, 1, none⟩ = some vc := by rw [World.cell?_alloc_past _ _ _ lt]; exact c1
  rw [World.setCell_alloc_past _ _ _ _ lt] at END
  go_enter Try.func8, Try.ntmps8
  go_wp2_with fail
  go_loopg [6, 7] N (fun g s6 s7 wx => ∃ i : Nat, i + g = N ∧ s6 = .bool (someB l i) ∧ s7 = .int .i64 (i : Nat) ∧ Hid (w = wx))
  case atStart => exact ⟨0, by omega, by unfold someB; simp, rfl, Lib.hid rfl⟩
  case round =>
    obtain ⟨i, hi, rfl, rfl, HW⟩ := hrel
    obtain rfl := HW.out
    cases gk with
    | zero =>
      obtain rfl : N = i := by omega
      rw [S0.out]
      go_wp2_with fail
      go_ret
      exact END.out
    | succ g =>
      have x1 : (i : Int) < N := by omega
      obtain ⟨x, hx⟩ : ∃ x, l[i]? = some x := ⟨l[i]'(by have := HLEN.out; omega), List.getElem?_eq_getElem _⟩
      obtain ⟨b, o, rfl, hc, _⟩ := HL.out.at hx
      have NX := Lib.hid (someB_next hx)
      clear hx
      cases hb : someB l i with
      | true =>
        have HB := Lib.hid hb
        clear hb
        go_wp2_with fail
        go_roundg g
        case rel => exact ⟨i + 1, by omega, by rw [NX.out, HB.out]; rfl, by go_num, Lib.hid rfl⟩
        case measure => omega
      | false =>
        have HB := Lib.hid hb
        clear hb
        go_wp2_with fail
        go_roundg g
        case rel => exact ⟨i + 1, by omega, by rw [NX.out, HB.out]; simp, by go_num, Lib.hid rfl⟩
        case measure => omega
/-- The document's turns in a round. -/
structure Rrd (w : World) (E : Nat → Prop) (a : Nat) (A : Option Addr) (cap : Nat) (vc0 : Value) (q l : List Int) (s' : Tn) (g : Nat) (wx : World) (s : Tn) (vc : Value) : Prop where
  tg : Tg 34 wx E a A cap vc q s
  ok : Tok q s
  go : Goes q l g s s'
  kp : Keeps (fun g => g = a) w wx
  at' : ∀ g, vc.ownBlock = some g → vc0.ownBlock = some g ∨ w.heap.size ≤ g
set_option maxRecDepth 100000 in
set_option maxHeartbeats 2000000 in
theorem ref_some (h : Tg 34 w E a A cap vc q s) (ok : Tok q s) (hl : RdQ w E B cb l) (lok : Lok q l) (hp : ∃ x ∈ l, 0 < x) {n : Nat} (hg : Goes q l n s s') (hE : ∀ g, w.heap.size ≤ g → E g) :
    Calls Try.prog 8 #[.pointer (some ⟨a, 0, none⟩), .slice B l.length cb] w (Refd w E a A cap vc q (s'.k : Nat) s') := by
  have h4 := ok.ok.n4
  have h1 := ok.ok.n1
  have hlen := lok.len
  have S0 : Hid (someB l q.length = true) := Lib.hid (by
    rw [← hlen, someB_all]
    obtain ⟨x, hx, h0⟩ := hp
    exact List.any_eq_true.2 ⟨x, hx, decide_eq_true h0⟩)
  have R0 : Hid (Rrd w E a A cap vc q l s' n w s vc) := Lib.hid ⟨h, ok, hg, Keeps.refl _ _, fun g e => .inl e⟩
  have c0 := h.c0
  have HL := Lib.hid hl
  have HLEN := Lib.hid hlen
  have LOK := Lib.hid lok
  have HE := Lib.hid hE
  rw [hlen]
  clear h ok hl lok hlen hE hp hg
  obtain ⟨N, hN⟩ : ∃ N, q.length = N := ⟨_, rfl⟩
  have HN := Lib.hid hN
  rw [hN] at c0 S0 HLEN h1 h4 ⊢
  clear hN
  go_enter Try.func8, Try.ntmps8
  go_wp2_with fail
  go_loopg [6, 7] N (fun g s6 s7 wx => ∃ i : Nat, i + g = N ∧ s6 = .bool (someB l i) ∧ s7 = .int .i64 (i : Nat) ∧ Hid (w = wx))
  case atStart => exact ⟨0, by omega, by unfold someB; simp, rfl, Lib.hid rfl⟩
  case round =>
    obtain ⟨i, hi, rfl, rfl, HW⟩ := hrel
    obtain rfl := HW.out
    cases gk with
    | succ g =>
      have x1 : (i : Int) < N := by omega
      obtain ⟨x, hx⟩ : ∃ x, l[i]? = some x := ⟨l[i]'(by have := HLEN.out; omega), List.getElem?_eq_getElem _⟩
      obtain ⟨b, o, rfl, hc, _⟩ := HL.out.at hx
      have NX := Lib.hid (someB_next hx)
      clear hx
      cases hb : someB l i with
      | true =>
        have HB := Lib.hid hb
        clear hb
        go_wp2_with fail
        go_roundg g
        case rel => exact ⟨i + 1, by omega, by rw [NX.out, HB.out]; rfl, by go_num, Lib.hid rfl⟩
        case measure => omega
      | false =>
        have HB := Lib.hid hb
        clear hb
        go_wp2_with fail
        go_roundg g
        case rel => exact ⟨i + 1, by omega, by rw [NX.out, HB.out]; simp, by go_num, Lib.hid rfl⟩
        case measure => omega
    | zero =>
      obtain rfl : N = i := by omega
      rw [S0.out]
      clear c0
      go_wp2_with fail
      go_loopg [8] n (fun g s8 wx => ∃ (t : Tn) (v : Value), Hid (Rrd w E a A cap vc q l s' g wx t v))
      case atStart => exact ⟨s, vc, R0⟩
      case round =>
        clear R0 hi HW
        obtain ⟨t, v, HR⟩ := hrel
        obtain ⟨tg, tok, tgo, kp, hat⟩ := HR.out
        obtain ⟨x, y, z, hx, hy, hz, x0, x1, x2, y0, y1, z0, z1⟩ := tok.three LOK.out
        obtain ⟨A2, c2, rfl, gc, cc, w1, r1, cr⟩ := cr_start tg kp (tok.len.trans HN.out) h1 h4 HE.out
        have R1 := Lib.hid r1
        have j1 := (tg.still (bel_alloc (Below.refl _ wr) (.cells #[] 3))).c1
        obtain ⟨b, o, rfl, kz, hb⟩ := (HL.out.keeps cr.kp (fun g e => by rw [e]; exact tg.inE a (.inl rfl))).at hz
        obtain ⟨bq, oq, rfl, kq, hbq⟩ := cr.tg.rd.at hy
        have ea : E a := tg.inE a (.inl rfl)
        have n1 : b ≠ a := fun e => hb (e ▸ ea)
        have n2 : b ≠ gc := fun e => hb (e ▸ cr.gE)
        have n3 : bq ≠ a := fun e => hbq (e ▸ ea)
        have n4 : bq ≠ gc := fun e => hbq (e ▸ cr.gE)
        have n5 : a ≠ gc := cr.na
        have n6 : gc ≠ a := fun e => n5 e.symm
        obtain ⟨kx, fg⟩ := cr.at hx
        have fg := fg t.k
        have c2 := cr.tg.c2
        have c3 := cr.tg.c3
        have c0 := cr.tg.c0
        have cv := cr.tg.c1
        have f1 := cr.tg.fr 1
        have f2 := cr.tg.fr 2
        have f3 := cr.tg.fr 3
        rw [HN.out] at c0
        have hk : (t.k : Int) < N := by have := tok.kl; have := HN.out; omega
        obtain ⟨p, hp⟩ : ∃ p, (t.k + 1) % N = p := ⟨_, rfl⟩
        have w3 : IntKind.i64.wrap ((t.k : Int) + 1) = (t.k : Int) + 1 := by rw [IntKind.wrap_i64]; omega
        have w4 : ((t.k : Int) + 1).tmod (N : Int) = (p : Int) := by rw [Int.tmod_eq_emod_of_nonneg (by omega), ← hp]; simp
        have w5 : ¬ N = 0 := by omega
        have CR := Lib.hid cr
        have HP := Lib.hid hp
        clear hb hbq ea r1 cr hp
        by_cases hz0 : z = 0
        · have ST := step_none (q := q) hz hz0
          obtain ⟨g', rfl, go'⟩ := goes_on tgo ST
          have R2 : Hid (∀ m, Rrd w E a (some ⟨bq, oq, none⟩) cap vc q l s' g' _ ⟨t.c.set t.k 0, (t.k + 1) % q.length, false⟩ _) :=
            Lib.hid (fun m => have FIN := ((CR.out.put t.k 0).drewN m).on p
              ⟨by rw [HN.out, HP.out]; exact FIN.1, step_tok tok LOK.out ST, go', FIN.2, fun g e => .inr (by cases e; exact CR.out.ge)⟩)
          subst hz0
          clear go' ST tg tok tgo kp hat hx hy hz
          go_wp2_with (first
            | (at_builtin; refine wpList_append_two rfl (.tmp 34) (.tmp 38) 22 22 rfl _ _ _ rfl rfl R1.out ?_)
            | fail)
          go_quiet (fail)
          go_wp2_with fail
          go_roundg g'
          case rel => exact ⟨_, _, Lib.hid (R2.out _)⟩
          case measure => omega
        · have hzb : (z == 0) = false := beq_eq_false_iff_ne.2 hz0
          have zp : 0 < z := by omega
          by_cases hh : (if t.v then x else x + y) < z
          · have ST := step_less hx hy hz hz0 hh
            obtain ⟨g', rfl, go'⟩ := goes_on tgo ST
            have NX := Lib.hid (And.intro (step_tok tok LOK.out ST) go')
            cases hv : t.v with
            | true =>
              rw [hv] at c3 hh
              simp only [if_true] at hh
              have R2 : Hid (∀ m, Rrd w E a (some ⟨bq, oq, none⟩) cap vc q l s' g' _ ⟨t.c, (t.k + 1) % q.length, false⟩ _) :=
                Lib.hid (fun m => have FIN := (CR.out.drewN m).on p
                  have N1 := NX.out
                  have e : (if t.v then x else x + y) = x := by rw [hv]; rfl
                  have e2 : t.c.set t.k (if t.v then x else x + y) = t.c := by rw [e]; exact set_same hx
                  ⟨by rw [HN.out, HP.out]; exact FIN.1, by rw [← e2]; exact N1.1, by rw [← e2]; exact N1.2, FIN.2, fun g e => .inr (by cases e; exact CR.out.ge)⟩)
              clear go' NX hv ST tg tok tgo kp hat hx hy hz
              go_wp2_with (first
                | (at_builtin; refine wpList_append_two rfl (.tmp 34) (.tmp 38) 22 22 rfl _ _ _ rfl rfl R1.out ?_)
                | fail)
              go_quiet (fail)
              go_wp2_with fail
              go_roundg g'
              case rel => exact ⟨_, _, Lib.hid (R2.out _)⟩
              case measure => omega
            | false =>
              have w6 : IntKind.i64.wrap (x + y) = x + y := by rw [IntKind.wrap_i64]; omega
              rw [hv] at c3 hh
              simp only [Bool.false_eq_true, if_false] at hh
              have R2 : Hid (∀ m, Rrd w E a (some ⟨bq, oq, none⟩) cap vc q l s' g' _ ⟨t.c.set t.k (x + y), (t.k + 1) % q.length, false⟩ _) :=
                Lib.hid (fun m => have FIN := (((CR.out.put t.k (x + y)).vis true).drewN m).on p
                  have N1 := NX.out
                  have e : (if t.v then x else x + y) = x + y := by rw [hv]; rfl
                  ⟨by rw [HN.out, HP.out]; exact FIN.1, by rw [← e]; exact N1.1, by rw [← e]; exact N1.2, FIN.2, fun g e => .inr (by cases e; exact CR.out.ge)⟩)
              clear go' NX hv ST tg tok tgo kp hat hx hy hz
              go_wp2_with (first
                | (at_builtin; refine wpList_append_two rfl (.tmp 34) (.tmp 38) 22 22 rfl _ _ _ rfl rfl R1.out ?_)
                | fail)
              go_region
              go_wp2_with fail
              go_quiet (fail)
              go_wp2_with fail
              go_roundg g'
              case rel => exact ⟨_, _, Lib.hid (R2.out _)⟩
              case measure => omega
          · have ST := step_pick hx hy hz hz0 hh
            have e := goes_end tgo ST
            cases hv : t.v with
            | true =>
              rw [hv] at c3 hh
              simp only [if_true] at hh
              have w6 : IntKind.i64.wrap (x - z) = x - z := by rw [IntKind.wrap_i64]; omega
              have R2 : Hid (∀ m, Refd w E a (some ⟨bq, oq, none⟩) cap vc q (s'.k : Nat) s' (.returned (.int .i64 (t.k : Nat))) _) :=
                Lib.hid (fun m => have FIN := ((CR.out.drewN m).put t.k (x - z)).fin
                  have e1 : (if t.v then x else x + y) = x := by rw [hv]; rfl
                  ⟨by rw [e], _, by rw [e, e1]; have := FIN.1; rw [hv] at this; exact this, FIN.2, fun g e => .inr (by cases e; exact CR.out.ge)⟩)
              clear e hv ST tg tok tgo kp hat hx hy hz
              go_wp2_with (first
                | (at_builtin; refine wpList_append_two rfl (.tmp 34) (.tmp 38) 22 22 rfl _ _ _ rfl rfl R1.out ?_)
                | fail)
              go_quiet (fail)
              go_wp2_with fail
              go_region
              go_wp2_with fail
              go_ret
              exact R2.out _
            | false =>
              have w6 : IntKind.i64.wrap (x + y) = x + y := by rw [IntKind.wrap_i64]; omega
              have w7 : IntKind.i64.wrap (x + y - z) = x + y - z := by rw [IntKind.wrap_i64]; omega
              rw [hv] at c3 hh
              simp only [Bool.false_eq_true, if_false] at hh
              have R2 : Hid (∀ m, Refd w E a (some ⟨bq, oq, none⟩) cap vc q (s'.k : Nat) s' (.returned (.int .i64 (t.k : Nat))) _) :=
                Lib.hid (fun m => have FIN := ((((CR.out.put t.k (x + y)).vis true).drewN m).put t.k (x + y - z)).fin
                  have e1 : (if t.v then x else x + y) = x + y := by rw [hv]; rfl
                  have e2 : (t.c.set t.k (x + y)).set t.k (x + y - z) = t.c.set t.k (x + y - z) := List.set_set ..
                  ⟨by rw [e], _, by rw [e, e1, ← e2]; exact FIN.1, FIN.2, fun g e => .inr (by cases e; exact CR.out.ge)⟩)
              clear e hv ST tg tok tgo kp hat hx hy hz
              go_wp2_with (first
                | (at_builtin; refine wpList_append_two rfl (.tmp 34) (.tmp 38) 22 22 rfl _ _ _ rfl rfl R1.out ?_)
                | fail)
              go_region
              go_wp2_with fail
              go_quiet (fail)
              go_wp2_with fail
              go_region
              go_wp2_with fail
              go_ret
              exact R2.out _
end
end Go.Proofs.Ytjlmefjgolbfiaa
