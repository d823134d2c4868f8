/-
  Layer 12 (deficit): the program's Pick where one has something.
-/
import Derived.Test.YtjlmefjgolbfiaaDeficitPick
namespace Go.Proofs.Ytjlmefjgolbfiaa
open Go.ChangeShapes Go.WideShapes Go.ChangeAt Go.RowKit
set_option linter.unusedVariables false

section
variable {w w' : World} {E : Nat → Prop} {a : Nat} {A B : Option Addr} {cap cb : Nat} {vc : Value} {q l : List Int} {s s' : Tn}
/-- The turns in a round: how they stand, and that so many rounds are to come. -/
structure Rnd (w : World) (E : Nat → Prop) (a : Nat) (A : Option Addr) (cap : Nat) (vc : Value) (q l : List Int) (s' : Tn) (g : Nat) (s : Tn) (wx : World) : Prop where
  tg : Tg 44 wx E a A cap vc q s
  ok : Tok q s
  go : Goes q l g s s'
  mt : Mt a vc w wx
theorem goes_on {g : Nat} {t t1 : Tn} (h : Goes q l g t s') (e : stepT q l t = (false, t1)) : ∃ g', g = g' + 1 ∧ Goes q l g' t1 s' := by
  cases g with
  | zero =>
    have : stepT q l t = (true, s') := h
    rw [e] at this
    cases this
  | succ g =>
    obtain ⟨s1, h1, h2⟩ := h
    rw [e] at h1
    cases h1
    exact ⟨g, rfl, h2⟩
theorem goes_end {g : Nat} {t t1 : Tn} (h : Goes q l g t s') (e : stepT q l t = (true, t1)) : s' = t1 := by
  cases g with
  | zero =>
    have : stepT q l t = (true, s') := h
    rw [e] at this
    cases this
    rfl
  | succ g =>
    obtain ⟨s1, h1, h2⟩ := h
    rw [e] at h1
    cases h1
set_option maxRecDepth 100000 in
set_option maxHeartbeats 1000000 in
theorem pick_some (h : Tg 44 w E a A cap vc q s) (ok : Tok q s) (hl : RdQ w E B cb l) (lok : Lok q l) (hp : ∃ x ∈ l, 0 < x) {n : Nat} (hg : Goes q l n s s') :
    Calls Try.prog 7 #[.pointer (some ⟨a, 0, none⟩), .slice B l.length cb] w fun e w' => e = .returned (.tuple #[.int .i64 (s'.k : Nat), .nilIface]) ∧ Tg 44 w' E a A cap vc q s' ∧ Mt a vc w w' := by
  have h4 := ok.ok.n4
  have h1 := ok.ok.n1
  have hlen := lok.len
  have hcb := costB_ok lok
  have C := Lib.hid (within_walk hl 0 (by omega))
  have b1 : Below w.heap.size w (w.alloc (.cells #[.int .i64 0] 3)) := bel_alloc (Below.refl _ _) _
  have HL := Lib.hid (hl.still b1)
  have C2 := Lib.hid (none_walk HL.out (by omega))
  have any0 : l.any (inB 0) = false := by unfold costB at hcb; simpa [hlen] using hcb
  have any1 : (l.any fun x => decide (0 < x)) = true := by
    obtain ⟨x, hx, h0⟩ := hp
    exact List.any_eq_true.2 ⟨x, hx, decide_eq_true h0⟩
  rw [any0] at C
  rw [any1] at C2
  have R0 : Hid (Rnd (w.alloc (.cells #[.int .i64 0] 3)) E a A cap vc q l s' n s (w.alloc (.cells #[.int .i64 0] 3))) := Lib.hid ⟨h.still b1, ok, hg, Mt.refl _ _ _⟩
  have M0 : Hid (Mt a vc w (w.alloc (.cells #[.int .i64 0] 3))) := Lib.hid (Keeps.of_below b1 (Nat.le_refl _) _)
  have c0 := h.c0
  have LOK := Lib.hid lok
  have HLEN := Lib.hid hlen
  rw [hlen] at C C2 ⊢
  clear h hl ok lok any0 any1 hcb hlen hp hg b1
  obtain ⟨N, hN⟩ : ∃ N, q.length = N := ⟨_, rfl⟩
  have HN := Lib.hid hN
  rw [hN] at c0 C C2 h1 h4 ⊢
  clear hN
  go_enter Try.func7, Try.ntmps7
  go_wp2_with fail
  go_step3
  go_wp2_with fail
  refine C.out.mono ?_
  rintro e w' ⟨rfl, rfl⟩
  go_wp2_with fail
  refine C2.out.mono ?_
  rintro e w' ⟨rfl, rfl⟩
  go_wp2_with fail
  go_step3
  clear C C2 c0
  go_wp2_with fail
  go_loopg [6, 34, 46] n (fun g s6 s34 s46 wx => ∃ t : Tn, Hid (Rnd (w.alloc (.cells #[.int .i64 0] 3)) E a A cap vc q l s' g t wx))
  case atStart => exact ⟨s, R0⟩
  case round =>
    clear R0
    obtain ⟨t, HR⟩ := hrel
    obtain ⟨tg, tok, tgo, tmt⟩ := HR.out
    obtain ⟨x, y, z, hx, hy, hz, x0, x1, x2, y0, y1, z0, z1⟩ := tok.three LOK.out
    have hl := HL.out.keeps tmt tg.inE
    obtain ⟨b, o, rfl, kz, _⟩ := hl.at hz
    have c2 := tg.c2
    have hk : (t.k : Int) < N := by have := tok.kl; have := HN.out; omega
    by_cases hz0 : z = 0
    · have ST := step_none (q := q) hz hz0
      obtain ⟨g', rfl, go'⟩ := goes_on tgo ST
      obtain ⟨gc, cc, hv, k1, fg, hag, hEg, hlt⟩ := tg.at neT hx
      have fg := fg t.k
      have c1 := tg.c1
      have T1 := (tg.place neT hv t.k 0).drew
      have M1 := (tmt.row hv t.k (.int .i64 0)).drew
      have G := Lib.hid (goOn_walk T1 (by have := HN.out; omega) (by have := HN.out; omega) tok.kl)
      have NX := Lib.hid (And.intro (step_tok tok LOK.out ST) (And.intro go' M1))
      have hcl := tok.len
      rw [hcl] at hv
      subst hv
      rw [HN.out] at c1 G
      subst hz0
      clear tg tok tgo tmt hl hx hy hz T1 M1 go' ST hcl
      go_wp2_with fail
      go_region
      go_wp2_with fail
      refine G.out.mono ?_
      rintro e w2 ⟨rfl, tg2, mt2⟩
      have R2 : Hid (Rnd (w.alloc (.cells #[.int .i64 0] 3)) E a A cap _ q l s' g' _ w2) := Lib.hid ⟨tg2, by have := NX.out.1; rw [HN.out] at this; exact this, by have := NX.out.2.1; rw [HN.out] at this; exact this, NX.out.2.2.trans mt2⟩
      clear tg2 mt2 G NX
      go_wp2_with fail
      go_roundg g'
      case rel => exact ⟨_, by rw [HN.out]; exact R2⟩
      case measure => omega
    · have P := pays_walk tg hx hy x0 x1 y0 y1 z0 z1
      unfold Paid at P
      have hzb : (z == 0) = false := beq_eq_false_iff_ne.2 hz0
      by_cases hh : (if t.v then x else x + y) < z
      · have ST := step_less hx hy hz hz0 hh
        obtain ⟨g', rfl, go'⟩ := goes_on tgo ST
        rw [decide_eq_false (by omega), if_pos hh] at P
        have PP := Lib.hid P
        have NX := Lib.hid (And.intro (step_tok tok LOK.out ST) (And.intro go' tmt))
        have tk := tok.kl
        generalize (t.c.set t.k (if t.v then x else x + y)) = R at *
        clear P tg tok tgo tmt hl hx hy hz go' ST hh
        go_wp2_with fail
        refine PP.out.mono ?_
        rintro e w2 ⟨rfl, tg2, mt2⟩
        have G := Lib.hid (goOn_walk tg2 (by have := HN.out; omega) (by have := HN.out; omega) tk)
        have MT2 := Lib.hid mt2
        clear tg2 mt2 PP
        go_wp2_with fail
        refine G.out.mono ?_
        rintro e w3 ⟨rfl, tg3, mt3⟩
        have R2 : Hid (Rnd (w.alloc (.cells #[.int .i64 0] 3)) E a A cap vc q l s' g' _ w3) := Lib.hid ⟨tg3, NX.out.1, NX.out.2.1, NX.out.2.2.trans (MT2.out.trans mt3)⟩
        clear tg3 mt3 G NX MT2
        go_wp2_with fail
        go_roundg g'
        case rel => exact ⟨_, R2⟩
        case measure => omega
      · have ST := step_pick hx hy hz hz0 hh
        have e := goes_end tgo ST
        rw [decide_eq_true (by omega), if_neg hh] at P
        have PP := Lib.hid P
        have NX := Lib.hid (And.intro e tmt)
        generalize (t.c.set t.k ((if t.v then x else x + y) - z)) = R at *
        clear P tg tok tgo tmt hl hx hy hz ST hh e
        go_wp2_with fail
        refine PP.out.mono ?_
        rintro e w2 ⟨rfl, tg2, mt2⟩
        have c22 := tg2.c2
        have R2 := Lib.hid (And.intro tg2 (NX.out.2.trans mt2))
        clear tg2 mt2 PP
        go_wp2_with fail
        rw [Exit.noGoto_ret]
        go_ret2
        obtain ⟨rfl, _⟩ := NX.out
        exact ⟨rfl, R2.out.1, M0.out.trans R2.out.2⟩
end
end Go.Proofs.Ytjlmefjgolbfiaa
