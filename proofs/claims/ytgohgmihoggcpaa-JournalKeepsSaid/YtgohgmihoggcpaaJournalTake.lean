/-
  Layer 9 (journal): a part is taken; all parts; Open.
-/
import Derived.Test.YtgohgmihoggcpaaJournalWhole
namespace Go.Proofs.Ytgohgmihoggcpaa
open Go.ChangeShapes Go.WideShapes Go.ChangeAt Go.RowKit
set_option linter.unusedVariables false

section
variable {W w : World} {ad aj rm : Nat} {dn : Bool} {L : List Pt} {many : Int} {P : List Int} {R : List Rc} {y : Value} {ps : List Int}
theorem Jy.read (h : Jy W w ad aj rm dn L many P R y ps) {n : Int} {l : List UInt8} (hi : Inv rm L) (h0 : -9223372036854775808 ≤ n) (h1 : n ≤ 9223372036854775807) (hr : opRead dn L n = (0, l)) :
    Calls Try.prog 31 #[.pointer (some ⟨ad, 0, none⟩), .int .i64 n] w fun e w' => ∃ A cap, e = .returned (.tuple #[.slice A l.length cap, .nilIface]) ∧ RdS w' A cap l ∧ Jy W w' ad aj rm dn L many P R y ps := by
  obtain ⟨⟨F, h2, h3, h4⟩, _⟩ := id h
  have := readD w F ad rm dn L n h2 hi h0 h1
  rw [hr] at this
  refine this.mono ?_
  rintro e w' ⟨v, rfl, o, b⟩
  obtain ⟨A, cap, rfl, r⟩ := o.rd
  exact ⟨A, cap, rfl, r, h.still b⟩
theorem Jy.cut_ok (h : Jy W w ad aj rm dn L many P R y ps) {n m : Int} {L' : List Pt} (hi : Inv rm L) (hl : L.length ≤ 1000) (h0 : -9223372036854775808 ≤ n) (h1 : n ≤ 9223372036854775807) (hc : opCut dn L n m = (0, L')) :
    Calls Try.prog 33 #[.pointer (some ⟨ad, 0, none⟩), .int .i64 n, .int .i64 m] w fun e w' => e = .returned .nilIface ∧ Jy W w' ad aj rm dn L' many P R y ps := by
  have := h.dsk (L' := (opCut dn L n m).2) (dn' := dn) (E := fun e => e = .returned (ErrV (opCut dn L n m).1)) (fun F hF => cutD w F ad rm dn L n m hF hi hl h0 h1)
  rw [hc] at this
  exact this
set_option maxHeartbeats 1000000 in
set_option maxRecDepth 100000 in
theorem takeJ {rs : List Rc} {t : List UInt8} {L' : List Pt} {n : Int} (h : Jy W w ad aj rm dn L many P R y ps) (hi : Inv rm L) (hl : L.length ≤ 1000) (h0 : 0 ≤ n) (h1 : n ≤ 4611686018427387904)
    (hr : opRead dn L n = (0, flat rs ++ t)) (hg : ∀ r ∈ rs, GoodR r) (ht : Torn t) (hc : opCut dn L n ((flat rs).length : Nat) = (0, L')) (hP : P.length ≤ 1000) (hR : R.length + rs.length ≤ 200000) (hb : (flat rs ++ t).length ≤ 65536) :
    Calls Try.prog 24 #[.pointer (some ⟨aj, 0, none⟩), .int .i64 n] w fun e w' => e = .returned .nilIface ∧ Jy W w' ad aj rm dn L' many (P ++ [n]) (R ++ rs) y ps := by
  have c0 : w.cell? ⟨aj, 0, none⟩ = some (.pointer (some ⟨ad, 0, none⟩)) := by obtain ⟨_, _, _, g, _⟩ := h; exact g.c0
  have C1 := Lib.hid (h.read hi (by omega) (by omega) hr)
  have CW := Lib.hid (fun (w : World) (A : Option Addr) (cap : Nat) (hr : RdS w A cap (flat rs ++ t)) => wholeJ w A cap rs t hr hg ht hb)
  have CC := Lib.hid (fun (w : World) (P : List Int) (R : List Rc) (h : Jy W w ad aj rm dn L many P R y ps) => h.cut_ok hi hl (by omega) (by omega) hc)
  have HP := Lib.hid hP
  have HR := Lib.hid hR
  have hbn : (flat rs).length ≤ 65536 := by rw [List.length_append] at hb; omega
  clear h hi hl hr hg ht hc hP hR hb
  unfold WhlJ at CW
  generalize (flat rs ++ t).length = M at *
  generalize (flat rs).length = N at *
  go_enter Try.func24, Try.ntmps24
  go_wp2_with fail
  refine C1.out.mono ?_
  rintro e w1 ⟨A1, cap1, rfl, r1, J1⟩
  have CW1 := Lib.hid (CW.out w1 A1 cap1 r1)
  obtain ⟨o1, vp1, vr1, g1, hy1, hd1⟩ := J1
  have K1 := Lib.hid (And.intro o1 (And.intro g1 (And.intro hy1 hd1)))
  clear r1 C1 CW o1 g1 hy1 hd1
  go_wp2_with fail
  refine CW1.out.mono ?_
  rintro e w2 ⟨A2, cap2, rfl, o2, b2⟩
  obtain ⟨o1, g1, hy1, hd4⟩ := K1.out
  have o4 := o1.still b2
  have g4 := g1.still b2
  have hy4 : OI w2 0 y ps := owns_keeps hy1 (Keeps.of_below b2 (Nat.le_refl _) (fun _ => False)) (fun _ _ e => e)
  have q2 := g4.c2
  obtain ⟨A4, cap4, rfl, _⟩ := j_ints g4
  obtain ⟨A5, cap5, w5, r5, lt5, c05, c35, f5, o6, g6, k6, u6⟩ := addP o4 g4 n (by have := HP.out; omega)
  obtain ⟨A6, cap6, rfl, _⟩ := os_shape g6.rk
  have hy6 := oi_keeps hy4 g4 hd4 k6
  have hd6 : ∀ x, y.ownBlock = some x → (Value.slice A5 (P.length + 1) cap5).ownBlock ≠ some x := fun x hx e => by
    rcases u6 x e with e | e
    · exact hd4 x hx e
    · have := (owns_block hy4 hx).2.1; omega
  have o2' : OS (w5.setCell ⟨aj, 2, none⟩ (.slice A5 (P.length + 1) cap5)) w1.heap.size (.slice A2 rs.length cap2) rs :=
    owns_keeps o2 k6 (fun x hx hf => by
      rcases hf with rfl | e | e
      · exact owns_off o2 g4.blk (by decide) hx
      · exact owns_ne o2 g4.pk (by decide) hx e
      · have h1 := (owns_block o2 hx).1
        have h2 := (owns_block g1.rk e).2.1
        omega)
  obtain ⟨A7, cap7, w7, r7, lt7, c07, f7, o8, g8, k8⟩ := addRs o6 g6 o2' (by have := HR.out; omega)
  have J8 : Jy W (w7.setCell ⟨aj, 3, none⟩ (.slice A7 (R.length + rs.length) cap7)) ad aj rm dn L many (P ++ [n]) (R ++ rs) y ps := ⟨o8, _, _, g8, oi_keeps hy6 g6 hd6 k8, hd6⟩
  have C8 := Lib.hid (CC.out _ _ _ J8)
  have R5 := Lib.hid r5
  have R7 := Lib.hid r7
  have lt4 := g4.lt
  clear r5 r7 o1 g1 hy1 o4 g4 o6 g6 o8 g8 hy4 hd4 hy6 hd6 k6 u6 k8 J8 K1 CW1 o2 o2' b2 CC HP HR
  generalize P.length = PL at *
  generalize R.length = RL at *
  generalize rs.length = SL at *
  go_wp2_with (first
    | (at_builtin; refine wpList_append_two rfl (.tmp 30) (.tmp 32) 44 44 rfl _ _ _ rfl rfl R5.out ?_)
    | (at_builtin; refine wpList_append_two rfl (.tmp 40) (.tmp 41) 45 45 rfl _ _ _ rfl rfl R7.out ?_)
    | ((go_at_call 33; refine C8.out.mono ?_); rintro e w9 ⟨rfl, J9⟩)
    | fail)
  go_ret
  exact ⟨rfl, J9⟩
end
end Go.Proofs.Ytgohgmihoggcpaa
