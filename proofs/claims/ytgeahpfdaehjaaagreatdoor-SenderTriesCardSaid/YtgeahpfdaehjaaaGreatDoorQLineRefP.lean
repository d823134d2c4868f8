/-
  Layer 4: the document's own Parse, walked: the event of a text, or where it can't go on.
-/
import Derived.Test.YtgeahpfdaehjaaaGreatDoorGrpG
import Derived.Deep.Cut
import Derived.Deep.DeepCutAuto
import Derived.Deep.CutBlock
import Derived.Outline
namespace Go.Proofs.YtgeahpfdaehjaaaGreatDoor
open Go.ChangeShapes Go.WideShapes Go.ChangeAt Go.RowKit
set_option linter.unusedVariables false

/-- Where the document's reading of tags stands. -/
structure AtRT (w : World) (s : ByteArray) (a g k : Nat) (acc : Tags) (A : Option Addr) (c : Nat) (wr : World) : Prop where
  len : acc.length + g = 6
  eq : tagsFrom s 6 a [] = tagsFrom s g k acc
  st : AtR w (s.extract 0 a) A c 0 0 0 acc wr
  le : k ≤ s.size

theorem refRunWi (s : ByteArray) (k0 : Nat) (x : Int) (hx : x = k0) (w : World) (hs : s.size ≤ 9223372036854775806) (h0 : k0 ≤ s.size) :
    Calls Tryz.prog 123 #[.string s, .int .i64 x, .bool false] w (Ints (runEnd inW s k0) w) := by subst hx; exact refRunW s k0 w hs h0
theorem refRunDi (s : ByteArray) (k0 : Nat) (x : Int) (hx : x = k0) (w : World) (hs : s.size ≤ 9223372036854775806) (h0 : k0 ≤ s.size) :
    Calls Tryz.prog 123 #[.string s, .int .i64 x, .bool true] w (Ints (runEnd isD s k0) w) := by subst hx; exact refRunD s k0 w hs h0
/-- Where the document's reading of the two numbers stands. -/
def AtN (w : World) (s : ByteArray) (a : Nat) (acc : Tags) (A : Option Addr) (c : Nat) (kd : Int) (g m p : Nat) (wx : World) : Prop :=
  (g = 2 ∧ p = 0 ∧ parseF s = parseNum s a acc kd m ∧ AtR w (s.extract 0 a) A c kd 0 0 acc wx ∧ m ≤ s.size)
  ∨ (g = 1 ∧ p = 1 ∧ ∃ v, parseF s = parseEnd s a acc kd v m ∧ AtR w (s.extract 0 a) A c kd v 0 acc wx ∧ m ≤ s.size)
  ∨ (g = 0 ∧ p = 2 ∧ ∃ v t, (parseF s = if m < s.size then .bad m else .good ⟨s.extract 0 a, acc, kd, v, t⟩) ∧ AtR w (s.extract 0 a) A c kd v t acc wx ∧ m ≤ s.size)
theorem ret_ev {x y : Int} (h : x = y) : Ending.returned (.tuple #[evZero, .int .i64 x]) = .returned (.tuple #[evZero, .int .i64 y]) := by rw [h]

set_option maxHeartbeats 6000000 in
set_option maxRecDepth 100000 in
theorem refParse (s : ByteArray) (w : World) (hs : s.size ≤ 300) : Calls Tryz.prog 110 #[.string s] w (RefPost w (parseF s)) := by
  have A0 : AtR w ⟨#[]⟩ none 0 0 0 0 [] ((w.alloc (.cells #[.string ⟨#[]⟩, .slice none 0 0, .int .i64 0, .int .i64 0, .int .i64 0] 154)).alloc (.cells #[.string ⟨#[]⟩, .slice none 0 0, .int .i64 0, .int .i64 0, .int .i64 0] 154)) := by
    refine ⟨grown_alloc (grown_alloc (grown_refl _ _) _) _, ?_, ?_, OwnT.nil _ _⟩
    · unfold EvB
      rw [(World.grownBy_alloc _ _ none).block w.heap.size (by simp) (by simp)]
      exact heap_alloc_new w _
    · have := heap_alloc_new (w.alloc (.cells #[.string ⟨#[]⟩, .slice none 0 0, .int .i64 0, .int .i64 0, .int .i64 0] 154)) (.cells #[.string ⟨#[]⟩, .slice none 0 0, .int .i64 0, .int .i64 0, .int .i64 0] 154)
      rw [World.size_alloc] at this
      exact this
  go_enter Tryz.func110, Tryz.ntmps110
  go_wp2_with fail
  generalize ((w.alloc (.cells #[.string ⟨#[]⟩, .slice none 0 0, .int .i64 0, .int .i64 0, .int .i64 0] 154)).alloc (.cells #[.string ⟨#[]⟩, .slice none 0 0, .int .i64 0, .int .i64 0, .int .i64 0] 154)) = w1 at A0 ⊢
  have H1 := Lib.hid A0
  clear A0
  refine (refRunW s 0 _ (by omega) (Nat.zero_le _)).mono ?_
  rintro e w' ⟨rfl, rfl⟩
  obtain ⟨a, ha⟩ : ∃ a, a = runEnd inW s 0 := ⟨_, rfl⟩
  have has : a ≤ s.size := by rw [ha]; exact runEnd_le (Nat.zero_le _)
  rw [← ha]
  have CW := Lib.hid (refWord (s.extract 0 a) w1 (by rw [extract_size _ _ _ has]; omega))
  rcases hB : wordB (s.extract 0 a) with _ | _
  · have HX : Hid (parseF s = .bad 0) := Lib.hid (by unfold parseF wordAt; rw [← ha, hB]; rfl)
    rw [hB] at CW
    clear hB ha
    have r0 := H1.out.res.c0
    have r1 := H1.out.res.c1
    have r2 := H1.out.res.c2
    have r3 := H1.out.res.c3
    have r4 := H1.out.res.c4
    have q0 := H1.out.res.f 0
    have q1 := H1.out.res.f 1
    have q2 := H1.out.res.f 2
    have q3 := H1.out.res.f 3
    have q4 := H1.out.res.f 4
    go_wp2_with ((go_at_call 124; refine CW.out.mono ?_); rintro e w' ⟨rfl, rfl⟩)
    refine bodyPost_ret (v := .tuple #[evZero, .int .i64 0]) (by simp [results, Tryz.results110, go_sem, evVal, evZero, r0, r1, r2, r3, r4]) rfl ?_
    rw [HX.out]
    exact ⟨ret_ev (by omega), H1.out.back _ _ _ _ _⟩
  have HX0 : Hid (parseF s = parseTags s a (tagsFrom s 6 a [])) := Lib.hid (by unfold parseF wordAt; rw [← ha, hB]; rfl)
  rw [hB] at CW
  clear hB ha
  have c0 := H1.out.ev.c0
  have c1 := H1.out.ev.c1
  have c2 := H1.out.ev.c2
  have c3 := H1.out.ev.c3
  have c4 := H1.out.ev.c4
  have f0 := H1.out.ev.f 0
  have f1 := H1.out.ev.f 1
  have f2 := H1.out.ev.f 2
  have f3 := H1.out.ev.f 3
  have f4 := H1.out.ev.f 4
  have r0 := H1.out.res.c0
  have r1 := H1.out.res.c1
  have r2 := H1.out.res.c2
  have r3 := H1.out.res.c3
  have r4 := H1.out.res.c4
  have q0 := H1.out.res.f 0
  have q1 := H1.out.res.f 1
  have q2 := H1.out.res.f 2
  have q3 := H1.out.res.f 3
  have q4 := H1.out.res.f 4
  go_wp2_with ((go_at_call 124; refine CW.out.mono ?_); rintro e w' ⟨rfl, rfl⟩)
  clear c0 c1 c2 c3 c4 f0 f1 f2 f3 f4 r0 r1 r2 r3 r4 q0 q1 q2 q3 q4
  have H2 := Lib.hid (H1.out.put 0 (.string (s.extract 0 a)) (H1.out.ev.set0 (s.extract 0 a)) H1.out.own)
  clear H1 CW
  go_loopg [5] 6 (fun g s5 wx => ∃ k acc A c, s5 = .int .i64 (k : Nat) ∧ Hid (AtRT w s a g k acc A c wx))
  case atStart => exact ⟨a, [], none, 0, rfl, Lib.hid ⟨rfl, rfl, H2.out, has⟩⟩
  case round =>
    clear H2
    obtain ⟨k, acc, A, c, rfl, HA⟩ := hrel
    have hks := HA.out.le
    have hlen := HA.out.len
    have H3 := Lib.hid HA.out.st
    by_cases h44 : chr s k = 44
    · have hk1 : k < s.size := chr_lt_size (by omega)
      have x44 : ((s[k].toNat : Int) == 44) = true := by rw [beq_iff_eq, ← chr_in hk1]; omega
      have H44 := Lib.hid h44
      clear h44
      cases gk with
      | zero =>
        have HX : Hid (parseF s = .bad k) := Lib.hid (by rw [HX0.out, HA.out.eq]; simp [tagsFrom, H44.out, parseTags])
        have e6 : ((acc.length : Int) == 6) = true := by rw [beq_iff_eq]; omega
        have c0 := H3.out.ev.c0
        have c1 := H3.out.ev.c1
        have c2 := H3.out.ev.c2
        have c3 := H3.out.ev.c3
        have c4 := H3.out.ev.c4
        have f0 := H3.out.ev.f 0
        have f1 := H3.out.ev.f 1
        have f2 := H3.out.ev.f 2
        have f3 := H3.out.ev.f 3
        have f4 := H3.out.ev.f 4
        have r0 := H3.out.res.c0
        have r1 := H3.out.res.c1
        have r2 := H3.out.res.c2
        have r3 := H3.out.res.c3
        have r4 := H3.out.res.c4
        have q0 := H3.out.res.f 0
        have q1 := H3.out.res.f 1
        have q2 := H3.out.res.f 2
        have q3 := H3.out.res.f 3
        have q4 := H3.out.res.f 4
        go_wp2_with fail
        refine bodyPost_ret (v := .tuple #[evZero, .int .i64 k]) (by simp [results, Tryz.results110, go_sem, evVal, evZero, r0, r1, r2, r3, r4]) rfl ?_
        rw [HX.out]
        exact ⟨ret_ev (by omega), H3.out.back _ _ _ _ _⟩
      | succ g =>
        have e6 : ((acc.length : Int) == 6) = false := by rw [beq_eq_false_iff_ne]; omega
        have HT : Hid (∀ X : TRes, (match wordAt s (k + 1) with | none => .bad (k + 1) | some i => if chr s i = 61 then (match wordAt s (i + 1) with | none => .bad (i + 1) | some j => tagsFrom s g j (acc ++ [(s.extract (k + 1) i, s.extract (i + 1) j)])) else .bad i) = X → tagsFrom s 6 a [] = X) := Lib.hid (fun X hX => by
          rw [HA.out.eq, ← hX]
          simp only [tagsFrom, H44.out, if_true]
          rfl)
        obtain ⟨i, hi⟩ : ∃ i, i = runEnd inW s (k + 1) := ⟨_, rfl⟩
        have his : i ≤ s.size := by rw [hi]; exact runEnd_le (by omega)
        have hki : k + 1 ≤ i := by rw [hi]; exact runEnd_ge _ _ _
        have CR := Lib.hid (refRunWi s (k + 1) ((k : Int) + 1) (by omega) wr (by omega) (by omega))
        rw [← hi] at CR
        have CW := Lib.hid (refWord (s.extract (k + 1) i) wr (by rw [extract_size _ _ _ his]; omega))
        have sl1 := slice_str s ((k : Int) + 1) i (k + 1) i (by omega) rfl hki his
        have c0 := H3.out.ev.c0
        have c1 := H3.out.ev.c1
        have c2 := H3.out.ev.c2
        have c3 := H3.out.ev.c3
        have c4 := H3.out.ev.c4
        have f0 := H3.out.ev.f 0
        have f1 := H3.out.ev.f 1
        have f2 := H3.out.ev.f 2
        have f3 := H3.out.ev.f 3
        have f4 := H3.out.ev.f 4
        have r0 := H3.out.res.c0
        have r1 := H3.out.res.c1
        have r2 := H3.out.res.c2
        have r3 := H3.out.res.c3
        have r4 := H3.out.res.c4
        have q0 := H3.out.res.f 0
        have q1 := H3.out.res.f 1
        have q2 := H3.out.res.f 2
        have q3 := H3.out.res.f 3
        have q4 := H3.out.res.f 4
        rcases hB : wordB (s.extract (k + 1) i) with _ | _
        · have hwi : wordAt s (k + 1) = none := by unfold wordAt; rw [← hi, hB]; rfl
          have HX : Hid (parseF s = .bad (k + 1)) := Lib.hid (by rw [HX0.out, HT.out (.bad (k + 1)) (by rw [hwi])]; rfl)
          rw [hB] at CW
          clear hB hi hwi
          go_wp2_with (first
            | ((go_at_call 123; refine CR.out.mono ?_); rintro e w' ⟨rfl, rfl⟩)
            | ((go_at_call 124; refine CW.out.mono ?_); rintro e w' ⟨rfl, rfl⟩))
          refine bodyPost_ret (v := .tuple #[evZero, .int .i64 ((k : Int) + 1)]) (by simp [results, Tryz.results110, go_sem, evVal, evZero, r0, r1, r2, r3, r4]) rfl ?_
          rw [HX.out]
          exact ⟨ret_ev (by omega), H3.out.back _ _ _ _ _⟩
        have hwi : wordAt s (k + 1) = some i := by unfold wordAt; rw [← hi, hB]; rfl
        have HWI := Lib.hid hwi
        rw [hB] at CW
        clear hB hi hwi
        by_cases h61 : chr s i = 61
        case neg =>
          have HX : Hid (parseF s = .bad i) := Lib.hid (by rw [HX0.out, HT.out (.bad i) (by rw [HWI.out]; simp only [h61, if_false])]; rfl)
          have hex : s.size ≤ i ∨ ∃ hlt : i < s.size, ((s[i].toNat : Int) == 61) = false ∧ ((s[i].toNat : Int) != 61) = true := by
            rcases Nat.lt_or_ge i s.size with hlt | hge
            · refine .inr ⟨hlt, ?_, ?_⟩
              · rw [beq_eq_false_iff_ne]; rw [chr_in hlt] at h61; omega
              · rw [bne_iff_ne]; rw [chr_in hlt] at h61; omega
            · exact .inl hge
          clear h61
          rcases hex with hge | ⟨hlt, y61, z61⟩
          all_goals
            go_wp2_with (first
              | ((go_at_call 123; refine CR.out.mono ?_); rintro e w' ⟨rfl, rfl⟩)
              | ((go_at_call 124; refine CW.out.mono ?_); rintro e w' ⟨rfl, rfl⟩))
            refine bodyPost_ret (v := .tuple #[evZero, .int .i64 i]) (by simp [results, Tryz.results110, go_sem, evVal, evZero, r0, r1, r2, r3, r4]) rfl ?_
            rw [HX.out]
            exact ⟨ret_ev (by omega), H3.out.back _ _ _ _ _⟩
        have hi1 : i < s.size := chr_lt_size (by omega)
        have y61 : ((s[i].toNat : Int) == 61) = true := by rw [beq_iff_eq, ← chr_in hi1]; omega
        have z61 : ((s[i].toNat : Int) != 61) = false := by rw [bne_eq_false_iff_eq, ← chr_in hi1]; omega
        have H61 := Lib.hid h61
        clear h61
        obtain ⟨j, hj⟩ : ∃ j, j = runEnd inW s (i + 1) := ⟨_, rfl⟩
        have hjs : j ≤ s.size := by rw [hj]; exact runEnd_le (by omega)
        have hij : i + 1 ≤ j := by rw [hj]; exact runEnd_ge _ _ _
        have CR2 := Lib.hid (refRunWi s (i + 1) ((i : Int) + 1) (by omega) wr (by omega) (by omega))
        rw [← hj] at CR2
        have HJ := Lib.hid hj
        clear hj
        have CW2 := Lib.hid (refWord (s.extract (i + 1) j) wr (by rw [extract_size _ _ _ hjs]; omega))
        have sl2 := slice_str s ((i : Int) + 1) j (i + 1) j (by omega) rfl hij hjs
        go_wp2_with fail
        refine CR.out.mono ?_
        rintro e w' ⟨rfl, rfl⟩
        go_wp2_with fail
        refine CW.out.mono ?_
        rintro e w' ⟨rfl, rfl⟩
        go_wp2_with fail
        refine CR2.out.mono ?_
        rintro e w' ⟨rfl, rfl⟩
        go_wp2_with fail
        rcases hB : wordB (s.extract (i + 1) j) with _ | _
        · have hwj : wordAt s (i + 1) = none := by unfold wordAt; rw [← HJ.out, hB]; rfl
          have HX : Hid (parseF s = .bad (i + 1)) := Lib.hid (by rw [HX0.out, HT.out (.bad (i + 1)) (by rw [HWI.out]; simp only [H61.out, if_true]; rw [hwj])]; rfl)
          rw [hB] at CW2
          clear hB hwj
          with_reducible refine CW2.out.mono ?_
          rintro e w' ⟨rfl, rfl⟩
          go_wp2_with fail
          refine bodyPost_ret (v := .tuple #[evZero, .int .i64 ((i : Int) + 1)]) (by simp [results, Tryz.results110, go_sem, evVal, evZero, r0, r1, r2, r3, r4]) rfl ?_
          rw [HX.out]
          exact ⟨ret_ev (by omega), H3.out.back _ _ _ _ _⟩
        have hwj : wordAt s (i + 1) = some j := by unfold wordAt; rw [← HJ.out, hB]; rfl
        have HX : Hid (tagsFrom s 6 a [] = tagsFrom s g j (acc ++ [(s.extract (k + 1) i, s.extract (i + 1) j)])) := Lib.hid (HT.out _ (by rw [HWI.out]; simp only [H61.out, if_true]; rw [hwj]))
        rw [hB] at CW2
        clear hB hwj
        with_reducible refine CW2.out.mono ?_
        rintro e w' ⟨rfl, rfl⟩
        have hwz : w.heap.size + 2 ≤ wr.heap.size := by have := lt_of_block H3.out.ev; omega
        obtain ⟨A', c', w3, r3x, o3, b3⟩ := append_tag (s.extract (k + 1) i) (s.extract (i + 1) j) (show OwnT wr.drew (w.heap.size + 2) A c acc from H3.out.own) (by show w.heap.size + 2 ≤ wr.heap.size; exact hwz) (by omega)
        have r3y : (Builtin.append_ #[152, 152] 152 #[.slice A acc.length c, .slice (some ⟨wr.heap.size, 0, none⟩) 1 1]).run Tryz.prog (wr.alloc (.cells #[.string (s.extract (k + 1) i), .string (s.extract (i + 1) j)] 198)).drew = .ok (.slice A' (acc.length + 1) c') w3 := r3x
        have HR3 := Lib.hid r3y
        have b3' : Below (w.heap.size + 2) wr w3 := ⟨b3.os, b3.tape, b3.output, b3.size, b3.block⟩
        have H4 := Lib.hid (H3.out.below b3')
        have HO3 := Lib.hid o3
        clear r3x r3y b3 b3' o3
        have d1 := H4.out.2.2.c1
        have g1 := H4.out.2.2.f 1
        have zz : w.heap.size + 1 < wr.heap.size := by omega
        go_wp2_with fail
        have ww : IntKind.i64.wrap ((i : Int) + 1) = (i : Int) + 1 := by rw [IntKind.wrap_i64]; omega
        have sl3 := slice_str s (IntKind.i64.wrap ((i : Int) + 1)) j (i + 1) j (by rw [ww]; omega) rfl hij hjs
        go_region_law (refine step_append_run rfl (.tmp 89) (.tmp 100) 152 rfl _ _ _ rfl rfl HR3.out ?_)
        all_goals go_wp2_with fail
        all_goals
          go_roundg g
          case rel =>
            refine ⟨j, acc ++ [(s.extract (k + 1) i, s.extract (i + 1) j)], A', c', rfl, Lib.hid ⟨by rw [List.length_append]; simp; omega, HX.out, ?_, hjs⟩⟩
            refine ⟨grown_set H4.out.1 _ _ (Or.inr (Nat.le_succ _)), H4.out.2.1.other _ _ (by show w.heap.size ≠ w.heap.size + 1; omega), ?_, HO3.out.set _ _ (Nat.lt_succ_self _)⟩
            rw [List.length_append]
            exact H4.out.2.2.set1 A' (acc.length + 1) c'
          case measure => omega
    · have HX1 : Hid (parseF s = parseKind s a acc k) := Lib.hid (by
        rw [HX0.out, HA.out.eq]
        have e1 : tagsFrom s gk k acc = .good k acc := by cases gk <;> simp [tagsFrom, h44]
        rw [e1]; rfl)
      rcases Nat.lt_or_ge k s.size with hlt | hge
      case inr =>
        have HX : Hid (parseF s = .bad k) := Lib.hid (by rw [HX1.out, parseKind, if_neg (by rw [chr_out hge]; omega)])
        clear h44
        have c0 := H3.out.ev.c0
        have c1 := H3.out.ev.c1
        have c2 := H3.out.ev.c2
        have c3 := H3.out.ev.c3
        have c4 := H3.out.ev.c4
        have f0 := H3.out.ev.f 0
        have f1 := H3.out.ev.f 1
        have f2 := H3.out.ev.f 2
        have f3 := H3.out.ev.f 3
        have f4 := H3.out.ev.f 4
        have r0 := H3.out.res.c0
        have r1 := H3.out.res.c1
        have r2 := H3.out.res.c2
        have r3 := H3.out.res.c3
        have r4 := H3.out.res.c4
        have q0 := H3.out.res.f 0
        have q1 := H3.out.res.f 1
        have q2 := H3.out.res.f 2
        have q3 := H3.out.res.f 3
        have q4 := H3.out.res.f 4
        go_wp2_with fail
        refine bodyPost_ret (v := .tuple #[evZero, .int .i64 k]) (by simp [results, Tryz.results110, go_sem, evVal, evZero, r0, r1, r2, r3, r4]) rfl ?_
        rw [HX.out]
        exact ⟨ret_ev (by omega), H3.out.back _ _ _ _ _⟩
      have x44 : ((s[k].toNat : Int) == 44) = false := by rw [beq_eq_false_iff_ne, ← chr_in hlt]; omega
      by_cases h32 : chr s k = 32
      case neg =>
        have HX : Hid (parseF s = .bad k) := Lib.hid (by rw [HX1.out, parseKind, if_neg h32])
        have x32 : ((s[k].toNat : Int) == 32) = false := by rw [beq_eq_false_iff_ne, ← chr_in hlt]; omega
        have y32 : ((s[k].toNat : Int) != 32) = true := by rw [bne_iff_ne, ← chr_in hlt]; omega
        clear h44 h32
        have c0 := H3.out.ev.c0
        have c1 := H3.out.ev.c1
        have c2 := H3.out.ev.c2
        have c3 := H3.out.ev.c3
        have c4 := H3.out.ev.c4
        have f0 := H3.out.ev.f 0
        have f1 := H3.out.ev.f 1
        have f2 := H3.out.ev.f 2
        have f3 := H3.out.ev.f 3
        have f4 := H3.out.ev.f 4
        have r0 := H3.out.res.c0
        have r1 := H3.out.res.c1
        have r2 := H3.out.res.c2
        have r3 := H3.out.res.c3
        have r4 := H3.out.res.c4
        have q0 := H3.out.res.f 0
        have q1 := H3.out.res.f 1
        have q2 := H3.out.res.f 2
        have q3 := H3.out.res.f 3
        have q4 := H3.out.res.f 4
        go_wp2_with fail
        refine bodyPost_ret (v := .tuple #[evZero, .int .i64 k]) (by simp [results, Tryz.results110, go_sem, evVal, evZero, r0, r1, r2, r3, r4]) rfl ?_
        rw [HX.out]
        exact ⟨ret_ev (by omega), H3.out.back _ _ _ _ _⟩
      have x32 : ((s[k].toNat : Int) == 32) = true := by rw [beq_iff_eq, ← chr_in hlt]; omega
      have y32 : ((s[k].toNat : Int) != 32) = false := by rw [bne_eq_false_iff_eq, ← chr_in hlt]; omega
      have H32 := Lib.hid h32
      clear h44 h32
      have HX2 : Hid (∀ X, (match kindOf (chr s (k + 1)) with | none => Res.bad (k + 1) | some kd => parseNum s a acc kd (k + 1 + 1)) = X → parseF s = X) := Lib.hid (fun X hX => by rw [HX1.out, parseKind, if_pos H32.out, ← hX]; rfl)
      clear HX1
      have H3' := H3
      rcases Nat.lt_or_ge (k + 1) s.size with hlt1 | hge1
      case inr =>
        have HX : Hid (parseF s = .bad (k + 1)) := Lib.hid (HX2.out _ (by rw [chr_out hge1]; rfl))
        have z1 : decide ((s.size : Int) ≤ (k : Int) + 1) = true := decide_eq_true (by omega)
        have c0 := H3.out.ev.c0
        have c1 := H3.out.ev.c1
        have c2 := H3.out.ev.c2
        have c3 := H3.out.ev.c3
        have c4 := H3.out.ev.c4
        have f0 := H3.out.ev.f 0
        have f1 := H3.out.ev.f 1
        have f2 := H3.out.ev.f 2
        have f3 := H3.out.ev.f 3
        have f4 := H3.out.ev.f 4
        have r0 := H3.out.res.c0
        have r1 := H3.out.res.c1
        have r2 := H3.out.res.c2
        have r3 := H3.out.res.c3
        have r4 := H3.out.res.c4
        have q0 := H3.out.res.f 0
        have q1 := H3.out.res.f 1
        have q2 := H3.out.res.f 2
        have q3 := H3.out.res.f 3
        have q4 := H3.out.res.f 4
        go_wp2_with fail
        refine bodyPost_ret (v := .tuple #[evZero, .int .i64 ((k : Int) + 1)]) (by simp [results, Tryz.results110, go_sem, evVal, evZero, r0, r1, r2, r3, r4]) rfl ?_
        rw [HX.out]
        exact ⟨ret_ev (by omega), H3.out.back _ _ _ _ _⟩
      have z1 : decide ((s.size : Int) ≤ (k : Int) + 1) = false := decide_eq_false (by omega)
      have c0 := H3.out.ev.c0
      have c1 := H3.out.ev.c1
      have c2 := H3.out.ev.c2
      have c3 := H3.out.ev.c3
      have c4 := H3.out.ev.c4
      have f0 := H3.out.ev.f 0
      have f1 := H3.out.ev.f 1
      have f2 := H3.out.ev.f 2
      have f3 := H3.out.ev.f 3
      have f4 := H3.out.ev.f 4
      have r0 := H3.out.res.c0
      have r1 := H3.out.res.c1
      have r2 := H3.out.res.c2
      have r3 := H3.out.res.c3
      have r4 := H3.out.res.c4
      have q0 := H3.out.res.f 0
      have q1 := H3.out.res.f 1
      have q2 := H3.out.res.f 2
      have q3 := H3.out.res.f 3
      have q4 := H3.out.res.f 4
      go_upto_block 2 with fail
      go_cut [] (fun wx => ∃ kd, Hid (kindOf (chr s (k + 1)) = some kd ∧ AtR w (s.extract 0 a) A c kd 0 0 acc wx))
      case first =>
        have hce := chr_in hlt1
        have HCE := Lib.hid hce
        clear hce
        obtain ⟨y, hy⟩ : ∃ y, s[k + 1].toNat = y := ⟨_, rfl⟩
        rw [hy] at HCE
        by_cases k99 : y = 99
        · have b99 : ((s[k + 1].toNat : Int) == 99) = true := by rw [beq_iff_eq]; omega
          go_wp2_with fail
          go_meet
          case rel => exact ⟨1, Lib.hid ⟨by rw [HCE.out, k99]; rfl, H3.out.put 2 (.int .i64 1) (H3.out.ev.set2 1) H3.out.own⟩⟩
        have b99 : ((s[k + 1].toNat : Int) == 99) = false := by rw [beq_eq_false_iff_ne]; omega
        by_cases k103 : y = 103
        · have b103 : ((s[k + 1].toNat : Int) == 103) = true := by rw [beq_iff_eq]; omega
          go_wp2_with fail
          go_meet
          case rel => exact ⟨2, Lib.hid ⟨by rw [HCE.out, k103]; rfl, H3.out.put 2 (.int .i64 2) (H3.out.ev.set2 2) H3.out.own⟩⟩
        have b103 : ((s[k + 1].toNat : Int) == 103) = false := by rw [beq_eq_false_iff_ne]; omega
        by_cases k104 : y = 104
        · have b104 : ((s[k + 1].toNat : Int) == 104) = true := by rw [beq_iff_eq]; omega
          go_wp2_with fail
          go_meet
          case rel => exact ⟨3, Lib.hid ⟨by rw [HCE.out, k104]; rfl, H3.out.put 2 (.int .i64 3) (H3.out.ev.set2 3) H3.out.own⟩⟩
        have b104 : ((s[k + 1].toNat : Int) == 104) = false := by rw [beq_eq_false_iff_ne]; omega
        have HX : Hid (parseF s = .bad (k + 1)) := Lib.hid (HX2.out _ (by rw [HCE.out, kindOf, if_neg k99, if_neg k103, if_neg k104]))
        go_wp2_with fail
        refine bodyPost_ret (v := .tuple #[evZero, .int .i64 ((k : Int) + 1)]) (by simp [results, Tryz.results110, go_sem, evVal, evZero, r0, r1, r2, r3, r4]) rfl ?_
        rw [HX.out]
        exact ⟨ret_ev (by omega), H3.out.back _ _ _ _ _⟩
      case rest =>
        clear c0 c1 c2 c3 c4 f0 f1 f2 f3 f4 r0 r1 r2 r3 r4 q0 q1 q2 q3 q4
        clear x44 x32 y32 z1
        obtain ⟨kd, HK⟩ := hcut
        have HX3 : Hid (parseF s = parseNum s a acc kd (k + 1 + 1)) := Lib.hid (HX2.out _ (by rw [HK.out.1]))
        have N0 : Hid (AtN w s a acc A c kd 2 (k + 1 + 1) 0 wc) := Lib.hid (.inl ⟨rfl, rfl, HX3.out, HK.out.2, by omega⟩)
        clear HX2 HX3 HK H3 H3' HA
        go_wp2_with fail
        go_loopg [5, 11] 2 (fun g s5 s11 wx => ∃ (m p : Nat), s5 = .int .i64 m ∧ s11 = .int .i64 p ∧ Hid (AtN w s a acc A c kd g m p wx))
        case atStart => exact ⟨k + 1 + 1, 0, by go_num, rfl, N0⟩
        case round =>
          clear N0
          obtain ⟨m, p, rfl, rfl, HN⟩ := hrel
          rcases HN.out with ⟨rfl, rfl, hX, hR, hms⟩ | ⟨rfl, rfl, v, hX, hR, hms⟩ | ⟨rfl, rfl, v, tm, hX, hR, hms⟩
          · have HX3 := Lib.hid hX
            have H5 := Lib.hid hR
            clear hX hR HN
            have c0 := H5.out.ev.c0
            have c1 := H5.out.ev.c1
            have c2 := H5.out.ev.c2
            have c3 := H5.out.ev.c3
            have c4 := H5.out.ev.c4
            have f0 := H5.out.ev.f 0
            have f1 := H5.out.ev.f 1
            have f2 := H5.out.ev.f 2
            have f3 := H5.out.ev.f 3
            have f4 := H5.out.ev.f 4
            have r0 := H5.out.res.c0
            have r1 := H5.out.res.c1
            have r2 := H5.out.res.c2
            have r3 := H5.out.res.c3
            have r4 := H5.out.res.c4
            have q0 := H5.out.res.f 0
            have q1 := H5.out.res.f 1
            have q2 := H5.out.res.f 2
            have q3 := H5.out.res.f 3
            have q4 := H5.out.res.f 4
            by_cases h32 : chr s m = 32
            case neg =>
              have HX : Hid (parseF s = .bad m) := Lib.hid (by rw [HX3.out, parseNum, if_neg h32])
              have hex : s.size ≤ m ∨ ∃ hlt : m < s.size, ((s[m].toNat : Int) == 32) = false ∧ ((s[m].toNat : Int) != 32) = true := by
                rcases Nat.lt_or_ge m s.size with hlt | hge
                · refine .inr ⟨hlt, ?_, ?_⟩
                  · rw [beq_eq_false_iff_ne]; rw [chr_in hlt] at h32; omega
                  · rw [bne_iff_ne]; rw [chr_in hlt] at h32; omega
                · exact .inl hge
              clear h32
              rcases hex with hge | ⟨hlt2, x32, y32⟩
              all_goals
                go_wp2_with fail
                refine bodyPost_ret (v := .tuple #[evZero, .int .i64 m]) (by simp [results, Tryz.results110, go_sem, evVal, evZero, r0, r1, r2, r3, r4]) rfl ?_
                rw [HX.out]
                exact ⟨ret_ev (by omega), H5.out.back _ _ _ _ _⟩
            have hm1 : m < s.size := chr_lt_size (by omega)
            have x32 : ((s[m].toNat : Int) == 32) = true := by rw [beq_iff_eq, ← chr_in hm1]; omega
            have y32 : ((s[m].toNat : Int) != 32) = false := by rw [bne_eq_false_iff_eq, ← chr_in hm1]; omega
            have H32' := Lib.hid h32
            clear h32
            obtain ⟨j, hj⟩ : ∃ j, j = numEnd s (m + 1) := ⟨_, rfl⟩
            obtain ⟨hmj, hjs⟩ := numEnd_le (s := s) (k := m + 1) (by omega)
            rw [← hj] at hmj hjs
            have CV := Lib.hid (refNum s (m + 1) (-9223372036854775808) 9223372036854775807 wr hs (by omega) (by omega) (by omega) (by omega) (by omega))
            rw [← hj] at CV
            have sl4 := slice_str s ((m : Int) + 1) j (m + 1) j (by omega) rfl hmj hjs
            have hd : ∃ q : Nat, (chr s (m + 1) = 45 ∧ q = m + 1 + 1 ∧ m + 1 < s.size ∨ chr s (m + 1) ≠ 45 ∧ q = m + 1) ∧ q ≤ s.size ∧ runEnd isD s q = j := by
              by_cases h45 : chr s (m + 1) = 45
              · have hz := chr_lt_size (s := s) (k := m + 1) (by omega)
                exact ⟨m + 1 + 1, .inl ⟨h45, rfl, hz⟩, by omega, by rw [hj, numEnd, if_pos h45]⟩
              · exact ⟨m + 1, .inr ⟨h45, rfl⟩, by omega, by rw [hj, numEnd, if_neg h45]⟩
            obtain ⟨q, hq, hqs, hqj⟩ := hd
            have HXN : Hid (∀ X, (match numAt s (m + 1) (-9223372036854775808) 9223372036854775807 with | none => Res.bad (m + 1) | some u => parseEnd s a acc kd u j) = X → parseF s = X) := Lib.hid (fun X hX => by rw [HX3.out, parseNum, if_pos H32'.out, ← hX, hj]; rfl)
            clear hj
            have CR := Lib.hid (refRunD s q wr (by omega) hqs)
            rw [hqj] at CR
            clear hqj
            have hex : (∃ hz : m + 1 < s.size, q = m + 1 + 1 ∧ ((s[m + 1].toNat : Int) == 45) = true) ∨ (q = m + 1 ∧ ∃ hz : m + 1 < s.size, ((s[m + 1].toNat : Int) == 45) = false) ∨ (q = m + 1 ∧ s.size ≤ m + 1) := by
              rcases hq with ⟨h45, hq, hz⟩ | ⟨h45, hq⟩
              · exact .inl ⟨hz, hq, by rw [beq_iff_eq, ← chr_in hz]; omega⟩
              · rcases Nat.lt_or_ge (m + 1) s.size with hz | hz
                · exact .inr (.inl ⟨hq, hz, by rw [beq_eq_false_iff_ne, ← chr_in hz]; omega⟩)
                · exact .inr (.inr ⟨hq, hz⟩)
            clear hq
            have hqi : ∃ x : Int, x = (q : Int) := ⟨_, rfl⟩
            rcases hex with ⟨hz, hq, z45⟩ | ⟨hq, hz, z45⟩ | ⟨hq, hz⟩
            all_goals
              have zd : decide ((m : Int) + 1 < (s.size : Int)) = decide (m + 1 < s.size) := by rw [decide_eq_decide]; omega
              first
                | rw [decide_eq_true (show m + 1 < s.size from hz)] at zd
                | rw [decide_eq_false (show ¬ m + 1 < s.size by omega)] at zd
              subst hq
              first
                | rw [show ((m + 1 + 1 : Nat) : Int) = (m : Int) + 1 + 1 by omega] at CR
                | rw [show ((m + 1 : Nat) : Int) = (m : Int) + 1 by omega] at CR
              go_wp2_with fail
              refine CR.out.mono ?_
              rintro e w' ⟨rfl, rfl⟩
              go_wp2_with fail
              rcases hv : numAt s (m + 1) (-9223372036854775808) 9223372036854775807 with _ | u
              · have HX : Hid (parseF s = .bad (m + 1)) := Lib.hid (HXN.out _ (by rw [hv]))
                rw [hv] at CV
                clear hv HXN
                refine CV.out.mono ?_
                rintro e w' ⟨x0, rfl, rfl⟩
                go_wp2_with fail
                refine bodyPost_ret (v := .tuple #[evZero, .int .i64 ((m : Int) + 1)]) (by simp [results, Tryz.results110, go_sem, evVal, evZero, r0, r1, r2, r3, r4]) rfl ?_
                rw [HX.out]
                exact ⟨ret_ev (by omega), H5.out.back _ _ _ _ _⟩
              · have HX : Hid (parseF s = parseEnd s a acc kd u j) := Lib.hid (HXN.out _ (by rw [hv]))
                rw [hv] at CV
                clear hv HXN
                refine CV.out.mono ?_
                rintro e w' ⟨rfl, rfl⟩
                go_wp2_with fail
                go_roundg 1
                case rel => exact ⟨j, 1, rfl, rfl, Lib.hid (.inr (.inl ⟨rfl, rfl, u, HX.out, H5.out.put 3 (.int .i64 u) (H5.out.ev.set3 u) H5.out.own, hjs⟩))⟩
                case measure => omega
          · have HX3 := Lib.hid hX
            have H5 := Lib.hid hR
            clear hX hR HN
            have c0 := H5.out.ev.c0
            have c1 := H5.out.ev.c1
            have c2 := H5.out.ev.c2
            have c3 := H5.out.ev.c3
            have c4 := H5.out.ev.c4
            have f0 := H5.out.ev.f 0
            have f1 := H5.out.ev.f 1
            have f2 := H5.out.ev.f 2
            have f3 := H5.out.ev.f 3
            have f4 := H5.out.ev.f 4
            have r0 := H5.out.res.c0
            have r1 := H5.out.res.c1
            have r2 := H5.out.res.c2
            have r3 := H5.out.res.c3
            have r4 := H5.out.res.c4
            have q0 := H5.out.res.f 0
            have q1 := H5.out.res.f 1
            have q2 := H5.out.res.f 2
            have q3 := H5.out.res.f 3
            have q4 := H5.out.res.f 4
            by_cases h32 : chr s m = 32
            case neg =>
              have HX : Hid (parseF s = .bad m) := Lib.hid (by rw [HX3.out, parseEnd, if_neg h32])
              have hex : s.size ≤ m ∨ ∃ hlt : m < s.size, ((s[m].toNat : Int) == 32) = false ∧ ((s[m].toNat : Int) != 32) = true := by
                rcases Nat.lt_or_ge m s.size with hlt | hge
                · refine .inr ⟨hlt, ?_, ?_⟩
                  · rw [beq_eq_false_iff_ne]; rw [chr_in hlt] at h32; omega
                  · rw [bne_iff_ne]; rw [chr_in hlt] at h32; omega
                · exact .inl hge
              clear h32
              rcases hex with hge | ⟨hlt2, x32, y32⟩
              all_goals
                go_wp2_with fail
                refine bodyPost_ret (v := .tuple #[evZero, .int .i64 m]) (by simp [results, Tryz.results110, go_sem, evVal, evZero, r0, r1, r2, r3, r4]) rfl ?_
                rw [HX.out]
                exact ⟨ret_ev (by omega), H5.out.back _ _ _ _ _⟩
            have hm1 : m < s.size := chr_lt_size (by omega)
            have x32 : ((s[m].toNat : Int) == 32) = true := by rw [beq_iff_eq, ← chr_in hm1]; omega
            have y32 : ((s[m].toNat : Int) != 32) = false := by rw [bne_eq_false_iff_eq, ← chr_in hm1]; omega
            have H32' := Lib.hid h32
            clear h32
            obtain ⟨j, hj⟩ : ∃ j, j = numEnd s (m + 1) := ⟨_, rfl⟩
            obtain ⟨hmj, hjs⟩ := numEnd_le (s := s) (k := m + 1) (by omega)
            rw [← hj] at hmj hjs
            have CV := Lib.hid (refNum s (m + 1) 0 1099511627776 wr hs (by omega) (by omega) (by omega) (by omega) (by omega))
            rw [← hj] at CV
            have sl4 := slice_str s ((m : Int) + 1) j (m + 1) j (by omega) rfl hmj hjs
            have hd : ∃ q : Nat, (chr s (m + 1) = 45 ∧ q = m + 1 + 1 ∧ m + 1 < s.size ∨ chr s (m + 1) ≠ 45 ∧ q = m + 1) ∧ q ≤ s.size ∧ runEnd isD s q = j := by
              by_cases h45 : chr s (m + 1) = 45
              · have hz := chr_lt_size (s := s) (k := m + 1) (by omega)
                exact ⟨m + 1 + 1, .inl ⟨h45, rfl, hz⟩, by omega, by rw [hj, numEnd, if_pos h45]⟩
              · exact ⟨m + 1, .inr ⟨h45, rfl⟩, by omega, by rw [hj, numEnd, if_neg h45]⟩
            obtain ⟨q, hq, hqs, hqj⟩ := hd
            have HXN : Hid (∀ X, (match numAt s (m + 1) 0 1099511627776 with | none => Res.bad (m + 1) | some u => (if j < s.size then Res.bad j else Res.good ⟨s.extract 0 a, acc, kd, v, u⟩)) = X → parseF s = X) := Lib.hid (fun X hX => by rw [HX3.out, parseEnd, if_pos H32'.out, ← hX, hj]; rfl)
            clear hj
            have CR := Lib.hid (refRunD s q wr (by omega) hqs)
            rw [hqj] at CR
            clear hqj
            have hex : (∃ hz : m + 1 < s.size, q = m + 1 + 1 ∧ ((s[m + 1].toNat : Int) == 45) = true) ∨ (q = m + 1 ∧ ∃ hz : m + 1 < s.size, ((s[m + 1].toNat : Int) == 45) = false) ∨ (q = m + 1 ∧ s.size ≤ m + 1) := by
              rcases hq with ⟨h45, hq, hz⟩ | ⟨h45, hq⟩
              · exact .inl ⟨hz, hq, by rw [beq_iff_eq, ← chr_in hz]; omega⟩
              · rcases Nat.lt_or_ge (m + 1) s.size with hz | hz
                · exact .inr (.inl ⟨hq, hz, by rw [beq_eq_false_iff_ne, ← chr_in hz]; omega⟩)
                · exact .inr (.inr ⟨hq, hz⟩)
            clear hq
            have hqi : ∃ x : Int, x = (q : Int) := ⟨_, rfl⟩
            rcases hex with ⟨hz, hq, z45⟩ | ⟨hq, hz, z45⟩ | ⟨hq, hz⟩
            all_goals
              have zd : decide ((m : Int) + 1 < (s.size : Int)) = decide (m + 1 < s.size) := by rw [decide_eq_decide]; omega
              first
                | rw [decide_eq_true (show m + 1 < s.size from hz)] at zd
                | rw [decide_eq_false (show ¬ m + 1 < s.size by omega)] at zd
              subst hq
              first
                | rw [show ((m + 1 + 1 : Nat) : Int) = (m : Int) + 1 + 1 by omega] at CR
                | rw [show ((m + 1 : Nat) : Int) = (m : Int) + 1 by omega] at CR
              go_wp2_with fail
              refine CR.out.mono ?_
              rintro e w' ⟨rfl, rfl⟩
              go_wp2_with fail
              rcases hv : numAt s (m + 1) 0 1099511627776 with _ | u
              · have HX : Hid (parseF s = .bad (m + 1)) := Lib.hid (HXN.out _ (by rw [hv]))
                rw [hv] at CV
                clear hv HXN
                refine CV.out.mono ?_
                rintro e w' ⟨x0, rfl, rfl⟩
                go_wp2_with fail
                refine bodyPost_ret (v := .tuple #[evZero, .int .i64 ((m : Int) + 1)]) (by simp [results, Tryz.results110, go_sem, evVal, evZero, r0, r1, r2, r3, r4]) rfl ?_
                rw [HX.out]
                exact ⟨ret_ev (by omega), H5.out.back _ _ _ _ _⟩
              · have HX : Hid (parseF s = (if j < s.size then Res.bad j else Res.good ⟨s.extract 0 a, acc, kd, v, u⟩)) := Lib.hid (HXN.out _ (by rw [hv]))
                rw [hv] at CV
                clear hv HXN
                refine CV.out.mono ?_
                rintro e w' ⟨rfl, rfl⟩
                go_wp2_with fail
                go_roundg 0
                case rel => exact ⟨j, 2, rfl, rfl, Lib.hid (.inr (.inr ⟨rfl, rfl, v, u, HX.out, H5.out.put 4 (.int .i64 u) (H5.out.ev.set4 u) H5.out.own, hjs⟩))⟩
                case measure => omega
          · have HX3 := Lib.hid hX
            have H5 := Lib.hid hR
            clear hX hR HN
            have c0 := H5.out.ev.c0
            have c1 := H5.out.ev.c1
            have c2 := H5.out.ev.c2
            have c3 := H5.out.ev.c3
            have c4 := H5.out.ev.c4
            have f0 := H5.out.ev.f 0
            have f1 := H5.out.ev.f 1
            have f2 := H5.out.ev.f 2
            have f3 := H5.out.ev.f 3
            have f4 := H5.out.ev.f 4
            have r0 := H5.out.res.c0
            have r1 := H5.out.res.c1
            have r2 := H5.out.res.c2
            have r3 := H5.out.res.c3
            have r4 := H5.out.res.c4
            have q0 := H5.out.res.f 0
            have q1 := H5.out.res.f 1
            have q2 := H5.out.res.f 2
            have q3 := H5.out.res.f 3
            have q4 := H5.out.res.f 4
            rcases Nat.lt_or_ge m s.size with hlt2 | hge2
            · have HX : Hid (parseF s = .bad m) := Lib.hid (by rw [HX3.out, if_pos hlt2])
              go_wp2_with fail
              refine bodyPost_ret (v := .tuple #[evZero, .int .i64 m]) (by simp [results, Tryz.results110, go_sem, evVal, evZero, r0, r1, r2, r3, r4]) rfl ?_
              rw [HX.out]
              exact ⟨ret_ev (by omega), H5.out.back _ _ _ _ _⟩
            · have HX : Hid (parseF s = .good ⟨s.extract 0 a, acc, kd, v, tm⟩) := Lib.hid (by rw [HX3.out, if_neg (by omega)])
              go_wp2_with fail
              refine bodyPost_ret (v := .tuple #[evVal (s.extract 0 a) A acc.length c kd v tm, .int .i64 (-1)]) (by simp [results, Tryz.results110, go_sem, evVal, r0, r1, r2, r3, r4]) rfl ?_
              rw [HX.out]
              exact ⟨A, c, rfl, (OwnT.set5 H5.out.own (show w.heap.size < w.heap.size + 2 by omega) _ _ _ _ _).mono (by omega), H5.out.back _ _ _ _ _⟩
end Go.Proofs.YtgeahpfdaehjaaaGreatDoor
