/-
  Layer 9 (journal): the first part is forgotten; Trim.
  Layer 9 (journal): an Append that the disk has no room for; a Record that isn't there.
  Layer 9 (journal): what is done with a journal, said by its parts: a record appended (or not), all synced, the oldest trimmed, opened on a disk.
-/
import Derived.Test.YtgeahpfdaehjaaaGreatDoorGrpD
import Derived.Test.YtgeahpfdaehjaaaGreatDoorQOwnClear
namespace Go.Proofs.YtgeahpfdaehjaaaGreatDoor
open Go.ChangeShapes Go.WideShapes Go.ChangeAt Go.RowKit
set_option linter.unusedVariables false

theorem elem_ints : Tryz.prog.elem 109 = 3 := by unfold Program.elem; rw [Tryz.underlying109]
theorem elem_strs : Tryz.prog.elem 107 = 9 := by unfold Program.elem; rw [Tryz.underlying107]
theorem under_ints : Tryz.prog.underlying 109 = some (.slice (Tryz.prog.elem 109)) := by rw [elem_ints]; exact Tryz.underlying109
theorem under_strs : Tryz.prog.underlying 107 = some (.slice (Tryz.prog.elem 107)) := by rw [elem_strs]; exact Tryz.underlying107
theorem size_ints (w : World) : (sizeOf (Tryz.prog.elem 109)).run Tryz.prog w = .ok 1 w := by
  obtain ⟨i, hi, _, hz1, _⟩ := info_parts infoI
  rw [elem_ints]
  simp [sizeOf, typeInfo, hi, hz1, Result.andThen]
theorem size_strs (w : World) : (sizeOf (Tryz.prog.elem 107)).run Tryz.prog w = .ok 1 w := by
  obtain ⟨i, hi, _, hz1, _⟩ := info_parts infoS
  rw [elem_strs]
  simp [sizeOf, typeInfo, hi, hz1, Result.andThen]
theorem zero_str (w : World) : (zeroValue 9).run Tryz.prog w = .ok (encS []) w := by kernel_rfl
theorem map_drop {α β : Type} (f : α → β) (k : Nat) (l : List α) : (l.map f).drop k = (l.drop k).map f := by rw [List.map_drop]
section
variable {W : Fr} {w : World} {ad aj rm : Nat} {dn : Bool} {L : List Pt} {many : Int} {P : List Int} {R : List Rc} {vp vr : Value}
theorem ps_forget {B k : Nat} (h : PS w B vr R) (hk0 : 0 < k) (hk : k < R.length) :
    ∃ A c w1 A' c', (∀ w0, (Instr.slice 107 vr none (some (.int .i64 (k : Int))) none).run Tryz.prog w0 = .ok (.slice A k c) w0) ∧ (∀ ty q, (Builtin.clear_ #[107] ty #[.slice A k c]).run Tryz.prog (w.drewN q) = .ok (.tuple #[]) (w1.drewN q)) ∧
      (∀ w0, (Instr.slice 107 vr (some (.int .i64 (k : Int))) none none).run Tryz.prog w0 = .ok (.slice A' (R.length - k) c') w0) ∧ Keeps (fun x => vr.ownBlock = some x) w w1 ∧ PS w1 B vr (List.replicate k [] ++ R.drop k) ∧
      PS w1 B (.slice A' (R.length - k) c') (R.drop k) ∧ (Value.slice A' (R.length - k) c').ownBlock = vr.ownBlock := by
  obtain ⟨A, c, w1, h1, h2, h3, h4⟩ := OwnO.clear under_strs Tryz.underlying107 size_strs zero_str rfl rfl h hk0 (Nat.le_of_lt hk)
  obtain ⟨A', c', h5, h6, h7⟩ := OwnO.from2 under_strs size_strs h hk
  have e1 : List.replicate k (encS []) ++ (R.map encS).drop k = (List.replicate k [] ++ R.drop k).map encS := by rw [List.map_append, List.map_replicate, List.map_drop]
  have e2 : (List.replicate k ([] : Rc) ++ R.drop k).length = R.length := by rw [List.length_append, List.length_replicate, List.length_drop]; omega
  have h8 := h7 w1 B _ h3
  refine ⟨A, c, w1, A', c', h1, h2, h5, h4, ?_, ?_, h6⟩
  · unfold PS
    rw [e2, ← e1]
    exact h3
  · unfold PS
    have e3 : (List.replicate k (encS []) ++ (R.map encS).drop k).drop k = (R.drop k).map encS := by
      rw [List.drop_append_of_le_length (by simp), List.drop_eq_nil_of_le (by simp), List.nil_append, List.map_drop]
    rw [e3] at h8
    rw [List.length_drop]
    exact h8
theorem pi_tail {B : Nat} {p : Int} (h : PI w B vp (p :: P)) (hP : P ≠ []) :
    ∃ A c, (∀ w0, (Instr.slice 109 vp (some (.int .i64 (1 : Int))) none none).run Tryz.prog w0 = .ok (.slice A P.length c) w0) ∧ (Value.slice A P.length c).ownBlock = vp.ownBlock ∧ ∀ w1 B1, PI w1 B1 vp (p :: P) → PI w1 B1 (.slice A P.length c) P := by
  have hl := List.length_pos_iff.2 hP
  obtain ⟨A, c, h1, h2, h3⟩ := OwnO.from2 (k := 1) under_ints size_ints h (by rw [List.length_cons]; omega)
  simp only [List.length_cons, Nat.add_sub_cancel] at h1 h2 h3
  exact ⟨A, c, h1, h2, fun w1 B1 h4 => by
    have := h3 w1 B1 _ h4
    simpa [PI] using this⟩
set_option maxHeartbeats 1000000 in
set_option maxRecDepth 100000 in
theorem forgetJ {p0 p1 : Int} {k : Nat} (h : Jn W w ad aj rm dn L many (p0 :: p1 :: P) R) (hp : p1 = p0 + (k : Nat)) (hb : 0 ≤ p0 ∧ p1 ≤ 4611686018427387904) (hk0 : 0 < k) (hk : k < R.length) :
    Calls Tryz.prog 112 #[.pointer (some ⟨aj, 0, none⟩)] w fun e w' => e = .returned (.tuple #[]) ∧ Jn W w' ad aj rm dn L many (p1 :: P) (R.drop k) := by
  obtain ⟨vp, vr, o, g⟩ := h
  obtain ⟨A1, c1, h1, h2, h3⟩ := pi_tail g.pk (by simp)
  obtain ⟨A2, cc2, w1, A3, cc3, h4, h5, h6, k1, r1, r2, b1⟩ := ps_forget g.rk hk0 hk
  have q2 := g.c2
  have q3 := g.c3
  have lt := g.lt
  obtain ⟨Ap, cp, rfl, hA⟩ := j_ints g
  obtain ⟨ga, oa, rfl, i0⟩ := hA 0 p0 rfl
  obtain ⟨_, _, e, i1⟩ := hA 1 p1 rfl
  cases e
  rw [Nat.add_zero] at i0
  obtain ⟨Ar, cr, rfl, _⟩ := ps_shape g.rk
  have b2 : w1.heap[aj]? = some (.cells (jrCells ad many (.slice (some ⟨ga, oa, none⟩) (p0 :: p1 :: P).length cp) (.slice Ar R.length cr)) 111 (0, 0)) := keeps_out k1 g.blk (OwnO.off g.rk g.blk (by decide))
  have g1 : JrG w1 0 ad aj many (.slice (some ⟨ga, oa, none⟩) (p0 :: p1 :: P).length cp) (.slice Ar R.length cr) (p0 :: p1 :: P) (List.replicate k [] ++ R.drop k) :=
    ⟨b2, Nat.zero_le _, OwnO.keeps g.pk k1 (fun x hx e => OwnO.ne g.pk g.rk (by decide) hx e), r1⟩
  have FIN : Hid (∀ q, Jn W (((w1.drewN q).setCell ⟨aj, 3, none⟩ (.slice A3 (R.length - k) cc3)).setCell ⟨aj, 2, none⟩ (.slice A1 (p1 :: P).length c1)) ad aj rm dn L many (p1 :: P) (R.drop k)) := Lib.hid (fun q => by
    have g2 := (g1.drewN q).setR (OwnO.below r2 (below_drewN w1 q))
    have g3 := g2.setP (h3 _ _ g2.pk)
    refine ⟨_, _, o.far g (Keeps.set (Keeps.set (Keeps.drewN (k1.wide (fun x hx _ => .inr (.inr hx))) q) _ _ (.inl (.inl rfl))) _ _ (.inl (.inl rfl))) (fun x hx => ?_), g3⟩
    rcases hx with e | e | e
    · exact .inl (.inl e)
    · exact .inl (.inr (.inl (by rw [← h2]; exact e)))
    · exact .inl (.inr (.inr (by rw [← b1]; exact e))))
  have z2 : w1.cell? ⟨aj, 2, none⟩ = some (.slice (some ⟨ga, oa, none⟩) (p0 :: p1 :: P).length cp) := g1.c2
  have z3 : w1.cell? ⟨aj, 3, none⟩ = some (.slice Ar R.length cr) := g1.c3
  have zf : ∀ j, w1.frozen? ⟨aj, j, none⟩ = false := g1.f
  have zl := g1.lt
  have hw : IntKind.i64.wrap (p1 - p0) = (k : Int) := by rw [show p1 - p0 = (k : Int) by omega]; exact IntWalk.i64_in _ (by omega)
  have hl2 : (1 : Int) < ((p0 :: p1 :: P).length : Int) := by simp; omega
  have hl0 : (0 : Int) < ((p0 :: p1 :: P).length : Int) := by simp; omega
  clear g g1 o hA k1 r1 r2 b1 b2 h2 h3 hp hb hk0
  generalize (p0 :: p1 :: P).length = N at *
  generalize (p1 :: P).length = M at *
  generalize R.length - k = K at *
  generalize R.length = T at *
  go_enter Tryz.func112, Tryz.ntmps112
  go_wp2_with fail
  go_quiet (fail)
  go_wp2
  go_end0
  exact ⟨rfl, FIN.out _⟩
end
section
variable {W : Fr} {w : World} {ad aj rm : Nat} {many : Int} {G : List Sg}
theorem clean_fits (h : CleanG G) (hl : G.length ≤ 1000) : Fits (ns G) (recs G) := seg_fits (X := G) (Y := []) (h.segs hl) (by simp)
theorem remove_ok {W : Fr} {w : World} {P : List Int} {R : List Rc} {L L' : List Pt} {n : Int} (h : Jn W w ad aj rm false L many P R) (hr : opRemove false L n = (0, L')) (hi : Inv rm L) (hl : L.length ≤ 1000) (h0 : -9223372036854775808 ≤ n) (h1 : n ≤ 9223372036854775807) :
    Calls Tryz.prog 94 #[.pointer (some ⟨ad, 0, none⟩), .int .i64 n] w fun e w' => e = .returned .nilIface ∧ Jn W w' ad aj rm false L' many P R := by
  have := h.dsk (E := fun e => e = .returned (ErrV (opRemove false L n).1)) (dn' := false) (L' := (opRemove false L n).2) fun F hF => removeD w F ad rm false L n hF hi hl h0 h1
  rw [hr] at this
  exact this
theorem trim_le : ∀ (G : List Sg) (h : Int), (trimG G h).length ≤ G.length
  | [], h => Nat.le_refl _
  | [g], h => Nat.le_refl _
  | g :: f :: G, h => by
    unfold trimG
    split
    · exact Nat.le_trans (trim_le (f :: G) h) (Nat.le_succ _)
    · exact Nat.le_refl _
theorem trim_inv : ∀ (G : List Sg) (h : Int), Inv rm (pts' G) → Inv rm (pts' (trimG G h))
  | [], h, hi => hi
  | [g], h, hi => hi
  | g :: f :: G, h, hi => by
    unfold trimG
    split
    · exact trim_inv (f :: G) h (remove_first hi).2
    · exact hi
set_option maxHeartbeats 4000000 in
set_option maxRecDepth 100000 in
theorem trimJ {n : Int} (h : Jn W w ad aj rm false (pts' G) many (ns G) (recs G)) (hc : CleanG G) (hi : Inv rm (pts' G)) (hl : G.length ≤ 1000) :
    Calls Tryz.prog 90 #[.pointer (some ⟨aj, 0, none⟩), .int .i64 n] w fun e w' => e = .returned .nilIface ∧ Jn W w' ad aj rm false (pts' (trimG G n)) many (ns (trimG G n)) (recs (trimG G n)) := by
  have H := Lib.hid h
  have HC := Lib.hid hc
  have HI := Lib.hid hi
  have HL := Lib.hid hl
  clear h hc hi hl
  go_enter Tryz.func90, Tryz.ntmps90
  go_wp2_with fail
  go_loopg [] (G.length) (fun gk wx => ∃ G', Hid (G'.length = gk) ∧ Hid (trimG G' n = trimG G n) ∧ Hid (Jn W wx ad aj rm false (pts' G') many (ns G') (recs G')) ∧ Hid (CleanG G') ∧ Hid (Inv rm (pts' G')) ∧ Hid (G'.length ≤ 1000))
  case atStart => exact ⟨G, Lib.hid rfl, Lib.hid rfl, H, HC, HI, HL⟩
  case round =>
    clear H HC HI HL
    obtain ⟨G', HG, HT, HJ, HC, HI, HL⟩ := hrel
    obtain ⟨vp, vr, g⟩ := HJ.out.jrg
    have c0 := g.c0
    have c2 := g.c2
    obtain ⟨A, cap, rfl, hA⟩ := j_ints g
    rcases G' with _ | ⟨f0, _ | ⟨f1, G1⟩⟩
    · have FIN : Hid (Jn W wr ad aj rm false (pts' (trimG G n)) many (ns (trimG G n)) (recs (trimG G n))) := Lib.hid (by rw [← HT.out]; exact HJ.out)
      have c2' : wr.cell? ⟨aj, 2, none⟩ = some (.slice A 0 cap) := c2
      clear g hA HJ HC HI HL HT HG c2
      go_wp2_with fail
      go_ret
      exact ⟨rfl, FIN.out⟩
    · have FIN : Hid (Jn W wr ad aj rm false (pts' (trimG G n)) many (ns (trimG G n)) (recs (trimG G n))) := Lib.hid (by rw [← HT.out]; exact HJ.out)
      have c2' : wr.cell? ⟨aj, 2, none⟩ = some (.slice A 1 cap) := c2
      clear g hA HJ HC HI HL HT HG c2
      go_wp2_with fail
      go_ret
      exact ⟨rfl, FIN.out⟩
    · obtain ⟨k, rfl⟩ : ∃ k, gk = k + 1 := ⟨(f1 :: G1).length, by have := HG.out; rw [← this]; rfl⟩
      obtain ⟨ga, oa, rfl, i0⟩ := hA 0 f0.n rfl
      obtain ⟨_, _, e, i1⟩ := hA 1 f1.n rfl
      cases e
      rw [Nat.add_zero] at i0
      obtain ⟨C1, e1, e2, e3⟩ := clean_less HC.out
      have hN : (ns (f0 :: f1 :: G1)).length = G1.length + 2 := by unfold ns; simp
      rw [hN] at c2
      have hgt : (1 : Int) < ((G1.length + 2 : Nat) : Int) := by omega
      by_cases hle : f1.n ≤ n
      · obtain ⟨q1, q2⟩ := remove_first HI.out
        have hlo := HI.out.lo f0.pt (by unfold pts'; simp)
        have hhi := HI.out.hi f1.pt (by unfold pts'; simp)
        have hhi0 := HI.out.hi f0.pt (by unfold pts'; simp)
        have hb0 : 0 ≤ f0.n := hlo
        have hb1 : f1.n ≤ 10000 := by
          have := C1.hi
          rw [nxG_eq, fsG_cons] at this
          omega
        have hr0 : f0.n < f1.n := by
          have := HI.out.rise
          unfold Rises pts' at this
          rw [List.map_cons, List.pairwise_cons] at this
          exact this.1 f1.pt (by simp)
        have hk0 : 0 < f0.rs.length := by omega
        have hk1 : f0.rs.length < (recs (f0 :: f1 :: G1)).length := by
          rw [e2, recs_cons, List.length_append, List.length_append]
          have := List.length_pos_iff.2 (HC.out.ne f1 (by simp))
          omega
        have CR := Lib.hid (fun q : Nat => remove_ok (HJ.out.still (below_drewN wr q)) q1 HI.out (by unfold pts'; rw [List.length_map]; exact HL.out) (by omega) (by omega))
        have CF : Hid (∀ (wx : World) (J : Jn W wx ad aj rm false (pts' (f1 :: G1)) many (ns (f0 :: f1 :: G1)) (recs (f0 :: f1 :: G1))), Calls Tryz.prog 112 #[.pointer (some ⟨aj, 0, none⟩)] wx fun e w' => e = .returned (.tuple #[]) ∧ Jn W w' ad aj rm false (pts' (f1 :: G1)) many (ns (f1 :: G1)) ((recs (f0 :: f1 :: G1)).drop f0.rs.length)) := Lib.hid (fun wx J => forgetJ (p0 := f0.n) (p1 := f1.n) (P := ns G1) (k := f0.rs.length) J e1 ⟨hb0, by omega⟩ hk0 hk1)
        have HR : Hid ((recs (f0 :: f1 :: G1)).drop f0.rs.length = recs (f1 :: G1)) := Lib.hid (by rw [e2]; simp)
        rw [HR.out] at CF
        have HT2 : Hid (trimG (f1 :: G1) n = trimG G n) := Lib.hid (by rw [← HT.out]; conv => rhs; unfold trimG; rw [if_pos hle])
        have HG2 : Hid ((f1 :: G1).length = k) := Lib.hid (by have := HG.out; rw [List.length_cons] at this; omega)
        have HI2 := Lib.hid q2
        have HC2 := Lib.hid C1
        have HL2 : Hid ((f1 :: G1).length ≤ 1000) := Lib.hid (by have := HL.out; rw [List.length_cons] at this; omega)
        clear g hA HJ HC HI HL HT HG q1 q2 hlo hhi hhi0 hb0 hb1 hr0 hk0 hk1 HR C1 e1 e2 e3 hN
        generalize f1.n = x1 at *
        generalize f0.n = x0 at *
        generalize G1.length + 2 = N at *
        go_wp2_with fail
        go_region_with ((go_at_call 94; refine (CR.out _).mono ?_; rintro e w2 ⟨rfl, J2⟩; have C2 := Lib.hid (CF.out _ J2); clear J2))
        all_goals
          go_wp2_with fail
          refine C2.out.mono ?_
          rintro e w3 ⟨rfl, J3⟩
          have J3 := Lib.hid J3
          clear C2 CR CF
          go_wp2_with fail
          go_roundg k
          case rel => exact ⟨f1 :: G1, HG2, HT2, J3, HC2, HI2, HL2⟩
          case measure => omega
      · have hle' : decide (f1.n ≤ n) = false := decide_eq_false hle
        have FIN : Hid (Jn W wr ad aj rm false (pts' (trimG G n)) many (ns (trimG G n)) (recs (trimG G n))) := Lib.hid (by
          have e : trimG (f0 :: f1 :: G1) n = f0 :: f1 :: G1 := by conv => lhs; unfold trimG; rw [if_neg hle]
          rw [← HT.out, e]
          exact HJ.out)
        clear g hA HJ HC HI HL HT HG C1 e1 e2 e3 hN
        generalize f1.n = x1 at *
        generalize f0.n = x0 at *
        generalize G1.length + 2 = N at *
        go_wp2_with fail
        go_ret
        exact ⟨rfl, FIN.out⟩
end
end Go.Proofs.YtgeahpfdaehjaaaGreatDoor
namespace Go.Proofs.YtgeahpfdaehjaaaGreatDoor
open Go.ChangeShapes Go.WideShapes Go.ChangeAt Go.RowKit
set_option linter.unusedVariables false

def errC (c : Nat) : Value := .iface 41 (.int .i64 (c : Nat))
section
variable {W : Fr} {w : World} {ad aj rm : Nat} {dn : Bool} {L : List Pt} {many : Int} {P : List Int} {R : List Rc}
theorem Jn.append_no (h : Jn W w ad aj rm dn L many P R) {n : Int} {B : Option Addr} {cb : Nat} {bs : List UInt8} (ha : opAppend rm dn L n bs = (6, L)) (hr : RdS w B cb bs) (hi : Inv rm L) (hl : L.length ≤ 1000) (hn : n ≤ 9223372036854775807) (hb : bs.length ≤ 1000000) :
    Calls Tryz.prog 55 #[.pointer (some ⟨ad, 0, none⟩), .int .i64 n, .slice B bs.length cb] w fun e w' => e = .returned (.iface 41 (.int .i64 6)) ∧ Jn W w' ad aj rm dn L many P R := by
  have := h.append n hr hi hl hn hb
  rw [ha] at this
  exact this
set_option maxHeartbeats 2000000 in
set_option maxRecDepth 100000 in
theorem beginJ_no {b : Rc} {N : Int} (hN : jNext P R = N) (h : Jn W w ad aj rm dn L many P R) (hf : Fits P R) (hi : Inv rm L) (hl : L.length ≤ 1000) (hb : GoodR b) (hs : jSync dn L P = (0, L)) (ha : opAppend rm dn L N (encR b) = (6, L)) :
    Calls Tryz.prog 54 #[.pointer (some ⟨aj, 0, none⟩), .string ⟨b.toArray⟩] w fun e w' => e = .returned (.iface 41 (.int .i64 6)) ∧ Jn W w' ad aj rm dn L many P R := by
  have C1 := Lib.hid (syncJ_ok h hs hf hi hl)
  have hi1 : Hid (Inv rm L) := Lib.hid hi
  have hl1 : Hid (L.length ≤ 1000) := Lib.hid hl
  have hn := hf.next
  rw [hN] at hn
  have BJ := Lib.hid (fun w => bytesJ w b hb.2)
  have HE := Lib.hid (encR_length hb)
  have HF := Lib.hid hf
  have HA := Lib.hid ha
  have HB := Lib.hid hb
  have HN := Lib.hid hN
  clear h hi hl hs ha hb hf hN
  go_enter Tryz.func54, Tryz.ntmps54
  go_wp2_with fail
  refine C1.out.mono ?_
  rintro e w1 ⟨rfl, J1⟩
  obtain ⟨vp1, vr1, g1⟩ := J1.jrg
  have C2 := Lib.hid (nextJ g1 HF.out)
  rw [HN.out] at C2
  have K1 := Lib.hid J1
  clear J1 g1 C1
  go_wp2_with fail
  refine C2.out.mono ?_
  rintro e w2 ⟨rfl, m, hm⟩
  have J2 : Hid (Jn W w2 ad aj rm dn L many P R) := Lib.hid (by rw [hm]; exact K1.out.still (below_drewN w1 m))
  clear hm C2 K1 vp1 vr1
  have c0 : w2.cell? ⟨aj, 0, none⟩ = some (.pointer (some ⟨ad, 0, none⟩)) := by obtain ⟨vp, vr, g⟩ := J2.out.jrg; exact g.c0
  go_wp2_with fail
  go_region_with (first
    | (go_at_call 57; refine (BJ.out _).mono ?_; rintro e w3 ⟨A3, cap3, rfl, r3, b3⟩; have q3 : Jn W w3 ad aj rm dn L many P R := J2.out.still ((below_drew w2).trans b3); have CA := Lib.hid (q3.append_no HA.out r3 hi1.out hl1.out (by omega) (by have := HE.out; have := HB.out.2; omega)); have c3 : w3.cell? ⟨aj, 0, none⟩ = some (.pointer (some ⟨ad, 0, none⟩)) := (by obtain ⟨vp, vr, g⟩ := q3.jrg; exact g.c0); clear q3 r3 b3)
    | (go_at_call 55; refine CA.out.mono ?_; rintro e w4 ⟨rfl, J4⟩; have J4 := Lib.hid J4))
  all_goals go_wp2
  all_goals go_ret
  all_goals exact ⟨rfl, J4.out⟩
set_option maxHeartbeats 1000000 in
set_option maxRecDepth 100000 in
theorem appendJ_fullno {b : Rc} {N : Int} {A : Option Addr} {cap : Nat} (h : Jn W w ad aj rm dn L many P R) (hm : 0 ≤ many ∧ many ≤ 1000) (hr : RdS w A cap b) (hfull : jFull many P R = true) (hN : jNext P R = N) (hf : Fits P R) (hi : Inv rm L) (hl : L.length ≤ 1000) (hb : GoodR b) (hs : jSync dn L P = (0, L)) (ha : opAppend rm dn L N (encR b) = (6, L)) :
    Calls Tryz.prog 27 #[.pointer (some ⟨aj, 0, none⟩), .slice A b.length cap] w fun e w' => e = .returned (.iface 41 (.int .i64 6)) ∧ Jn W w' ad aj rm dn L many P R := by
  obtain ⟨vp, vr, g⟩ := h.jrg
  have C1 := Lib.hid (enoughJ g hf hm)
  rw [hfull] at C1
  have hcv := rd_conv hr
  have b1 : ¬ (b.length : Int) < 1 := by have := hb.1; omega
  have b2 : ¬ 4096 < (b.length : Int) := by have := hb.2; omega
  have C2 := Lib.hid (fun m : Nat => beginJ_no hN (h.still (below_drewN w m)) hf hi hl hb hs ha)
  clear h g hr hfull hN hf hi hl hb hs ha hm
  generalize b.length = K at *
  go_enter Tryz.func27, Tryz.ntmps27
  go_wp2_with fail
  refine C1.out.mono ?_
  rintro e w1 ⟨rfl, m, rfl⟩
  go_wp2_with fail
  refine (C2.out m).mono ?_
  rintro e w2 ⟨rfl, J2⟩
  have J2 := Lib.hid J2
  go_wp2
  go_ret
  exact ⟨rfl, J2.out⟩
set_option maxHeartbeats 2000000 in
set_option maxRecDepth 100000 in
theorem appendJ_inno {b : Rc} {A : Option Addr} {cap : Nat} (h : Jn W w ad aj rm dn L many P R) (hm : 0 ≤ many ∧ many ≤ 1000) (hr : RdS w A cap b) (hfull : jFull many P R = false) (hf : Fits P R) (hi : Inv rm L) (hl : L.length ≤ 1000) (hb : GoodR b) (ha : opAppend rm dn L (jLast P) (encR b) = (6, L)) :
    Calls Tryz.prog 27 #[.pointer (some ⟨aj, 0, none⟩), .slice A b.length cap] w fun e w' => e = .returned (.iface 41 (.int .i64 6)) ∧ Jn W w' ad aj rm dn L many P R := by
  obtain ⟨vp, vr, g⟩ := h.jrg
  have C1 := Lib.hid (enoughJ g hf hm)
  rw [hfull] at C1
  have hcv := rd_conv hr
  have b1 : ¬ (b.length : Int) < 1 := by have := hb.1; omega
  have b2 : ¬ 4096 < (b.length : Int) := by have := hb.2; omega
  have hP : P ≠ [] := fun e => by subst e; cases hfull
  have hlast := hf.last
  have D := Lib.hid (fun (wx : World) (hx : Below w.heap.size w wx) => lastJ (g.still hx) hP hf.pl)
  have HE := encR_length hb
  have HB := hb.2
  have CA := Lib.hid (fun (wx : World) (hx : Below w.heap.size w wx) (B : Option Addr) (cb : Nat) (hrx : RdS wx B cb (encR b)) => (h.still hx).append_no ha hrx hi hl (by omega) (by omega))
  have BJ := Lib.hid (fun w => bytesJ w b hb.2)
  have c0 := g.c0
  have lt := g.lt
  have G := Lib.hid (fun (wx : World) (hx : Below w.heap.size w wx) => (g.still hx).c0)
  clear h g hr hfull hf hi hl hb ha hm HE HB hP
  generalize jLast P = x at *
  generalize b.length = K at *
  go_enter Tryz.func27, Tryz.ntmps27
  go_wp2_with fail
  refine C1.out.mono ?_
  rintro e w1 ⟨rfl, m, rfl⟩
  clear C1
  go_wp2_with fail
  go_region_with (first
    | (go_at_call 56; refine (D.out _ (by first | exact below_drewN w _ | assumption)).mono ?_; rintro e w4 ⟨rfl, m4, rfl⟩)
    | (go_at_call 57; refine (BJ.out _).mono ?_; rintro e w3 ⟨A3, cap3, rfl, r3, b3⟩; have B3 : Below w.heap.size w w3 := (below_drewN w _).trans b3; have c3 := G.out w3 B3; have K0 := Lib.hid (CA.out w3 B3 _ _ r3); have K1 := Lib.hid (fun n : Nat => CA.out (w3.drewN n) (B3.trans ((below_drewN w3 n).mono B3.size)) _ _ (r3.drew n)); clear r3 b3)
    | (go_at_call 55; (first | with_reducible refine K0.out.mono ?_ | with_reducible refine (K1.out _).mono ?_); rintro e w5 ⟨rfl, J4⟩; have J4 := Lib.hid J4))
  all_goals go_wp2
  all_goals go_ret
  all_goals exact ⟨rfl, J4.out⟩
end
section
variable {w : World} {B ad aj : Nat} {many : Int} {vp vr : Value} {P : List Int} {R : List Rc}
set_option maxRecDepth 100000 in
theorem recordJ_none (h : JrG w B ad aj many vp vr P R) (hf : Fits P R) {n : Int} (hn : n = jNext P R) :
    Calls Tryz.prog 77 #[.pointer (some ⟨aj, 0, none⟩), .int .i64 n] w fun e w' => e = .returned (.tuple #[.slice none 0 0, .iface 41 (.int .i64 4)]) ∧ Below w.heap.size w w' := by
  have c3 := h.c3
  obtain ⟨A, cap, rfl, _, hA⟩ := ps_shape h.rk
  have C := Lib.hid (firstJ h)
  have hff := hf.first
  have hrl := hf.rl
  have hs : n - jFirst P = (R.length : Int) := by unfold jNext at hn; omega
  have hge : ¬ n < jFirst P := by omega
  have hle : n ≤ 4611686018427487904 := by omega
  have h0 : 0 ≤ n := by omega
  generalize R.length = N at *
  generalize jFirst P = f at *
  have hb : decide ((N : Int) ≤ (N : Int)) = true := decide_eq_true (by omega)
  clear h hA hf hn
  go_enter Tryz.func77, Tryz.ntmps77
  go_wp2_with fail
  refine C.out.mono ?_
  rintro e w1 ⟨rfl, rfl⟩
  clear C
  go_wp2
  go_ret2
  exact ⟨rfl, by first | exact Below.refl _ _ | exact below_drewN _ _⟩
end
end Go.Proofs.YtgeahpfdaehjaaaGreatDoor
namespace Go.Proofs.YtgeahpfdaehjaaaGreatDoor
open Go.ChangeShapes Go.WideShapes Go.ChangeAt Go.RowKit
set_option linter.unusedVariables false

/-- The journal over its disk, both as the parts say. -/
abbrev Jg (W : Fr) (w : World) (ad aj rm : Nat) (many : Int) (G : List Sg) : Prop := Jn W w ad aj rm false (pts' G) many (ns G) (recs G)
structure GOk (rm : Nat) (many : Int) (G : List Sg) : Prop where
  clean : CleanG G
  inv : Inv rm (pts' G)
  len : G.length ≤ 900
  nx : nxG G ≤ 9000
  m : 1 ≤ many ∧ many ≤ 100
section
variable {W : Fr} {w : World} {ad aj rm : Nat} {many : Int} {G : List Sg} {r : Rc}
theorem GOk.fits (h : GOk rm many G) : Fits (ns G) (recs G) := clean_fits h.clean (by have := h.len; omega)
theorem GOk.plen (h : GOk rm many G) : (pts' G).length ≤ 1000 := by unfold pts'; rw [List.length_map]; have := h.len; omega
theorem jNext_nx (G : List Sg) : jNext (ns G) (recs G) = nxG G := rfl
theorem appendG_ok (h : Jg W w ad aj rm many G) (ok : GOk rm many G) {A : Option Addr} {cap : Nat} (hr : RdS w A cap r) (hg : GoodR r) (hroom : (encR r).length ≤ rm - used (pts' G)) :
    Calls Tryz.prog 27 #[.pointer (some ⟨aj, 0, none⟩), .slice A r.length cap] w fun e w' => e = .returned .nilIface ∧ Jg W w' ad aj rm many (appG many G r) := by
  have hm := ok.m
  rcases app_ok (r := r) ok.clean hm.1 ok.inv hroom with ⟨hf, ha, hn⟩ | ⟨hf, ha, hn⟩
  · refine (appendJ_full h (by omega) hr hf (jNext_nx G) ok.fits ok.inv ok.plen hg (clean_sync ok.clean ok.inv) ha).mono ?_
    rintro e w' ⟨rfl, j⟩
    exact ⟨rfl, by unfold Jg; rw [hn, recs_appG]; exact j⟩
  · refine (appendJ_in h (by omega) hr hf ok.fits ok.inv ok.plen hg ha).mono ?_
    rintro e w' ⟨rfl, j⟩
    exact ⟨rfl, by unfold Jg; rw [hn, recs_appG]; exact j⟩
theorem appendG_no (h : Jg W w ad aj rm many G) (ok : GOk rm many G) {A : Option Addr} {cap : Nat} (hr : RdS w A cap r) (hg : GoodR r) (hroom : ¬ (encR r).length ≤ rm - used (pts' G)) :
    Calls Tryz.prog 27 #[.pointer (some ⟨aj, 0, none⟩), .slice A r.length cap] w fun e w' => e = .returned (.iface 41 (.int .i64 6)) ∧ Jg W w' ad aj rm many G := by
  have hm := ok.m
  obtain ⟨h1, h2⟩ := app_no (many := many) ok.clean ok.inv hroom
  cases hf : jFull many (ns G) (recs G) with
  | true => exact appendJ_fullno h (by omega) hr hf (jNext_nx G) ok.fits ok.inv ok.plen hg (clean_sync ok.clean ok.inv) h1
  | false => exact appendJ_inno h (by omega) hr hf ok.fits ok.inv ok.plen hg (h2 hf)
theorem syncG (h : Jg W w ad aj rm many (appG many G r)) (ok : GOk rm many G) (hroom : (encR r).length ≤ rm - used (pts' G)) :
    Calls Tryz.prog 28 #[.pointer (some ⟨aj, 0, none⟩)] w fun e w' => e = .returned .nilIface ∧ Jg W w' ad aj rm many (putG many G r) := by
  have hi := app_inv (many := many) ok.clean ok.m.1 ok.inv hroom (by have := ok.nx; omega)
  have hs := app_sync (many := many) (r := r) ok.clean hi
  have hfit : Fits (ns (appG many G r)) (recs (appG many G r)) := by
    have h1 : GoodR r ∨ ¬ GoodR r := Classical.em _
    refine ⟨fun n hn => ?_, ?_, ?_⟩
    · unfold ns at hn
      obtain ⟨g, hg, rfl⟩ := List.mem_map.1 hn
      have h2 := hi.lo g.pt (List.mem_map.2 ⟨g, hg, rfl⟩)
      have h3 : g.n ≤ 9000 := by
        have h4 := ok.fits.lo
        have h5 : g.n ∈ ns (appG many G r) := List.mem_map.2 ⟨g, hg, rfl⟩
        have h6 : ∀ n ∈ ns G, n ≤ 9000 := fun n hn => by
          obtain ⟨f, hf, rfl⟩ := List.mem_map.1 hn
          obtain ⟨X, Y, e⟩ := List.append_of_mem hf
          have h7 := (chain_bd ok.clean.chain e).2
          have h8 := ok.nx
          rw [nxG_eq] at h8
          omega
        rcases app_ok (r := r) ok.clean ok.m.1 ok.inv hroom with ⟨_, _, e⟩ | ⟨_, _, e⟩
        · rw [e] at h5
          rcases List.mem_append.1 h5 with h | h
          · exact h6 _ h
          · rw [List.mem_singleton] at h; rw [h]; exact ok.nx
        · rw [e] at h5; exact h6 _ h5
      exact ⟨h2, by omega⟩
    · have := len_put (many := many) (G := G) (r := r)
      have h2 := len_appG (many := many) (G := G) (r := r)
      unfold ns
      rw [List.length_map]
      have := ok.len
      omega
    · rw [recs_appG, List.length_append, List.length_singleton]
      have := ok.clean.count.1
      omega
  have hl : (pts' (appG many G r)).length ≤ 1000 := by
    have := hfit.pl
    unfold ns at this
    unfold pts'
    rw [List.length_map] at *
    exact this
  refine (syncJ_ok h hs hfit hi hl).mono ?_
  rintro e w' ⟨rfl, j⟩
  exact ⟨rfl, by unfold Jg; rw [← ns_appG, recs_put, ← recs_appG (many := many)]; exact j⟩
theorem GOk.put (ok : GOk rm many G) (hg : GoodR r) (hroom : (encR r).length ≤ rm - used (pts' G)) (h1 : G.length < 900) (h2 : nxG G < 9000) : GOk rm many (putG many G r) where
  clean := clean_put ok.clean hg (by omega)
  inv := put_inv ok.clean ok.m.1 ok.inv hroom (by omega)
  len := by have := len_put (many := many) (G := G) (r := r); omega
  nx := by rw [nx_put]; omega
  m := ok.m
theorem trimG_ok (h : Jg W w ad aj rm many G) (ok : GOk rm many G) (n : Int) :
    Calls Tryz.prog 90 #[.pointer (some ⟨aj, 0, none⟩), .int .i64 n] w fun e w' => e = .returned .nilIface ∧ Jg W w' ad aj rm many (trimG G n) :=
  trimJ h ok.clean ok.inv (by have := ok.len; omega)
theorem GOk.trim (ok : GOk rm many G) {n : Int} (hn : fsG G ≤ n) : GOk rm many (trimG G n) := by
  obtain ⟨a, b, c, d, e⟩ := trim_clean G n ok.clean hn
  exact ⟨a, trim_inv G n ok.inv, Nat.le_trans (trim_le G n) ok.len, by rw [c]; exact ok.nx, ok.m⟩
/-- Opened on a disk where nothing is torn and all is synced. -/
theorem openG {W : Fr} {dn : Bool} (h : OwnZ W w (fun _ => False) ad rm dn (pts' G)) (ok : GOk rm many G) :
    Calls Tryz.prog 20 #[.pointer (some ⟨ad, 0, none⟩), .int .i64 many] w fun e w' => ∃ aj, e = .returned (.tuple #[.pointer (some ⟨aj, 0, none⟩), .nilIface]) ∧ Jg W w' ad aj rm many G := by
  refine (openJ h ok.inv (ok.clean.segs (by have := ok.len; omega)) ok.m).mono ?_
  rintro e w' ⟨aj, rfl, j⟩
  rw [ok.clean.cuts] at j
  exact ⟨aj, rfl, j⟩
end
end Go.Proofs.YtgeahpfdaehjaaaGreatDoor
