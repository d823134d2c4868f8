/-
  Layer 20 (window): when the document's windows begin.
-/
import Derived.Test.YtedhciolnekpaaaGreatDoorGrpA
import Derived.BigQuiet
import Derived.Deep.LoopGhost
import Derived.Deep.Cut
import Derived.Deep.CutRange
namespace Go.Proofs.YtedhciolnekpaaaGreatDoor
open Go.ChangeShapes Go.WideShapes Go.ChangeAt Go.RowKit
set_option linter.unusedVariables false

def StartsTold (w : World) (l : List PtW) (e : Ending) (w' : World) : Prop :=
  ∃ D d, e = .returned (.slice D (startsW l).length d) ∧ OwK w' w.heap.size 2 1 D d (startsW l).length (zCells (startsW l)) ∧ Below w.heap.size w w'
/-- Where it stands. -/
structure Ss (base : Nat) (w : World) (b : Nat) (t : Tb) (A : Option Addr) (c : Nat) (l : List PtW) (i : Nat) (acc : List Int) (D : Option Addr) (d : Nat) (wx : World) : Prop where
  tr : Tr base wx b t A c l
  own : OwK wx w.heap.size 2 1 D d acc.length (zCells acc)
  eq : acc = startsW (l.take i)
  bel : Below w.heap.size w wx
theorem Ss.on {base : Nat} {w : World} {b : Nat} {t : Tb} {A : Option Addr} {c : Nat} {l : List PtW} {i : Nat} {acc : List Int} {D : Option Addr} {d : Nat} {wx wy : World} (h : Ss base w b t A c l i acc D d wx) (hb : Below wx.heap.size wx wy) : Ss base w b t A c l i acc D d wy :=
  ⟨h.tr.still hb, h.own.below hb, h.eq, h.bel.trans (hb.mono h.bel.size)⟩
theorem Ss.drewN {base : Nat} {w : World} {b : Nat} {t : Tb} {A : Option Addr} {c : Nat} {l : List PtW} {i : Nat} {acc : List Int} {D : Option Addr} {d : Nat} {wx : World} (h : Ss base w b t A c l i acc D d wx) (n : Nat) : Ss base w b t A c l i acc D d (wx.drewN n) := h.on (below_drewN wx n)
theorem take_next {l : List PtW} {i : Nat} {p : PtW} (h : l[i]? = some p) : l.take (i + 1) = l.take i ++ [p] := by rw [List.take_add_one, h]; rfl
/-- A number laid in a row between its first ones and its others, as the document's text does it. -/
theorem ins_row {X : World} {base : Nat} {D : Option Addr} {d : Nat} {acc : List Int} {a : Nat} (h : OwK X base 2 1 D d acc.length (zCells acc)) (ha : a ≤ acc.length) (hl : acc.length ≤ 900) (s : Int) :
    ∃ D1 d1 w2 D2 d2 w3 A3 n3 c3 D3 d3 w4,
      (∀ w', (Instr.slice 48 (.slice D acc.length d) none (some (.int .i64 (a : Int))) none).run Tryz.prog w' = .ok (.slice D a d) w') ∧
      (Builtin.append_ #[48, 48] 48 #[.slice (some ⟨X.heap.size, 0, none⟩) 0 0, .slice D a d]).run Tryz.prog (X.alloc (.cells #[] 2)) = .ok (.slice D1 a d1) w2 ∧
      (Builtin.append_ #[48, 48] 48 #[.slice D1 a d1, .slice (some ⟨w2.heap.size, 0, none⟩) 1 1]).run Tryz.prog (w2.alloc (.cells #[.int .i64 s] 2)) = .ok (.slice D2 (a + 1) d2) w3 ∧
      (∀ w', (Instr.slice 48 (.slice D acc.length d) (some (.int .i64 (a : Int))) none none).run Tryz.prog w' = .ok (.slice A3 n3 c3) w') ∧
      (Builtin.append_ #[48, 48] 48 #[.slice D2 (a + 1) d2, .slice A3 n3 c3]).run Tryz.prog w3 = .ok (.slice D3 (acc.length + 1) d3) w4 ∧
      Below X.heap.size X w2 ∧ Below X.heap.size X w4 ∧ OwK w4 X.heap.size 2 1 D3 d3 (acc.length + 1) (zCells (acc.take a ++ [s] ++ acc.drop a)) := by
  have rc := h.rd
  have hle := rc.le
  obtain ⟨D1, d1, w2, r1, o1, b1⟩ := preK elZ rc (zCells_one acc) ha (by omega)
  obtain ⟨D2, d2, w3, r2, o2, b2, _⟩ := oneK elZ o1 (es := [.int .i64 s]) rfl (fun u hu => by obtain rfl := List.mem_singleton.1 hu; rfl) rfl (by omega) b1.size
  obtain ⟨A3, sl3, rd3⟩ := fromK elZ D d acc.length a (zCells acc) ha hle
  have b12 := b1.trans b2
  have r3' := rd3 w3 (rc.below b12)
  obtain ⟨D3, d3, w4, r3, o3, b3, _⟩ := appK elZ o2 r3' (fun u hu => zCells_one acc u (List.mem_of_mem_drop hu)) (by omega) b12.size
  rw [show a + 1 + (acc.length - a) = acc.length + 1 by omega] at r3 o3
  refine ⟨D1, d1, w2, D2, d2, w3, A3, acc.length - a, d - a, D3, d3, w4, fun w' => toK elZ D acc.length d a (by omega) w', r1, r2, sl3, r3, b1, b12.trans b3, ?_⟩
  have e : zCells (acc.take a ++ [s] ++ acc.drop a) = (zCells acc).take (a * 1) ++ [.int .i64 s] ++ (zCells acc).drop (a * 1) := by
    unfold zCells
    rw [Nat.mul_one, List.map_append, List.map_append, List.map_take, List.map_drop]
    rfl
  rw [e]
  exact o3
set_option maxHeartbeats 4000000 in
set_option maxRecDepth 100000 in
theorem ref_starts (base : Nat) (w : World) (b : Nat) (t : Tb) (A : Option Addr) (c : Nat) (l : List PtW) (h : Tr base w b t A c l) (hl : l.length ≤ 100) :
    Calls Tryz.prog 18 #[.pointer (some ⟨b, 0, none⟩)] w (StartsTold w l) := by
  have H0 := Lib.hid h
  have HL := Lib.hid hl
  clear h hl
  go_enter Tryz.func18, Tryz.ntmps18
  go_wp2_with fail
  go_loopg [3, 4] (l.length) (fun g s3 s4 wx => ∃ (i : Nat) (acc : List Int) (D : Option Addr) (d : Nat), i + g = l.length ∧ acc.length ≤ i ∧ s3 = .slice D acc.length d ∧ s4 = .int .i64 i ∧ Hid (Ss base w b t A c l i acc D d wx))
  case atStart => exact ⟨0, [], none, 0, by omega, by simp, rfl, rfl, Lib.hid ⟨H0.out, OwK.nil _ _ _ _, rfl, Below.refl _ _⟩⟩
  case round =>
    clear H0
    obtain ⟨i, acc, D, d, hig, hac, rfl, rfl, HG⟩ := hrel
    have c4 := HG.out.tr.c4
    cases gk with
    | zero =>
      have x1 : ¬ i < l.length := by omega
      have HE : Hid (acc = startsW l) := Lib.hid (by rw [HG.out.eq, List.take_of_length_le (by omega)])
      go_wp2_with fail
      go_ret
      exact ⟨D, d, by rw [← HE.out]; rfl, by rw [← HE.out]; exact HG.out.own, HG.out.bel⟩
    | succ g =>
      have hlt : i < l.length := by omega
      obtain ⟨p, hp⟩ : ∃ p, l[i]? = some p := ⟨_, List.getElem?_eq_getElem hlt⟩
      obtain ⟨ga, rfl, hga, p0, _, _, _⟩ := HG.out.tr.at hp
      obtain ⟨s, hs⟩ : ∃ s, p.start = s := ⟨_, rfl⟩
      rw [hs] at p0
      have HN : Hid (startsW (l.take (i + 1)) = insW s acc) := Lib.hid (by rw [take_next hp, starts_next, ← HG.out.eq, hs])
      have HP0 : Hid (∀ wx, Below wr.heap.size wr wx → wx.cell? ⟨ga, i * 4, none⟩ = some (.int .i64 s)) := Lib.hid (fun wx hb => by rw [hb.cell (World.block_lt_of_cell? wr _ p0)]; exact p0)
      have hin := atZ_le s acc
      obtain ⟨m, hm⟩ : ∃ m, m = atZ s acc := ⟨_, rfl⟩
      have HM := Lib.hid hm
      rw [← hm] at hin
      have hll := HL.out
      clear hm hs hp hga
      obtain ⟨u1, rfl⟩ : ∃ u1, u1 = wr := ⟨_, rfl⟩
      go_wp2_with fail
      go_loopg [5] m (fun g2 s5 wx => ∃ (a q : Nat), a + g2 = m ∧ s5 = .int .i64 a ∧ Hid (wx = u1.drewN q))
      case atStart => exact ⟨0, 0, by omega, rfl, Lib.hid rfl⟩
      case round =>
        obtain ⟨a, q, hag, rfl, HW⟩ := hrel
        have hw := HW.out
        subst hw
        clear HW
        have GU := Lib.hid (HG.out.drewN q)
        have p0U : (u1.drewN q).cell? ⟨ga, i * 4, none⟩ = some (.int .i64 s) := p0
        have c4U : (u1.drewN q).cell? ⟨b, 4, none⟩ = some (.slice (some ⟨ga, 0, none⟩) l.length c) := c4
        cases gk with
        | zero =>
          obtain rfl : a = m := by omega
          clear p0 c4
          rcases Nat.lt_or_ge a acc.length with hzl | hge
          · obtain ⟨z, hz⟩ : ∃ z, acc[a]? = some z := ⟨_, List.getElem?_eq_getElem hzl⟩
            have x2 : decide (a < acc.length) = true := decide_eq_true hzl
            have hnl := atZ_at (s := s) (l := acc) (x := z) (by rw [← HM.out]; exact hz)
            have y1 := Lib.hid (decide_eq_false hnl)
            obtain ⟨gd, rfl, hgd, hcd⟩ := GU.out.own.at (by omega)
            have z0U := hcd a _ (zCells_at hz)
            have hza : a < acc.length := hzl
            by_cases hk : z = s
            · subst hk
              have HE : Hid (startsW (l.take (i + 1)) = acc) := Lib.hid (by rw [HN.out]; exact insW_old (by rw [← HM.out]; exact hz))
              clear hz hcd hnl HN HP0 HG
              generalize u1.drewN q = U at GU p0U c4U z0U ⊢
              go_wp2_with fail
              have y1' := y1.out
              go_quiet (fail)
              all_goals go_wp2_with fail
              have GV := Lib.hid (GU.out.drewN nq)
              have p0V : (U.drewN nq).cell? ⟨ga, i * 4, none⟩ = some (.int .i64 z) := p0U
              have c4V : (U.drewN nq).cell? ⟨b, 4, none⟩ = some (.slice (some ⟨ga, 0, none⟩) l.length c) := c4U
              have z0V : (U.drewN nq).cell? ⟨gd, a, none⟩ = some (.int .i64 z) := z0U
              clear p0U c4U z0U GU
              generalize U.drewN nq = V at GV p0V c4V z0V ⊢
              go_quiet (fail)
              all_goals go_wp2_with fail
              go_roundg g
              case rel => exact ⟨i + 1, acc, _, d, by omega, by omega, rfl, by go_num, Lib.hid ⟨(GV.out.drewN nq).tr, (GV.out.drewN nq).own, HE.out.symm, (GV.out.drewN nq).bel⟩⟩
              case measure => omega
            · have y2 := Lib.hid (decide_eq_false hk)
              have HE : Hid (startsW (l.take (i + 1)) = acc.take a ++ [s] ++ acc.drop a) := Lib.hid (by rw [HN.out, insW_new (by rw [← HM.out, hz]; exact fun e => hk (Option.some.inj e)), ← HM.out])
              clear hz hcd hnl HN HP0 HG
              generalize u1.drewN q = U at GU p0U c4U z0U ⊢
              go_wp2_with fail
              have y1' := y1.out
              go_quiet (fail)
              all_goals go_wp2_with fail
              have GV := Lib.hid (GU.out.drewN nq)
              have p0V : (U.drewN nq).cell? ⟨ga, i * 4, none⟩ = some (.int .i64 s) := p0U
              have c4V : (U.drewN nq).cell? ⟨b, 4, none⟩ = some (.slice (some ⟨ga, 0, none⟩) l.length c) := c4U
              have z0V : (U.drewN nq).cell? ⟨gd, a, none⟩ = some (.int .i64 z) := z0U
              clear p0U c4U z0U GU
              generalize U.drewN nq = V at GV p0V c4V z0V ⊢
              have y2' := y2.out
              go_quiet (fail)
              have GX := Lib.hid (GV.out.drewN nq)
              have p0X : (V.drewN nq).cell? ⟨ga, i * 4, none⟩ = some (.int .i64 s) := p0V
              have c4X : (V.drewN nq).cell? ⟨b, 4, none⟩ = some (.slice (some ⟨ga, 0, none⟩) l.length c) := c4V
              clear p0V c4V z0V GV
              generalize V.drewN nq = X at GX p0X c4X ⊢
              obtain ⟨D1, d1, w2, D2, d2, w3, A3, n3, c3, D3, d3, w4, sl1, r1, r2, sl3, r3, b2, b4, o4⟩ := ins_row (D := some ⟨gd, 0, none⟩) GX.out.own (show a ≤ acc.length by omega) (show acc.length ≤ 900 by omega) s
              have p0w : w2.cell? ⟨ga, i * 4, none⟩ = some (.int .i64 s) := by rw [b2.cell (World.block_lt_of_cell? X _ p0X)]; exact p0X
              have c4w : w2.cell? ⟨b, 4, none⟩ = some (.slice (some ⟨ga, 0, none⟩) l.length c) := by rw [b2.cell (World.block_lt_of_cell? X _ c4X)]; exact c4X
              obtain ⟨L4, hL4⟩ : ∃ L4, acc.take a ++ [s] ++ acc.drop a = L4 := ⟨_, rfl⟩
              have lL4 : L4.length = acc.length + 1 := by rw [← hL4]; simp; omega
              rw [hL4] at o4
              rw [hL4] at HE
              have HS4 : Hid (Ss base w b t (some ⟨ga, 0, none⟩) c l (i + 1) L4 D3 d3 w4) := Lib.hid ⟨(GX.out.on b4).tr, by rw [lL4]; exact o4.mono GX.out.bel.size, HE.out.symm, (GX.out.on b4).bel⟩
              have R1 := Lib.hid r1
              have R2 := Lib.hid r2
              have R3 := Lib.hid r3
              clear r1 r2 r3 b2 o4 b4 hL4 GX p0X c4X
              go_wp2_with (first
                | (at_builtin; refine wpK_app rfl (.tmp 56) (.tmp 59) 48 rfl _ _ _ rfl rfl R1.out ?_)
                | (at_builtin; refine wpK_app rfl (.tmp 61) (.tmp 70) 48 rfl _ _ _ rfl rfl R2.out ?_)
                | (at_builtin; refine wpK_app rfl (.tmp 72) (.tmp 75) 48 rfl _ _ _ rfl rfl R3.out ?_)
                | fail)
              go_roundg g
              case rel => exact ⟨i + 1, L4, D3, d3, by omega, by omega, by rw [lL4], by go_num, HS4⟩
              case measure => omega
          · have x2 : decide (a < acc.length) = false := decide_eq_false (by omega)
            have HE : Hid (startsW (l.take (i + 1)) = acc.take a ++ [s] ++ acc.drop a) := Lib.hid (by rw [HN.out, insW_new (by rw [← HM.out, List.getElem?_eq_none hge]; simp), ← HM.out])
            clear HN HP0 HG
            generalize u1.drewN q = U at GU p0U c4U ⊢
            go_wp2_with fail
            go_quiet (fail)
            all_goals go_wp2_with fail
            have GV := Lib.hid (GU.out.drewN nq)
            have p0V : (U.drewN nq).cell? ⟨ga, i * 4, none⟩ = some (.int .i64 s) := p0U
            have c4V : (U.drewN nq).cell? ⟨b, 4, none⟩ = some (.slice (some ⟨ga, 0, none⟩) l.length c) := c4U
            clear p0U c4U GU
            generalize U.drewN nq = V at GV p0V c4V ⊢
            go_quiet (fail)
            have GX := Lib.hid (GV.out.drewN nq)
            have p0X : (V.drewN nq).cell? ⟨ga, i * 4, none⟩ = some (.int .i64 s) := p0V
            have c4X : (V.drewN nq).cell? ⟨b, 4, none⟩ = some (.slice (some ⟨ga, 0, none⟩) l.length c) := c4V
            clear p0V c4V GV
            generalize V.drewN nq = X at GX p0X c4X ⊢
            obtain ⟨D1, d1, w2, D2, d2, w3, A3, n3, c3, D3, d3, w4, sl1, r1, r2, sl3, r3, b2, b4, o4⟩ := ins_row (D := D) GX.out.own (show a ≤ acc.length by omega) (show acc.length ≤ 900 by omega) s
            have p0w : w2.cell? ⟨ga, i * 4, none⟩ = some (.int .i64 s) := by rw [b2.cell (World.block_lt_of_cell? X _ p0X)]; exact p0X
            have c4w : w2.cell? ⟨b, 4, none⟩ = some (.slice (some ⟨ga, 0, none⟩) l.length c) := by rw [b2.cell (World.block_lt_of_cell? X _ c4X)]; exact c4X
            obtain ⟨L4, hL4⟩ : ∃ L4, acc.take a ++ [s] ++ acc.drop a = L4 := ⟨_, rfl⟩
            have lL4 : L4.length = acc.length + 1 := by rw [← hL4]; simp; omega
            rw [hL4] at o4
            rw [hL4] at HE
            have HS4 : Hid (Ss base w b t (some ⟨ga, 0, none⟩) c l (i + 1) L4 D3 d3 w4) := Lib.hid ⟨(GX.out.on b4).tr, by rw [lL4]; exact o4.mono GX.out.bel.size, HE.out.symm, (GX.out.on b4).bel⟩
            have R1 := Lib.hid r1
            have R2 := Lib.hid r2
            have R3 := Lib.hid r3
            clear r1 r2 r3 b2 o4 b4 hL4 GX p0X c4X
            go_wp2_with (first
              | (at_builtin; refine wpK_app rfl (.tmp 56) (.tmp 59) 48 rfl _ _ _ rfl rfl R1.out ?_)
              | (at_builtin; refine wpK_app rfl (.tmp 61) (.tmp 70) 48 rfl _ _ _ rfl rfl R2.out ?_)
              | (at_builtin; refine wpK_app rfl (.tmp 72) (.tmp 75) 48 rfl _ _ _ rfl rfl R3.out ?_)
              | fail)
            go_roundg g
            case rel => exact ⟨i + 1, L4, D3, d3, by omega, by omega, by rw [lL4], by go_num, HS4⟩
            case measure => omega
        | succ g2 =>
          have hla : a < acc.length := by omega
          have x2 : decide (a < acc.length) = true := decide_eq_true hla
          obtain ⟨z, hz⟩ : ∃ z, acc[a]? = some z := ⟨_, List.getElem?_eq_getElem hla⟩
          have hlt1 : z < s := atZ_lt (by rw [← HM.out]; omega) hz
          have y1 := Lib.hid (decide_eq_true hlt1)
          obtain ⟨gd, rfl, hgd, hcd⟩ := HG.out.own.at (by omega)
          have z0 := hcd a _ (zCells_at hz)
          clear hz hcd hlt1 p0U c4U GU
          go_wp2_with fail
          have y1' := y1.out
          go_quiet (fail)
          all_goals go_wp2_with fail
          go_roundg g2
          case rel => exact ⟨a + 1, _, by omega, by go_num, Lib.hid rfl⟩
          case measure => omega
end Go.Proofs.YtedhciolnekpaaaGreatDoor
