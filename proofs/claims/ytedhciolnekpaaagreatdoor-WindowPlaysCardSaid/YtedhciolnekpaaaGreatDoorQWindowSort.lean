/-
  Layer 20 (window): a window's rows, taken out of their map in whatever order, sorted.
-/
import Derived.Test.YtedhciolnekpaaaGreatDoorQWindowCmp
import Derived.Test.YtedhciolnekpaaaGreatDoorGrpB
import Derived.Laws.MakeOwn
namespace Go.Proofs.YtedhciolnekpaaaGreatDoor
open Go.ChangeShapes Go.WideShapes Go.ChangeAt Go.RowKit Go.Sort Go.Shelf
set_option linter.unusedVariables false

theorem encW_len (x : RbW) : (encW x).length = 8 := rfl
theorem rowCell_flat (xs : List RbW) (j : Nat) (hj : j < xs.length * 8) : (rowCells xs)[j]? = some (flatK encW 8 xs.toArray)[j]! := by
  rw [get_flatK encW 8 xs.toArray j (by simpa using hj)]
  have hi : j / 8 < xs.length := by omega
  obtain ⟨x, h⟩ : ∃ x, xs[j / 8]? = some x := ⟨_, List.getElem?_eq_getElem hi⟩
  have hxy := (List.getElem?_eq_some_iff.1 h).2
  have e : xs.toArray[j / 8]! = x := by rw [getElem!_pos xs.toArray (j / 8) (by simpa using hi)]; simpa using hxy
  rw [e]
  have h0 := rowCells_at xs (j / 8) x h (j % 8) (by omega)
  rw [show j / 8 * 8 + j % 8 = j by omega] at h0
  rw [h0]
  have hl : j % 8 < (encW x).length := by rw [encW_len]; omega
  show (encW x)[j % 8]? = _
  rw [List.getElem?_eq_getElem hl, getElem!_pos (encW x) (j % 8) hl]
theorem holdsW {w : World} {base g cap : Nat} {xs : List RbW} (h : OwK w base 55 8 (some ⟨g, 0, none⟩) cap xs.length (rowCells xs)) : HoldsK encW 8 w g 0 xs.toArray ∧ g < w.heap.size := by
  rcases h.2 with ⟨hv, _⟩ | ⟨g', cap', cur, hv, _, hg, _, _, hcs, htake⟩
  · cases hv
  · cases hv
    refine ⟨fun j hj => ?_, lt_of_block hg⟩
    rw [size_flatK] at hj
    have hj' : j < xs.length * 8 := by simpa using hj
    rw [Nat.zero_add]
    refine ⟨?_, frozen_of_block hg⟩
    show w.cell? ⟨g, j, none⟩ = some (flatK encW 8 xs.toArray)[j]!
    rw [cell_of_block hg, ← rowCell_flat xs j hj', ← htake, List.getElem?_take, if_pos hj']
    simp
theorem holds_cells {w : World} {g : Nat} {xs : List RbW} (h : HoldsK encW 8 w g 0 xs.toArray) : ∀ j u, (rowCells xs)[j]? = some u → w.cell? ⟨g, j, none⟩ = some u := fun j u hu => by
  have hj : j < (rowCells xs).length := (List.getElem?_eq_some_iff.1 hu).1
  rw [rowCells_length] at hj
  have h1 := (h j (by rw [size_flatK]; simpa using hj)).1
  rw [Nat.zero_add] at h1
  have h2 := rowCell_flat xs j hj
  rw [hu] at h2
  rw [h2]
  exact h1
theorem grownW (w : World) (g n : Nat) (d : Array RbW) (os : Array Obj) : w.grownBy (sortWorldK encW 8 w g 0 n d os) (some g) := by
  refine ⟨rfl, rfl, rfl, ?_, fun k hk hr => ?_⟩
  · exact size_sortWorldK_c encW 8 w g 0 n d os
  · unfold sortWorldK
    rw [heap_grow_old _ _ (by rw [show (putRowK encW 8 (Go.Sort.ahead w n) g 0 d).heap.size = w.heap.size from size_putRow id _ g 0 _]; exact hk)]
    show ((w.heap.modify g _)[k]? : Option Obj) = _
    rw [Array.getElem?_modify, if_neg (fun e => hr (by rw [e]))]
/-- What the sort makes of a row of rows. -/
def SortedPost (w : World) (g : Nat) (xs : List RbW) (e : Ending) (w' : World) : Prop :=
  e = .returned (.tuple #[]) ∧ ∃ ys : List RbW, ys.Perm xs ∧ (ys.Pairwise fun a b => ltR b a = false) ∧ (∀ j u, (rowCells ys)[j]? = some u → w'.cell? ⟨g, j, none⟩ = some u) ∧ w.grownBy w' (some g)
theorem sortW_walk (w : World) (base g cap : Nat) (xs : List RbW) (h : OwK w base 55 8 (some ⟨g, 0, none⟩) cap xs.length (rowCells xs)) (hl : xs.length ≤ 1000) :
    Calls Tryz.prog 33 #[.slice (some ⟨g, 0, none⟩) xs.length cap, .func (.func 34) #[] #[]] w (SortedPost w g xs) := by
  obtain ⟨hH, hb⟩ := holdsW h
  have C := AnyQ.slices_SortFunc Tryz.sortRows 8 Tryz.isAgg55 Tryz.sizeOf55 encW encW_len (fun x v hv => rowCells_one [x] v (by rw [show rowCells [x] = encW x by simp [rowCells, encW]]; exact hv)) cmpW (by rw [ltOf_W]; exact swo_W) 34 #[] g 0 cap xs.toArray w enterW (cmpLaysW g 0 _ w) hH hb (by simp; omega)
  have hs : (xs.toArray).size = xs.length := by simp
  rw [hs, ltOf_W] at C
  refine C.mono fun e w' ⟨he, d', n, os, ⟨hsz, _, hp⟩, hso, hw⟩ => ⟨he, d'.toList, ?_, ?_, ?_, ?_⟩
  · have e1 : d'.extract 0 xs.length = d' := by
      have := Array.extract_size (xs := d')
      rwa [hsz, hs] at this
    have e2 : xs.toArray.extract 0 xs.length = xs.toArray := by simp
    rw [e1, e2] at hp
    simpa using hp
  · rw [List.pairwise_iff_getElem]
    intro i j hi hj hij
    have hi' : i < d'.size := by simpa using hi
    have hj' : j < d'.size := by simpa using hj
    have := hso i j (Nat.zero_le _) hij (by rw [hsz, hs] at hj'; exact hj')
    rw [getElem!_pos d' i hi', getElem!_pos d' j hj'] at this
    simpa using this
  · have hH' := holdsK_sortWorldK_c encW 8 w g 0 xs.toArray d' n os hH hb hsz
    rw [← hw] at hH'
    exact holds_cells (by simpa using hH')
  · rw [hw]; exact grownW w g n _ os
theorem sorted_eq {ys : List RbW} {rows : List Rw} (hp : (ys.map (·.1)).Perm rows) (hu : RowsUp rows) (hs : ys.Pairwise fun a b => ltR b a = false) : ys.map (·.1) = rows := by
  refine rowsUp_ext ?_ hu (fun r => hp.mem_iff)
  have hn : (ys.map (·.1)).Nodup := hp.nodup_iff.2 (rows_nodup hu)
  have hn' : ys.Pairwise (fun a b => a.1 ≠ b.1) := List.pairwise_map.1 hn
  refine List.pairwise_map.2 (List.Pairwise.imp_of_mem (fun {a b} ha hb h => ?_) (hs.and hn'))
  rcases ltW_tri (nmR a.1) (nmR b.1) with k | k | k
  · exact k
  · exact absurd (rows_inj hu (hp.mem_iff.1 (List.mem_map.2 ⟨a, ha, rfl⟩)) (hp.mem_iff.1 (List.mem_map.2 ⟨b, hb, rfl⟩)) k) h.2
  · have := h.1
    unfold ltR at this
    rw [k] at this
    cases this
/-- Rows that can be read, their buckets in blocks of numbers. -/
structure RdW (w : World) (N : Nat) (D : Option Addr) (ys : List RbW) : Prop where
  ex : ∃ g, D = some ⟨g, 0, none⟩ ∧ N ≤ g ∧ ∀ j u, (rowCells ys)[j]? = some u → w.cell? ⟨g, j, none⟩ = some u
  bks : ∀ y ∈ ys, OwnN w 0 y.2.1 y.2.2 y.1.bks
theorem RdW.below {w w' : World} {N : Nat} {D : Option Addr} {ys : List RbW} (h : RdW w N D ys) (b : Below w.heap.size w w') : RdW w' N D ys := by
  obtain ⟨g, e, hg, hc⟩ := h.ex
  exact ⟨⟨g, e, hg, fun j u hu => by rw [b.cell (World.block_lt_of_cell? w _ (hc j u hu))]; exact hc j u hu⟩, fun y hy => owns_below (h.bks y hy) b⟩
theorem RdW.rdr {w : World} {N : Nat} {D : Option Addr} {ys : List RbW} (h : RdW w N D ys) : RdR w D (ys.map (·.1)) := by
  obtain ⟨g, e, hg, hc⟩ := h.ex
  refine .inr ⟨g, 0, e, fun i r hi => ?_⟩
  rw [List.getElem?_map] at hi
  cases hy : ys[i]? with
  | none => rw [hy] at hi; cases hi
  | some y =>
    rw [hy] at hi
    cases hi
    have hk : ∀ j, j < 8 → (rowCells ys)[i * 8 + j]? = (rowOf y.1 y.2.1 y.2.2)[j]? := rowCells_at ys i y hy
    rw [Nat.zero_add]
    exact ⟨y.2.1, y.2.2, ⟨hc _ _ (hk 0 (by omega)), hc _ _ (hk 1 (by omega)), hc _ _ (hk 2 (by omega)), hc _ _ (hk 3 (by omega)), hc _ _ (hk 4 (by omega)), hc _ _ (hk 5 (by omega)), hc _ _ (hk 6 (by omega)), hc _ _ (hk 7 (by omega)), (h.bks y (List.mem_of_getElem? hy)).rd⟩⟩
theorem RgI.iter {w : World} {b r cnt : Nat} {rows done : List Rw} (h : RgI w b r rows done cnt) : ∃ a b c d, w.heap[r]? = some (.mapIter a b c d) := by
  obtain ⟨n, D, left, ⟨es, clock, since, seen, c0, _, _, _, _, hr', _⟩, _⟩ := h.ex
  exact ⟨_, _, _, _, hr'⟩
theorem own_iter {w w' : World} {r : Nat} {base : Nat} {e : TypeId} {sz : Nat} {v : Value} {n : Nat} {l : List Value} (h : w.ownsRow base e sz v n l) (hi : ∃ a b c d, w.heap[r]? = some (.mapIter a b c d)) (k : w.grownBy w' (some r)) : w'.ownsRow base e sz v n l :=
  owns_keeps h (Keeps.of_grown k (F := fun g => g = r) (fun g e => by cases e; rfl)) (fun g hg e => by
    subst e
    obtain ⟨c, f, hc⟩ := owns_block h g hg
    obtain ⟨_, _, _, _, hi⟩ := hi
    rw [hc] at hi
    cases hi)
theorem make_rows (w : World) (n : Nat) (hn : n ≤ 1000) : ∃ w', (Instr.makeSlice 38 (.int .i64 0) (.int .i64 (n : Int))).run Tryz.prog w = .ok (.slice (some ⟨w.heap.size, 0, none⟩) 0 n) w' ∧ OwK w' w.heap.size 55 8 (some ⟨w.heap.size, 0, none⟩) n 0 [] ∧ Below w.heap.size w w' := by
  obtain ⟨i, z, bs, hi, hz, hz1, hz2, hz3, hbs⟩ := elR.inf
  obtain ⟨w', hrun, hown, hgr⟩ := run_make_own (P := Tryz.prog) (w := w) w.heap.size 38 55 i z 8 elR.und hi hz hz1 .i64 .i64 n (by rw [hz2]; have := Nat.mul_le_mul hbs hn; omega) (by unfold maxLen; omega) (Nat.le_refl _)
  exact ⟨w', hrun, hown, none_below hgr⟩
set_option maxHeartbeats 4000000 in
set_option maxRecDepth 100000 in
theorem sorted_walk {w : World} {b : Nat} {rows : List Rw} (h : Inn w b rows) (hu : RowsUp rows) (h0 : 0 < rows.length) (hl : rows.length ≤ 500) :
    Calls Tryz.prog 25 #[.map (some b)] w fun e w' => ∃ (D : Option Addr) (d : Nat) (ys : List RbW), e = .returned (.slice D ys.length d) ∧ ys.map (·.1) = rows ∧ RdW w' w.heap.size D ys ∧ Below w.heap.size w w' := by
  have ln := h.len 3
  obtain ⟨w1, r1, o1, b1⟩ := make_rows w rows.length (by omega)
  obtain ⟨w2, r2, g2, b2, s2⟩ := (h.below b1).range
  have HU := Lib.hid hu
  have H0 := Lib.hid h0
  have HL := Lib.hid hl
  have HG := Lib.hid g2
  have HO := Lib.hid (OwK.below o1 b2)
  have HB := Lib.hid (b1.trans (b2.mono b1.size))
  have HR : Hid (w.heap.size ≤ w1.heap.size) := Lib.hid b1.size
  obtain ⟨R, hR⟩ : ∃ R, w1.heap.size = R := ⟨_, rfl⟩
  rw [hR] at r2 HG HR
  clear h hu h0 hl o1 b1 g2 b2 s2 hR
  go_enter Tryz.func25, Tryz.ntmps25
  go_wp2_with fail
  go_loopw [3] (fun s3 wx => ∃ (done : List Rw) (cnt : Nat) (ds : List RbW) (D : Option Addr) (d : Nat), s3 = .slice D ds.length d ∧ Hid (RgI wx b R rows done cnt) ∧ Hid (ds.map (·.1) = done) ∧ Hid (OwK wx w.heap.size 55 8 D d ds.length (rowCells ds)) ∧ Hid (∀ y ∈ ds, OwnN wx 0 y.2.1 y.2.2 y.1.bks) ∧ Hid (Below w.heap.size w wx) ∧ Hid (done.length + cnt ≤ rows.length)) (fun _ wx => wx.rangeLeft b R)
  case atStart => exact ⟨[], _, [], _, _, rfl, HG, Lib.hid rfl, HO, Lib.hid (fun y hy => by simp at hy), HB, Lib.hid (by simp)⟩
  case round =>
    obtain ⟨done, cnt, ds, D, d, rfl, HG1, HD1, HO1, HN1, HB1, HC1⟩ := hrel
    have hdl : ds.length = done.length := by rw [← HD1.out, List.length_map]
    have hLL := HL.out
    have hCC := HC1.out
    cases HG1.out.next HU.out with
    | done hp hrun =>
      have hd0 : 0 < ds.length := by rw [hdl, hp.length_eq]; exact H0.out
      have hd1 : ds.length ≤ 1000 := by omega
      obtain ⟨g, rfl, hg, hc⟩ := OwK.at HO1.out hd0
      have CS := Lib.hid (sortW_walk wr w.heap.size g d ds HO1.out hd1)
      unfold SortedPost at CS
      have HP : Hid ((ds.map (·.1)).Perm rows) := Lib.hid (by rw [HD1.out]; exact hp)
      have HGG := Lib.hid hg
      clear hp hdl hLL hCC hd0 hd1 hc hg
      go_wp2_with fail
      refine CS.out.mono ?_
      rintro e w3 ⟨rfl, ys, hys, hso, hcl, hgr⟩
      have HY : Hid (ys.map (·.1) = rows) := Lib.hid (sorted_eq ((hys.map _).trans HP.out) HU.out hso)
      have HLN : Hid (ds.length = ys.length) := Lib.hid hys.length_eq.symm
      have HRD : Hid (RdW w3 w.heap.size (some ⟨g, 0, none⟩) ys) := Lib.hid ⟨⟨g, rfl, HGG.out, hcl⟩, fun y hy => by
        have ho := HN1.out y (hys.mem_iff.1 hy)
        exact owns_kept ho hgr (fun q hq => by
          cases hq
          obtain ⟨c, f, hc⟩ := owns_block HO1.out g rfl
          exact .inr ⟨c, f, _, hc, by decide⟩)⟩
      have HBB : Hid (Below w.heap.size w w3) := Lib.hid (HB1.out.grown hgr HB1.out.size (fun j hj => by cases hj; exact HGG.out))
      rw [HLN.out]
      clear hys hso hcl hgr CS
      go_wp2_with fail
      go_ret
      exact ⟨_, _, ys, rfl, HY.out, HRD.out, HBB.out⟩
    | more x B c w3 cnt1 hs hn ho hrun hg hc hw hz he =>
      have hdn : ds.length + 1 ≤ 999 := by omega
      have b3 : Below w.heap.size w w3 := HB1.out.grown hw HB1.out.size (fun j hj => by cases hj; exact HR.out)
      have o3 : OwK w3 w.heap.size 55 8 D d ds.length (rowCells ds) := own_iter HO1.out HG1.out.iter hw
      have n3 : ∀ y ∈ ds, OwnN w3 0 y.2.1 y.2.2 y.1.bks := fun y hy => own_iter (HN1.out y hy) HG1.out.iter hw
      have bX : Below w3.heap.size w3 (w3.alloc (rowObj x B c)) := (Below.refl _ w3).alloc (Nat.le_refl _) _
      have sX : (w3.alloc (rowObj x B c)).heap.size = w3.heap.size + 1 := World.size_alloc _ _
      obtain ⟨X, hX⟩ : ∃ X, w3.alloc (rowObj x B c) = X := ⟨_, rfl⟩
      rw [hX] at bX sX
      have oX := OwK.below o3 bX
      obtain ⟨D2, d2, w6, r6, o6, b6, g6⟩ := oneK elR oX (es := rowOf x B c) rfl (fun u hu => rowCells_one [(x, B, c)] u (by rw [show rowCells [(x, B, c)] = rowOf x B c by simp [rowCells]]; exact hu)) (ob := rowObj x B c) rfl (by omega) (by have := b3.size; have := bX.size; omega)
      have bXX : Below X.heap.size X (X.alloc (rowObj x B c)) := (Below.refl _ _).alloc (Nat.le_refl _) _
      have oXX := OwK.below oX bXX
      have HG6 : Hid (RgI w6 b R rows (done ++ [x]) cnt1) := Lib.hid (((hg.below bX).below bXX).grown g6 (fun g e => owns_block oXX g e))
      have HN6 : Hid (∀ y ∈ ds ++ [(x, B, c)], OwnN w6 0 y.2.1 y.2.2 y.1.bks) := Lib.hid (fun y hy => by
        have hy3 : OwnN w3 0 y.2.1 y.2.2 y.1.bks := by
          rcases List.mem_append.1 hy with hy | hy
          · exact n3 y hy
          · rw [List.mem_singleton] at hy; subst hy; exact ho
        exact ownN_kept (owns_below (owns_below hy3 bX) bXX) oXX g6)
      have HD6 : Hid ((ds ++ [(x, B, c)]).map (·.1) = done ++ [x]) := Lib.hid (by rw [List.map_append, HD1.out]; rfl)
      have HO6 : Hid (OwK w6 w.heap.size 55 8 D2 d2 (ds ++ [(x, B, c)]).length (rowCells (ds ++ [(x, B, c)]))) := Lib.hid (by
        rw [rowCells_app, show rowCells [(x, B, c)] = rowOf x B c by simp [rowCells], List.length_append]
        exact o6)
      have HB6 : Hid (Below w.heap.size w w6) := Lib.hid ((b3.trans (bX.mono b3.size)).trans b6)
      have HC6 : Hid ((done ++ [x]).length + cnt1 ≤ rows.length) := Lib.hid (by rw [List.length_append, List.length_singleton]; omega)
      have HL1 := Lib.hid HG1.out.left
      have HL2 := Lib.hid HG6.out.left
      have HCC := Lib.hid hc
      have HSZ : Hid ((ds ++ [(x, B, c)]).length = ds.length + 1) := Lib.hid (by rw [List.length_append]; rfl)
      rw [sX, ← hX] at r6
      unfold rowObj at r6
      have R6 := Lib.hid r6
      clear hs hn ho hg hc hw hz hdl hLL hCC hdn b3 o3 n3 bX hX sX oX r6 o6 b6 g6 bXX oXX HN1 HO1 HD1 HC1
      unfold nmV rowVal at hrun he
      go_wp2_with (first
        | (at_builtin; refine wpK_app rfl (.tmp 15) (.tmp 17) 38 rfl _ _ _ rfl rfl R6.out ?_)
        | fail)
      go_roundw
      case rel => exact ⟨done ++ [x], cnt1, ds ++ [(x, B, c)], D2, d2, by rw [HSZ.out], HG6, HD6, HO6, HN6, HB6, HC6⟩
      case measure => rw [HL1.out, HL2.out]; exact HCC.out
end Go.Proofs.YtedhciolnekpaaaGreatDoor
