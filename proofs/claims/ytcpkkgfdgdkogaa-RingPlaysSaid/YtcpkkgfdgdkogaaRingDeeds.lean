/-
  Layer 10: what the law RingPlays is handed, and the row that it keeps of its own.
-/
import Derived.Test.YtcpkkgfdgdkogaaRingUp
namespace Go.Proofs.Ytcpkkgfdgdkogaa
open Go.ChangeShapes Go.WideShapes Go.ChangeAt Go.RowKit Go.Deep
set_option linter.unusedVariables false

/-- Deeds that were handed in. -/
def RdD (w : World) (A : Option Addr) (l : List (Int × Int)) : Prop := l = [] ∨ ∃ b o, A = some ⟨b, o, none⟩ ∧ ∀ i x y, l[i]? = some (x, y) → w.cell? ⟨b, o + i * 2, none⟩ = some (.int .i64 x) ∧ w.cell? ⟨b, o + i * 2 + 1, none⟩ = some (.int .i64 y)
theorem RdD.at {w : World} {A : Option Addr} {l : List (Int × Int)} (h : RdD w A l) {i : Nat} {x y : Int} (hi : l[i]? = some (x, y)) :
    ∃ b o, A = some ⟨b, o, none⟩ ∧ ∀ w', Below w.heap.size w w' → w'.cell? ⟨b, o + i * 2, none⟩ = some (.int .i64 x) ∧ w'.cell? ⟨b, o + i * 2 + 1, none⟩ = some (.int .i64 y) := by
  rcases h with rfl | ⟨b, o, e, hc⟩
  · simp at hi
  · refine ⟨b, o, e, fun w' hb => ?_⟩
    obtain ⟨h1, h2⟩ := hc i x y hi
    have hl := World.block_lt_of_cell? w _ h1
    exact ⟨by rw [hb.cell (p := ⟨b, o + i * 2, none⟩) hl]; exact h1, by rw [hb.cell (p := ⟨b, o + i * 2 + 1, none⟩) hl]; exact h2⟩
def Wide2 (l : List (Int × Int)) : Prop := ∀ x y, (x, y) ∈ l → -9223372036854775808 ≤ x ∧ x ≤ 9223372036854775807 ∧ -9223372036854775808 ≤ y ∧ y ≤ 9223372036854775807
theorem off_add (b o i : Nat) : (⟨b, o, none⟩ : Addr).add i = ⟨b, o + i, none⟩ := by
  unfold Addr.add
  split
  · subst_vars; rfl
  · rfl
theorem cells_num : Try.prog.cellsOf 3 = 1 := by kernel_rfl
theorem cells_deed : Try.prog.cellsOf 33 = 2 := by kernel_rfl
set_option maxRecDepth 100000 in
theorem open_pairs {H : Type} {enc : TypeId × Value → H} {W : World} {v : Value} {x : DataW H} {ps : List MemPlace} {r : Reach} {b0 : Nat}
    (hval : Value.okWide Try.prog W r b0 22 v) (hd : DataW.Trod enc Try.prog W 0 (fun _ => true) true 22 v x ps) :
    ∃ (A : Option Addr) (c : Nat) (l : List (Int × Int)), v = .slice A l.length c ∧ RdD W A l ∧ l.length ≤ maxLen ∧ Wide2 l := by
  obtain ⟨A, len, cap, rfl⟩ := okWide_slice Try.underlying22 hval
  obtain ⟨fuel, h⟩ := hd
  rcases open_slice_pairs Try.underlying22 Try.underlying33 cells_deed rfl rfl cells_num cells_num h with ⟨hcs, _⟩ | ⟨a, len', cap', m, k, V0, V1, D0, D1, P0, P1, hcs, _, hl, hm, hmm, _, hc⟩
  · simp [Value.cells] at hcs
    obtain ⟨rfl, rfl, rfl⟩ := hcs
    exact ⟨none, 0, [], rfl, .inl rfl, by simp, fun x y h => by simp at h⟩
  · simp [Value.cells] at hcs
    obtain ⟨rfl, rfl, rfl⟩ := hcs
    simp only [if_true] at hmm
    subst hmm
    have hs : ∀ i, i < len → ∃ q : Int × Int, W.cell? (a.add (i * 2)) = some (.int .i64 q.1) ∧ W.cell? (a.add (i * 2 + 1)) = some (.int .i64 q.2) ∧ -9223372036854775808 ≤ q.1 ∧ q.1 ≤ 9223372036854775807 ∧ -9223372036854775808 ≤ q.2 ∧ q.2 ≤ 9223372036854775807 := by
      intro i hi
      obtain ⟨p0, p1, t0, t1⟩ := hc i (by omega)
      obtain ⟨x, e0, _, w0⟩ := DataW.trod_int Try.underlying3 t0
      obtain ⟨y, e1, _, w1⟩ := DataW.trod_int Try.underlying3 t1
      simp at e0 e1
      have c0 := bounds_i64 w0
      have c1 := bounds_i64 w1
      exact ⟨(x, y), by rw [p0, e0], by rw [p1, e1], c0.1, c0.2, c1.1, c1.2⟩
    obtain ⟨f, hf⟩ : ∃ f : Nat → Int × Int, ∀ i, i < len → W.cell? (a.add (i * 2)) = some (.int .i64 (f i).1) ∧ W.cell? (a.add (i * 2 + 1)) = some (.int .i64 (f i).2) ∧ -9223372036854775808 ≤ (f i).1 ∧ (f i).1 ≤ 9223372036854775807 ∧ -9223372036854775808 ≤ (f i).2 ∧ (f i).2 ≤ 9223372036854775807 :=
      ⟨fun i => if h : i < len then Classical.choose (hs i h) else (0, 0), fun i hi => by simp only [dif_pos hi]; exact Classical.choose_spec (hs i hi)⟩
    have hlen : ((List.range len).map f).length = len := by simp
    refine ⟨some a, m, (List.range len).map f, by rw [hlen], ?_, by omega, ?_⟩
    · by_cases h0 : len = 0
      · subst h0; exact .inl rfl
      · obtain ⟨b, o, spot⟩ := a
        have hsp : spot = none := by
          have := World.cell?_spot (hf 0 (by omega)).1
          simpa [Addr.add] using this
        subst hsp
        refine .inr ⟨b, o, rfl, fun i x y hi => ?_⟩
        rw [List.getElem?_map] at hi
        by_cases hil : i < len
        · rw [List.getElem?_range hil] at hi
          simp at hi
          obtain ⟨q0, q1, _⟩ := hf i hil
          rw [off_add] at q0 q1
          rw [hi] at q0 q1
          exact ⟨q0, by rw [Nat.add_assoc]; exact q1⟩
        · rw [List.getElem?_eq_none (by simp; omega)] at hi
          cases hi
    · intro x y h
      obtain ⟨i, hi, e⟩ := List.mem_map.1 h
      have := hf i (by simpa using hi)
      rw [e] at this
      exact this.2.2

/-- A row of numbers that can be read, outside of F. -/
structure RdQ (w : World) (F : Nat → Prop) (A : Option Addr) (cap : Nat) (q : List Int) : Prop where
  le : q.length ≤ cap
  nn : A = none → cap = 0
  rd : ∀ ad, A = some ad → ∃ b o, ad = ⟨b, o, none⟩ ∧ ∀ j x, q[j]? = some x → w.cell? ⟨b, o + j, none⟩ = some (.int .i64 x) ∧ ¬ F b
section
variable {w w' : World} {F F' : Nat → Prop} {A : Option Addr} {cap : Nat} {q : List Int} {x : Int}
theorem RdQ.nil (w : World) (F : Nat → Prop) : RdQ w F none 0 [] := ⟨by simp, fun _ => rfl, fun ad h => by cases h⟩
theorem RdQ.turn (h : RdQ w F A cap q) (m : Mv8 w F w' F') : RdQ w' F' A cap q :=
  ⟨h.le, h.nn, fun ad ha => by
    obtain ⟨b, o, e, hc⟩ := h.rd ad ha
    refine ⟨b, o, e, fun j x hx => ?_⟩
    obtain ⟨h1, h2⟩ := hc j x hx
    refine ⟨m.keeps.cell h1 h2, fun hb => ?_⟩
    rcases m.own b hb with e | e
    · exact h2 e
    · have := World.block_lt_of_cell? w _ h1
      simp only at this
      omega⟩
theorem RdQ.still (h : RdQ w F A cap q) (b : Below w.heap.size w w') : RdQ w' F A cap q := h.turn (Mv8.still b)
theorem RdQ.drewN (h : RdQ w F A cap q) (n : Nat) : RdQ (w.drewN n) F A cap q := h.still (below_drewN w n)
theorem RdQ.head (h : RdQ w F A cap (x :: q)) : ∃ b o, A = some ⟨b, o, none⟩ ∧ w.cell? ⟨b, o, none⟩ = some (.int .i64 x) := by
  cases A with
  | none => have := h.nn rfl; have := h.le; simp at this; omega
  | some ad =>
    obtain ⟨b, o, rfl, hc⟩ := h.rd ad rfl
    exact ⟨b, o, rfl, (hc 0 x rfl).1⟩
theorem under_ints : Try.prog.underlying 30 = some (.slice (Try.prog.elem 30)) := by kernel_rfl
theorem size_int (w : World) : (sizeOf (Try.prog.elem 30)).run Try.prog w = .ok 1 w := by
  obtain ⟨i, hi, _, hz1, _⟩ := info_parts infoI
  rw [show Try.prog.elem 30 = 3 by kernel_rfl]
  simp [sizeOf, typeInfo, hi, hz1, Result.andThen]
/-- 'want[1:]'. -/
theorem RdQ.tail (h : RdQ w F A cap (x :: q)) : ∃ A' cap', (∀ w, (Instr.slice 30 (.slice A (q.length + 1) cap) (some (.int .i64 1)) none none).run Try.prog w = .ok (.slice A' q.length cap') w) ∧ RdQ w F A' cap' q := by
  have hle := h.le
  simp only [List.length_cons] at hle
  obtain ⟨b, o, rfl, _⟩ := h.head
  obtain ⟨b', o', e, hc⟩ := h.rd _ rfl
  cases e
  refine ⟨if cap = 1 then some ⟨b, o, none⟩ else some ⟨b, o + 1, none⟩, cap - 1, fun w => ?_, by omega, fun e => ?_, fun ad ha => ?_⟩
  · rw [run_slice_l w 30 _ _ cap under_ints .i64 1 (by omega) (by omega), size_int]
    simp [Result.andThen, sliced, off_add]
  · split at e <;> cases e
  · split at ha
    · cases ha
      refine ⟨b, o, rfl, fun j y hy => ?_⟩
      have := (List.getElem?_eq_some_iff.1 hy).1
      omega
    · cases ha
      refine ⟨b, o + 1, rfl, fun j y hy => ?_⟩
      have := hc (j + 1) y (by simpa using hy)
      rw [Nat.add_assoc, Nat.add_comm 1 j]
      exact this
end
section
variable {F : Nat → Prop} {A : Option Addr} {cap : Nat} {q : List Int}
theorem one_encI (q : List Int) : ∀ u ∈ q.map encI, u.oneCell' = true := by
  intro u hu
  obtain ⟨x, _, rfl⟩ := List.mem_map.1 hu
  rfl
theorem owns_rdq {w : World} {base : Nat} {v : Value} (h : w.ownsRow base 3 1 v q.length (q.map encI)) (hF : ∀ g, F g → g < base) : ∃ A cap, v = .slice A q.length cap ∧ RdQ w F A cap q := by
  rcases h.2 with ⟨rfl, hn⟩ | ⟨g, cap, cur, rfl, hb, hc, hle, _⟩
  · obtain rfl := List.length_eq_zero_iff.1 hn
    exact ⟨none, 0, rfl, RdQ.nil w F⟩
  · refine ⟨some ⟨g, 0, none⟩, cap, rfl, hle, (fun e => by cases e), fun ad ha => ?_⟩
    cases ha
    refine ⟨g, 0, rfl, fun j x hx => ⟨?_, fun hf => by have := hF g hf; omega⟩⟩
    have := World.ownsRow.cells h (g := g) rfl j (encI x) (by rw [List.getElem?_map, hx]; rfl)
    rw [Addr.add_lit] at this
    exact this
/-- 'append([]int{}, want...)'. -/
theorem grow1 {wa : World} {base g : Nat} (own : wa.ownsRow base 3 1 (.slice (some ⟨g, 0, none⟩) 0 0) 0 []) (h : RdQ wa F A cap q) (hl : q.length ≤ 1000) (hb : base ≤ wa.heap.size) :
    ∃ A1 c1 w1, (Builtin.append_ #[30, 30] 30 #[.slice (some ⟨g, 0, none⟩) 0 0, .slice A q.length cap]).run Try.prog wa = .ok (.slice A1 q.length c1) w1 ∧
      w1.ownsRow base 3 1 (.slice A1 q.length c1) q.length (q.map encI) ∧ wa.grownBy w1 (some g) := by
  obtain ⟨v', w', hrun, hown, hgr, _⟩ := row_grow (ty := 30) (w := wa) Try.underlying30 infoI rfl own (A := A) (m := q.length) (cap := cap) (news := q.map encI) (by simp)
    (fun e => by have h1 := h.nn e; have h2 := h.le; have : q = [] := List.length_eq_zero_iff.1 (by omega); subst this; exact ⟨h1, rfl⟩)
    (fun ad ha j u hu => by
      obtain ⟨b, o, rfl, hc⟩ := h.rd ad ha
      rw [List.getElem?_map] at hu
      cases e : q[j]? with
      | none => rw [e] at hu; cases hu
      | some x =>
        rw [e] at hu
        cases hu
        rw [off_add]
        exact (hc j x e).1) (one_encI q) (by omega) (by omega) hb
  rw [Nat.zero_add] at hown
  rw [List.nil_append] at hown
  obtain ⟨A1, c1, rfl, _⟩ := owns_view hown
  exact ⟨A1, c1, w', hrun, hown, hgr⟩
/-- 'append(.., n)'. -/
theorem grow2 {wb : World} {base go c1 : Nat} {A1 : Option Addr} (own : wb.ownsRow base 3 1 (.slice A1 q.length c1) q.length (q.map encI)) (x : Int) (hx : wb.cell? ⟨go, 0, none⟩ = some (.int .i64 x)) (hl : q.length ≤ 1000) (hb : base ≤ wb.heap.size) (hF : ∀ g, F g → g < base) :
    ∃ A2 c2 w2, (Builtin.append_ #[30, 30] 30 #[.slice A1 q.length c1, .slice (some ⟨go, 0, none⟩) 1 1]).run Try.prog wb = .ok (.slice A2 (q.length + 1) c2) w2 ∧
      RdQ w2 F A2 c2 (q ++ [x]) ∧ wb.grownBy w2 (Value.slice A1 q.length c1).ownBlock := by
  obtain ⟨v', w', hrun, hown, hgr, _⟩ := row_grow (ty := 30) (w := wb) Try.underlying30 infoI rfl own (A := some ⟨go, 0, none⟩) (m := 1) (cap := 1) (news := [encI x]) rfl (fun e => by cases e)
    (fun ad ha j u hu => by
      cases ha
      match j, hu with
      | 0, hu => cases hu; rw [off_add]; exact hx) (fun u hu => by simp only [List.mem_singleton] at hu; subst hu; rfl) (by omega) (by omega) hb
  have e1 : q.map encI ++ [encI x] = (q ++ [x]).map encI := by simp
  have e2 : q.length + 1 = (q ++ [x]).length := by simp
  rw [e1, e2] at hown
  obtain ⟨A2, c2, rfl, hr⟩ := owns_rdq hown hF
  rw [← e2] at hrun
  exact ⟨A2, c2, w', hrun, hr, hgr⟩
/-- Which of the two blocks is laid first, and when: three ways. -/
structure Grown (w w1 w2 wa wb : World) (F : Nat → Prop) (A A1 A2 : Option Addr) (cap c1 c2 ge go : Nat) (q : List Int) (x : Int) : Prop where
  r1 : (Builtin.append_ #[30, 30] 30 #[.slice (some ⟨ge, 0, none⟩) 0 0, .slice A q.length cap]).run Try.prog wa = .ok (.slice A1 q.length c1) w1
  b1 : Below w.heap.size w w1
  r2 : (Builtin.append_ #[30, 30] 30 #[.slice A1 q.length c1, .slice (some ⟨go, 0, none⟩) 1 1]).run Try.prog wb = .ok (.slice A2 (q.length + 1) c2) w2
  b2 : Below w.heap.size w w2
  q2 : RdQ w2 F A2 c2 (q ++ [x])
section
variable {w : World}
theorem cell_new (w : World) (x : Int) : (w.alloc (.cells #[.int .i64 x] 3)).cell? ⟨w.heap.size, 0, none⟩ = some (.int .i64 x) := by rw [cell_of_block (heap_alloc_new w _)]; rfl
theorem size_new (w : World) (o : Obj) : (w.alloc o).heap.size = w.heap.size + 1 := by simp
theorem growA (h : RdQ w F A cap q) (hl : q.length ≤ 1000) (x : Int) (hF : ∀ g, F g → g < w.heap.size) :
    ∃ A1 c1 w1 A2 c2 w2, Grown w w1 w2 (w.alloc (.cells #[] 3)) (w1.alloc (.cells #[.int .i64 x] 3)) F A A1 A2 cap c1 c2 w.heap.size w1.heap.size q x := by
  have b0 : Below w.heap.size w (w.alloc (.cells #[] 3)) := (Below.refl _ _).alloc (Nat.le_refl _) _
  obtain ⟨A1, c1, w1, r1, o1, g1⟩ := grow1 (g := w.heap.size) (World.ownsRow_made w #[] 0 (Nat.le_refl _) (by simp) (by simp)) (h.still b0) hl b0.size
  have b1 : Below w.heap.size w w1 := b0.grown g1 b0.size (fun k hk => by cases hk; exact Nat.le_refl _)
  have b1' : Below w.heap.size w (w1.alloc (.cells #[.int .i64 x] 3)) := b1.alloc b1.size _
  obtain ⟨A2, c2, w2, r2, q2, g2⟩ := grow2 (F := F) (go := w1.heap.size) (World.ownsRow.alloc o1 _) x (cell_new w1 x) hl b1'.size hF
  exact ⟨A1, c1, w1, A2, c2, w2, r1, b1, r2, b1'.grown g2 b1'.size (fun k hk => (World.ownsRow.lt o1 k hk).1), q2⟩
theorem growB (h : RdQ w F A cap q) (hl : q.length ≤ 1000) (x : Int) (hF : ∀ g, F g → g < w.heap.size) :
    ∃ A1 c1 w1 A2 c2 w2, Grown w w1 w2 ((w.alloc (.cells #[] 3)).alloc (.cells #[.int .i64 x] 3)) w1 F A A1 A2 cap c1 c2 w.heap.size (w.heap.size + 1) q x := by
  have b0 : Below w.heap.size w (w.alloc (.cells #[] 3)) := (Below.refl _ _).alloc (Nat.le_refl _) _
  have b0' : Below w.heap.size w ((w.alloc (.cells #[] 3)).alloc (.cells #[.int .i64 x] 3)) := b0.alloc b0.size _
  obtain ⟨A1, c1, w1, r1, o1, g1⟩ := grow1 (g := w.heap.size) (World.ownsRow.alloc (World.ownsRow_made w #[] 0 (Nat.le_refl _) (by simp) (by simp)) (.cells #[.int .i64 x] 3)) (h.still b0') hl b0'.size
  have b1 : Below w.heap.size w w1 := b0'.grown g1 b0'.size (fun k hk => by cases hk; exact Nat.le_refl _)
  have hx : w1.cell? ⟨w.heap.size + 1, 0, none⟩ = some (.int .i64 x) := by
    have h0 := cell_new (w.alloc (.cells #[] 3)) x
    rw [size_new] at h0
    rw [World.cell?_of_block (w := (w.alloc (.cells #[] 3)).alloc (.cells #[.int .i64 x] 3)) (g1.block _ (by rw [size_new, size_new]; simp) (by simp))]
    exact h0
  obtain ⟨A2, c2, w2, r2, q2, g2⟩ := grow2 (F := F) (go := w.heap.size + 1) o1 x hx hl b1.size hF
  exact ⟨A1, c1, w1, A2, c2, w2, r1, b1, r2, b1.grown g2 b1.size (fun k hk => (World.ownsRow.lt o1 k hk).1), q2⟩
theorem growC (h : RdQ w F A cap q) (hl : q.length ≤ 1000) (x : Int) (hF : ∀ g, F g → g < w.heap.size) :
    ∃ A1 c1 w1 A2 c2 w2, Grown w w1 w2 ((w.alloc (.cells #[.int .i64 x] 3)).alloc (.cells #[] 3)) w1 F A A1 A2 cap c1 c2 (w.heap.size + 1) w.heap.size q x := by
  have b0 : Below w.heap.size w (w.alloc (.cells #[.int .i64 x] 3)) := (Below.refl _ _).alloc (Nat.le_refl _) _
  have b0' : Below w.heap.size w ((w.alloc (.cells #[.int .i64 x] 3)).alloc (.cells #[] 3)) := b0.alloc b0.size _
  have own := World.ownsRow_made (base := w.heap.size) (e := 3) (size := 1) (w.alloc (.cells #[.int .i64 x] 3)) #[] 0 b0.size (by simp) (by simp)
  rw [size_new] at own
  obtain ⟨A1, c1, w1, r1, o1, g1⟩ := grow1 own (h.still b0') hl b0'.size
  have b1 : Below w.heap.size w w1 := b0'.grown g1 b0'.size (fun k hk => by cases hk; omega)
  have hx : w1.cell? ⟨w.heap.size, 0, none⟩ = some (.int .i64 x) := by
    rw [World.cell?_of_block (w := (w.alloc (.cells #[.int .i64 x] 3)).alloc (.cells #[] 3)) (g1.block _ (by rw [size_new, size_new]; simp; omega) (by simp)), World.cell?_of_block (w := w.alloc (.cells #[.int .i64 x] 3)) (heap_alloc_old _ _ (by rw [size_new]; simp))]
    exact cell_new w x
  obtain ⟨A2, c2, w2, r2, q2, g2⟩ := grow2 (F := F) (go := w.heap.size) o1 x hx hl b1.size hF
  exact ⟨A1, c1, w1, A2, c2, w2, r1, b1, r2, b1.grown g2 b1.size (fun k hk => (World.ownsRow.lt o1 k hk).1), q2⟩
end
end
end Go.Proofs.Ytcpkkgfdgdkogaa
