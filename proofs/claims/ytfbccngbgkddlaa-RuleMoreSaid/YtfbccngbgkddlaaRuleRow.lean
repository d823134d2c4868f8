/-
  Layer 14 (rule): rows of rules of one's own: a copy grown by one; which block is laid first.
-/
import Derived.Test.YtfbccngbgkddlaaRuleMem
import Derived.Test.YtfbccngbgkddlaaKeeps
import Derived.Test.YtfbccngbgkddlaaOwnB
import Derived.Maps.AppendAt
namespace Go.Proofs.Ytfbccngbgkddlaa
open Go.ChangeShapes Go.WideShapes Go.ChangeAt Go.RowKit
set_option linter.unusedVariables false

def ruOf (r : Ru) : List Value := [.string r.1, .int .i64 r.2]
def ruCells (L : List Ru) : List Value := L.flatMap ruOf
theorem ruCells_app (x y : List Ru) : ruCells (x ++ y) = ruCells x ++ ruCells y := by unfold ruCells; rw [List.flatMap_append]
theorem ruCells_cons (d : Ru) (y : List Ru) : ruCells (d :: y) = ruOf d ++ ruCells y := by unfold ruCells; rw [List.flatMap_cons]
theorem ruCells_length : ∀ L : List Ru, (ruCells L).length = L.length * 2
  | [] => rfl
  | d :: r => by
    have h2 : (ruOf d).length = 2 := rfl
    rw [ruCells_cons, List.length_append, ruCells_length r, List.length_cons, h2]; omega
theorem ruCells_at {L : List Ru} {i : Nat} {d : Ru} (h : L[i]? = some d) {j : Nat} (hj : j < 2) : (ruCells L)[i * 2 + j]? = (ruOf d)[j]? := by
  obtain ⟨hi, e⟩ := List.getElem?_eq_some_iff.1 h
  have e2 : L = L.take i ++ d :: L.drop (i + 1) := by
    have := (List.take_append_drop i L).symm
    rw [List.drop_eq_getElem_cons hi, e] at this
    exact this
  have hl : (L.take i).length = i := by rw [List.length_take]; omega
  have h2 : (ruOf d).length = 2 := rfl
  rw [e2, ruCells_app, ruCells_cons, List.getElem?_append_right (by rw [ruCells_length, hl]; omega), ruCells_length, hl, List.getElem?_append_left (by omega), Nat.add_sub_cancel_left]
theorem ruCells_of {L : List Ru} {j : Nat} {u : Value} (h : (ruCells L)[j]? = some u) : ∃ d, L[j / 2]? = some d ∧ (ruOf d)[j % 2]? = some u := by
  have hl := (List.getElem?_eq_some_iff.1 h).1
  rw [ruCells_length] at hl
  refine ⟨L[j / 2]'(by omega), List.getElem?_eq_getElem _, ?_⟩
  have e := ruCells_at (L := L) (i := j / 2) (d := L[j / 2]'(by omega)) (List.getElem?_eq_getElem _) (j := j % 2) (by omega)
  rw [show j / 2 * 2 + j % 2 = j by omega, h] at e
  exact e.symm
theorem ru_one (L : List Ru) : ∀ u ∈ ruCells L, u.oneCell' = true := fun u hu => by
  unfold ruCells at hu
  obtain ⟨d, _, h⟩ := List.mem_flatMap.1 hu
  simp only [ruOf, List.mem_cons, List.not_mem_nil, or_false] at h
  rcases h with rfl | rfl <;> rfl
/-- A row of rules, of one's own. -/
def OwnU (w : World) (base : Nat) (v : Value) (L : List Ru) : Prop := w.ownsRow base 24 2 v L.length (ruCells L)
theorem infoU : (Try.prog.info? 24).map (fun i => (i.zero, i.size, i.bytes)) = some (some (.agg #[.string ⟨#[]⟩, .int .i64 0]), 2, 24) := by kernel_rfl
theorem info_partsU : ∃ i, Try.prog.info? 24 = some i ∧ i.zero = some (.agg #[.string ⟨#[]⟩, .int .i64 0]) ∧ i.size = 2 ∧ i.bytes = 24 := by
  cases hi : Try.prog.info? 24 with
  | none => have := infoU; rw [hi] at this; cases this
  | some i =>
    have hI := infoU
    rw [hi] at hI
    simp only [Option.map_some, Option.some.injEq, Prod.mk.injEq] at hI
    exact ⟨i, rfl, hI⟩
section
variable {w w' : World} {base : Nat} {v v' : Value} {L M : List Ru} {g cap n : Nat} {cur : Array Value}
theorem OwnU.keeps {F : Nat → Prop} (h : OwnU w base v L) (k : Keeps F w w') (hF : ∀ g, v.ownBlock = some g → ¬ F g) : OwnU w' base v L := owns_keeps h k hF
theorem OwnU.still (h : OwnU w base v L) (b : Below w.heap.size w w') : OwnU w' base v L := h.keeps (Keeps.of_below b (Nat.le_refl _) (fun _ => False)) (fun _ _ e => e)
theorem OwnU.block (h : OwnU w base v L) {g : Nat} (hg : v.ownBlock = some g) : base ≤ g ∧ g < w.heap.size := by
  rcases h.2 with ⟨rfl, _⟩ | ⟨g', cap, cur, rfl, hb, hc, _⟩
  · cases hg
  · simp only [Value.ownBlock, Option.some.injEq] at hg
    subst hg
    exact ⟨hb, lt_of_block hc⟩
theorem OwnU.shape (h : OwnU w base v L) (hn : L.length = n) : ∃ A c, v = .slice A n c ∧ (A = none → c = 0 ∧ L = []) := by
  subst hn
  rcases h.2 with ⟨rfl, e⟩ | ⟨g', cap, cur, rfl, hb, hc, _⟩
  · rw [e]; exact ⟨none, 0, rfl, fun _ => ⟨rfl, List.length_eq_zero_iff.1 e⟩⟩
  · exact ⟨_, _, rfl, fun e => by cases e⟩
/-- What reads so, wherever it lies. -/
structure SrcU (w : World) (A : Option Addr) (cap : Nat) (L : List Ru) : Prop where
  nn : A = none → cap = 0 ∧ L = []
  rd : ∀ ad, A = some ad → ∀ (j : Nat) (u : Value), (ruCells L)[j]? = some u → w.cell? (ad.add j) = some u
theorem src_of {A : Option Addr} (h : RdRu w A L) (hn : A = none → cap = 0) : SrcU w A cap L := by
  refine ⟨fun e => ⟨hn e, ?_⟩, fun ad ha j u hu => ?_⟩
  · rcases h with h | ⟨b, o, e', _⟩
    · exact h
    · rw [e] at e'; cases e'
  · obtain ⟨d, hd, hj⟩ := ruCells_of hu
    rcases h with h | ⟨b, o, e', hc⟩
    · subst h; simp at hd
    · rw [ha] at e'; cases e'
      obtain ⟨h0, h1⟩ := hc (j / 2) d.1 d.2 hd
      rw [Addr.add_lit]
      have : j % 2 < 2 := Nat.mod_lt _ (by omega)
      rcases (show j % 2 = 0 ∨ j % 2 = 1 by omega) with e | e
      · rw [e] at hj
        cases hj
        rw [show o + j = o + j / 2 * 2 by omega]; exact h0
      · rw [e] at hj
        cases hj
        rw [show o + j = o + j / 2 * 2 + 1 by omega]; exact h1
theorem OwnU.rd {A : Option Addr} (h : OwnU w base (.slice A L.length cap) L) : RdRu w A L := by
  rcases h.2 with ⟨e, e1⟩ | ⟨g', cap', cur, e, hb, hc, _⟩
  · exact .inl (List.length_eq_zero_iff.1 e1)
  · cases e
    refine .inr ⟨g', 0, rfl, fun i p c hi => ?_⟩
    have hlt := (List.getElem?_eq_some_iff.1 hi).1
    have k0 := World.ownsRow.cellAt h (i * 2) (by omega)
    have k1 := World.ownsRow.cellAt h (i * 2 + 1) (by omega)
    rw [Nat.zero_add]
    exact ⟨k0.trans (ruCells_at hi (j := 0) (by omega)), k1.trans (ruCells_at hi (j := 1) (by omega))⟩
/-- 'append(l, m...)': a row of one's own. -/
theorem ownU_app {A : Option Addr} (h : OwnU w base v L) (hs : SrcU w A cap M) (hl : L.length + M.length ≤ 10000) (hb : base ≤ w.heap.size) :
    ∃ v' w', (Builtin.append_ #[22, 22] 22 #[v, .slice A M.length cap]).run Try.prog w = .ok v' w' ∧ OwnU w' base v' (L ++ M) ∧ w.grownBy w' v.ownBlock := by
  obtain ⟨i, hi, hz0, hz1, hz2⟩ := info_partsU
  cases A with
  | none =>
    obtain ⟨rfl, rfl⟩ := hs.nn rfl
    exact ⟨v, w, run_append_owned_none (P := Try.prog) (w := w) base 22 22 24 i 2 Try.underlying22 hi _ _ _ h, by simpa using h, grown_refl _ _⟩
  | some ad =>
    obtain ⟨v', w', hrun, hown, hgr, _, hat⟩ := run_append_own_at (P := Try.prog) w base 22 22 24 i (.agg #[.string ⟨#[]⟩, .int .i64 0]) 2 24 Try.underlying22 hi hz0 hz1 hz2 rfl (by omega) _ _ _ h ad M.length cap (ruCells M) (ruCells_length M)
      (fun j u hu => hs.rd ad rfl j u hu) (ru_one M) (by unfold maxLen; omega) (by omega) hb
    refine ⟨v', w', hrun, ?_, hgr⟩
    unfold OwnU
    rw [ruCells_app, List.length_append]
    exact hown
end
def oneR (x : Ru) : Obj := .cells #[.string x.1, .int .i64 x.2] 24
def noR : Obj := .cells #[] 24
theorem one_rd {w : World} {g : Nat} {x : Ru} (h : w.heap[g]? = some (oneR x)) : SrcU w (some ⟨g, 0, none⟩) 1 [x] :=
  ⟨fun e => (by cases e), fun ad ha j u hu => by
    cases ha
    rw [Addr.add_lit, Nat.zero_add, cell_of_block h]
    simpa [ruCells, ruOf] using hu⟩
theorem own_noR (w : World) {base : Nat} (hb : base ≤ w.heap.size) : OwnU (w.alloc noR) base (.slice (some ⟨w.heap.size, 0, none⟩) 0 0) [] := World.ownsRow_made w #[] 0 hb (by simp) (by simp)
theorem bel_newR (w : World) (o : Obj) : Below w.heap.size w (w.alloc o) := (Below.refl _ _).alloc (Nat.le_refl _) o
theorem bel_allocR {B : Nat} {w w' : World} (h : Below B w w') (hB : B ≤ w'.heap.size) (o : Obj) : Below B w (w'.alloc o) := h.alloc hB o
theorem size_newR (w : World) (o : Obj) : (w.alloc o).heap.size = w.heap.size + 1 := by simp
/-- 'append(append([]Rule{}, l...), x)': which of the two blocks is laid first, and when. -/
structure GrU (w w1 w2 wa wb : World) (A A1 A2 : Option Addr) (cap c1 c2 ge go n : Nat) (l : List Ru) (x : Ru) : Prop where
  r1 : (Builtin.append_ #[22, 22] 22 #[.slice (some ⟨ge, 0, none⟩) 0 0, .slice A n cap]).run Try.prog wa = .ok (.slice A1 n c1) w1
  b1 : Below w.heap.size w w1
  r2 : (Builtin.append_ #[22, 22] 22 #[.slice A1 n c1, .slice (some ⟨go, 0, none⟩) 1 1]).run Try.prog wb = .ok (.slice A2 (n + 1) c2) w2
  b2 : Below w.heap.size w w2
  rd : RdRu w2 A2 (l ++ [x])
section
variable {w : World} {A : Option Addr} {n cap : Nat} {l : List Ru}
theorem SrcU.still {w' : World} (h : SrcU w A cap l) (b : Below w.heap.size w w') : SrcU w' A cap l := by
  refine ⟨h.nn, fun ad ha j u hu => ?_⟩
  have h0 := h.rd ad ha j u hu
  rw [b.cell (p := ad.add j) (World.block_lt_of_cell? w _ h0)]; exact h0
theorem gru_two {wb : World} {go : Nat} {A1 : Option Addr} {c1 : Nat} {x : Ru} (hw : Below w.heap.size w wb) (o1 : OwnU wb w.heap.size (.slice A1 n c1) l) (hn : l.length = n) (hl : n < 1000) (hx : wb.heap[go]? = some (oneR x)) :
    ∃ A2 c2 w2, (Builtin.append_ #[22, 22] 22 #[.slice A1 n c1, .slice (some ⟨go, 0, none⟩) 1 1]).run Try.prog wb = .ok (.slice A2 (n + 1) c2) w2 ∧ Below w.heap.size w w2 ∧ RdRu w2 A2 (l ++ [x]) := by
  obtain ⟨v2, w2, r2, o2, g2⟩ := ownU_app o1 (one_rd hx) (by simp; omega) hw.size
  have hn2 : (l ++ [x]).length = n + 1 := by simp [hn]
  obtain ⟨A2, c2, rfl, _⟩ := o2.shape hn2
  refine ⟨A2, c2, w2, r2, hw.grown g2 hw.size (fun k hk => (o1.block hk).1), ?_⟩
  rw [← hn2] at o2
  exact o2.rd
theorem gru_one {wa : World} {ge : Nat} (hw : Below w.heap.size w wa) (o0 : OwnU wa w.heap.size (.slice (some ⟨ge, 0, none⟩) 0 0) []) (hs : SrcU w A cap l) (hn : l.length = n) (hl : n < 1000) :
    ∃ A1 c1 w1, (Builtin.append_ #[22, 22] 22 #[.slice (some ⟨ge, 0, none⟩) 0 0, .slice A n cap]).run Try.prog wa = .ok (.slice A1 n c1) w1 ∧ Below w.heap.size w w1 ∧ OwnU w1 w.heap.size (.slice A1 n c1) l ∧ wa.grownBy w1 (some ge) := by
  subst hn
  obtain ⟨v1, w1, r1, o1, g1⟩ := ownU_app o0 (hs.still hw) (by simp; omega) hw.size
  rw [List.nil_append] at o1
  obtain ⟨A1, c1, rfl, _⟩ := o1.shape rfl
  exact ⟨A1, c1, w1, r1, hw.grown g1 hw.size (fun k hk => (o0.block hk).1), o1, g1⟩
theorem gruA (h : SrcU w A cap l) (hn : l.length = n) (hl : n < 1000) (x : Ru) :
    ∃ A1 c1 w1 A2 c2 w2, GrU w w1 w2 (w.alloc noR) (w1.alloc (oneR x)) A A1 A2 cap c1 c2 w.heap.size w1.heap.size n l x := by
  obtain ⟨A1, c1, w1, r1, b1, o1, g1⟩ := gru_one (bel_newR w noR) (own_noR w (Nat.le_refl _)) h hn hl
  obtain ⟨A2, c2, w2, r2, b2, o2⟩ := gru_two (bel_allocR b1 b1.size (oneR x)) (o1.still (bel_newR w1 (oneR x))) hn hl (heap_alloc_new w1 (oneR x))
  exact ⟨A1, c1, w1, A2, c2, w2, r1, b1, r2, b2, o2⟩
theorem gruB (h : SrcU w A cap l) (hn : l.length = n) (hl : n < 1000) (x : Ru) :
    ∃ A1 c1 w1 A2 c2 w2, GrU w w1 w2 ((w.alloc noR).alloc (oneR x)) w1 A A1 A2 cap c1 c2 w.heap.size (w.heap.size + 1) n l x := by
  have hx : ((w.alloc noR).alloc (oneR x)).heap[w.heap.size + 1]? = some (oneR x) := by
    have := heap_alloc_new (w.alloc noR) (oneR x)
    rwa [size_newR] at this
  obtain ⟨A1, c1, w1, r1, b1, o1, g1⟩ := gru_one (bel_allocR (bel_newR w noR) (by simp) (oneR x)) ((own_noR w (Nat.le_refl _)).still (bel_newR _ (oneR x))) h hn hl
  have hx1 : w1.heap[w.heap.size + 1]? = some (oneR x) := by
    rw [g1.block _ (by rw [size_newR, size_newR]; omega) (by simp)]; exact hx
  obtain ⟨A2, c2, w2, r2, b2, o2⟩ := gru_two b1 o1 hn hl hx1
  exact ⟨A1, c1, w1, A2, c2, w2, r1, b1, r2, b2, o2⟩
theorem gruC (h : SrcU w A cap l) (hn : l.length = n) (hl : n < 1000) (x : Ru) :
    ∃ A1 c1 w1 A2 c2 w2, GrU w w1 w2 ((w.alloc (oneR x)).alloc noR) w1 A A1 A2 cap c1 c2 (w.heap.size + 1) w.heap.size n l x := by
  have hx : ((w.alloc (oneR x)).alloc noR).heap[w.heap.size]? = some (oneR x) := by
    rw [heap_alloc_old _ _ (by rw [size_newR]; omega)]; exact heap_alloc_new w (oneR x)
  have own := own_noR (w.alloc (oneR x)) (base := w.heap.size) (by simp)
  rw [size_newR] at own
  obtain ⟨A1, c1, w1, r1, b1, o1, g1⟩ := gru_one (bel_allocR (bel_newR w (oneR x)) (by simp) noR) own h hn hl
  have hx1 : w1.heap[w.heap.size]? = some (oneR x) := by
    rw [g1.block _ (by rw [size_newR, size_newR]; omega) (by simp)]; exact hx
  obtain ⟨A2, c2, w2, r2, b2, o2⟩ := gru_two b1 o1 hn hl hx1
  exact ⟨A1, c1, w1, A2, c2, w2, r1, b1, r2, b2, o2⟩
end
end Go.Proofs.Ytfbccngbgkddlaa
