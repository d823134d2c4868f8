/-
  Rows of one's own, of elements of one cell: they grow by what lies elsewhere, or was just laid.
  Rows of one's own that may begin within their block (as 'l[k:]' leaves them), of elements of one cell: they grow by what lies elsewhere, or was just laid; and they are cut from the left.
-/
import Derived.Test.YtgeahpfdaehjaaaGreatDoorGrpA
import Derived.Maps.AppendAt
namespace Go.Proofs.YtgeahpfdaehjaaaGreatDoor
open Go.ChangeShapes Go.WideShapes Go.ChangeAt Go.RowKit
set_option linter.unusedVariables false

theorem infoI : (Tryz.prog.info? 3).map (fun i => (i.zero, i.size, i.bytes)) = some (some (.int .i64 0), 1, 8) := by kernel_rfl
theorem infoS : (Tryz.prog.info? 9).map (fun i => (i.zero, i.size, i.bytes)) = some (some (.string ⟨#[]⟩), 1, 16) := by kernel_rfl
section
variable {w w' : World} {B B' : Nat} {e e' : TypeId} {v v' : Value} {n n' : Nat} {l l' : List Value}
theorem owns_block (h : w.ownsRow B e 1 v n l) {g : Nat} (hg : v.ownBlock = some g) : B ≤ g ∧ g < w.heap.size ∧ ∃ c, w.heap[g]? = some (.cells c e (0, 0)) := by
  rcases h.2 with ⟨rfl, _⟩ | ⟨g', cap, cur, rfl, hb, hc, _⟩
  · cases hg
  · simp only [Value.ownBlock, Option.some.injEq] at hg
    subst hg
    exact ⟨hb, lt_of_block hc, _, hc⟩
theorem owns_ne (h : w.ownsRow B e 1 v n l) (h' : w.ownsRow B' e' 1 v' n' l') (he : e ≠ e') {g : Nat} (hg : v.ownBlock = some g) : v'.ownBlock ≠ some g := fun hg' => by
  obtain ⟨_, _, c, hc⟩ := owns_block h hg
  obtain ⟨_, _, d, hd⟩ := owns_block h' hg'
  rw [hc] at hd
  cases hd
  exact he rfl
theorem owns_off (h : w.ownsRow B e 1 v n l) {a : Nat} {c : Array Value} {t : TypeId} {f : Nat × Nat} (hb : w.heap[a]? = some (.cells c t f)) (he : t ≠ e) : v.ownBlock ≠ some a := fun hg => by
  obtain ⟨_, _, d, hd⟩ := owns_block h hg
  rw [hb] at hd
  cases hd
  exact he rfl
theorem owns_view (h : w.ownsRow B e 1 v n l) : ∃ A cap, v = .slice A n cap ∧ (A = none → cap = 0 ∧ l = []) ∧ (∀ ad, A = some ad → ad = ⟨ad.block, 0, none⟩ ∧ ∀ j u, l[j]? = some u → w.cell? (ad.add j) = some u) := by
  rcases h.2 with ⟨rfl, hn⟩ | ⟨g, cap, cur, rfl, _⟩
  · subst hn
    exact ⟨none, 0, rfl, fun _ => ⟨rfl, List.length_eq_zero_iff.1 (by have := h.1; omega)⟩, fun ad ha => by cases ha⟩
  · refine ⟨some ⟨g, 0, none⟩, cap, rfl, (fun ha => by cases ha), fun ad ha => ?_⟩
    cases ha
    exact ⟨rfl, fun j u hu => World.ownsRow.cells h (g := g) rfl j u hu⟩
/-- A row of one's own grows by what lies elsewhere. -/
theorem row_grow {ty : TypeId} {z : Value} {bytes : Nat} (hu : Tryz.prog.underlying ty = some (.slice e)) (hinfo : (Tryz.prog.info? e).map (fun i => (i.zero, i.size, i.bytes)) = some (some z, 1, bytes)) (hz : z.cells.size = 1)
    (h : w.ownsRow B e 1 v n l) {A : Option Addr} {m cap : Nat} {news : List Value} (hm : news.length = m) (hn : A = none → cap = 0 ∧ news = []) (hr : ∀ ad, A = some ad → ∀ j u, news[j]? = some u → w.cell? (ad.add j) = some u)
    (h1 : ∀ u ∈ news, u.oneCell' = true) (hl : n + m ≤ 1000000) (hb : bytes ≤ 16) (hB : B ≤ w.heap.size) :
    ∃ v' w', (Builtin.append_ #[ty, ty] ty #[v, .slice A m cap]).run Tryz.prog w = .ok v' w' ∧ w'.ownsRow B e 1 v' (n + m) (l ++ news) ∧ w.grownBy w' v.ownBlock ∧ (v'.ownBlock = v.ownBlock ∨ v'.ownBlock = some w.heap.size) := by
  obtain ⟨i, hi, hz0, hz1, hz2⟩ := info_parts hinfo
  cases A with
  | none =>
    obtain ⟨rfl, rfl⟩ := hn rfl
    obtain rfl : m = 0 := by simpa using hm.symm
    exact ⟨v, w, run_append_owned_none (P := Tryz.prog) (w := w) B ty ty e i 1 hu hi _ _ _ h, by simpa using h, grown_refl _ _, .inl rfl⟩
  | some ad =>
    obtain ⟨v', w', hrun, hown, hgr, _, hat⟩ := run_append_own_at (P := Tryz.prog) w B ty ty e i z 1 bytes hu hi hz0 hz1 hz2 hz (by omega) _ _ _ h ad m cap news (by omega) (hr ad rfl) h1 (by unfold maxLen; omega)
      (by have : (n + m) * bytes ≤ 1000000 * 16 := Nat.mul_le_mul hl hb
          omega) hB
    exact ⟨v', w', hrun, hown, hgr, hat⟩
end
theorem one_cell {w : World} {u x : Value} {e : TypeId} {j : Nat} (hu : [x][j]? = some u) : (w.alloc (.cells #[x] e)).cell? ((⟨w.heap.size, 0, none⟩ : Addr).add j) = some u := by
  rw [Addr.add_lit, Nat.zero_add, cell_of_block (heap_alloc_new w _)]
  simpa using hu
end Go.Proofs.YtgeahpfdaehjaaaGreatDoor
namespace Go.Proofs.YtgeahpfdaehjaaaGreatDoor
open Go.ChangeShapes Go.WideShapes Go.ChangeAt Go.RowKit
set_option linter.unusedVariables false

/-- A row of one's own, of elements of one cell, from any place of its block on to the block's end. -/
def OwnO (w : World) (B : Nat) (e : TypeId) (v : Value) (n : Nat) (l : List Value) : Prop :=
  l.length = n ∧ ((v = .slice none 0 0 ∧ n = 0) ∨
    ∃ g o cap cur, v = .slice (some ⟨g, o, none⟩) n cap ∧ B ≤ g ∧ w.heap[g]? = some (.cells cur e (0, 0)) ∧ n ≤ cap ∧ cap ≤ maxLen ∧ cur.size = o + cap ∧ (cur.toList.drop o).take n = l)
section
variable {w w' : World} {B B' : Nat} {e e' : TypeId} {v v' : Value} {n n' : Nat} {l l' : List Value}
theorem OwnO.of (h : w.ownsRow B e 1 v n l) : OwnO w B e v n l := by
  refine ⟨by have := h.1; omega, ?_⟩
  rcases h.2 with h | ⟨g, cap, cur, h1, h2, h3, h4, h5, h6, h7⟩
  · exact .inl h
  · exact .inr ⟨g, 0, cap, cur, h1, h2, h3, h4, h5, by omega, by simpa using h7⟩
theorem OwnO.nil (w : World) (B : Nat) (e : TypeId) : OwnO w B e (.slice none 0 0) 0 [] := ⟨rfl, .inl ⟨rfl, rfl⟩⟩
theorem OwnO.block (h : OwnO w B e v n l) {g : Nat} (hg : v.ownBlock = some g) : B ≤ g ∧ g < w.heap.size ∧ ∃ c, w.heap[g]? = some (.cells c e (0, 0)) := by
  rcases h.2 with ⟨rfl, _⟩ | ⟨g', o, cap, cur, rfl, hb, hc, _⟩
  · cases hg
  · simp only [Value.ownBlock, Option.some.injEq] at hg
    subst hg
    exact ⟨hb, lt_of_block hc, _, hc⟩
theorem OwnO.ne (h : OwnO w B e v n l) (h' : OwnO w B' e' v' n' l') (he : e ≠ e') {g : Nat} (hg : v.ownBlock = some g) : v'.ownBlock ≠ some g := fun hg' => by
  obtain ⟨_, _, c, hc⟩ := h.block hg
  obtain ⟨_, _, d, hd⟩ := h'.block hg'
  rw [hc] at hd
  cases hd
  exact he rfl
theorem OwnO.off (h : OwnO w B e v n l) {a : Nat} {c : Array Value} {t : TypeId} {f : Nat × Nat} (hb : w.heap[a]? = some (.cells c t f)) (he : t ≠ e) : v.ownBlock ≠ some a := fun hg => by
  obtain ⟨_, _, d, hd⟩ := h.block hg
  rw [hb] at hd
  cases hd
  exact he rfl
theorem OwnO.kept (h : OwnO w B e v n l) {row : Option Nat} (hg : w.grownBy w' row) (hne : v.ownBlock = none ∨ v.ownBlock ≠ row) : OwnO w' B e v n l := by
  refine ⟨h.1, ?_⟩
  rcases h.2 with h | ⟨g, o, cap, cur, rfl, hb, hc, h3⟩
  · exact .inl h
  · have : w'.heap[g]? = w.heap[g]? := hg.block g (lt_of_block hc) (fun e => by
      rcases hne with hne | hne
      · cases hne
      · exact hne e)
    exact .inr ⟨g, o, cap, cur, rfl, hb, by rw [this]; exact hc, h3⟩
theorem OwnO.keeps {F : Nat → Prop} (h : OwnO w B e v n l) (k : Keeps F w w') (hF : ∀ g, v.ownBlock = some g → ¬ F g) : OwnO w' B e v n l := by
  refine ⟨h.1, ?_⟩
  rcases h.2 with h | ⟨g, o, cap, cur, rfl, hb, hc, h3⟩
  · exact .inl h
  · exact .inr ⟨g, o, cap, cur, rfl, hb, by rw [k.block g (lt_of_block hc) (hF g rfl)]; exact hc, h3⟩
theorem OwnO.below (h : OwnO w B e v n l) (k : Below w.heap.size w w') : OwnO w' B e v n l := h.keeps (Keeps.of_below k (Nat.le_refl _) (fun _ => False)) (fun _ _ e => e)
theorem OwnO.mono (h : OwnO w B e v n l) (hb : B' ≤ B) : OwnO w B' e v n l := by
  refine ⟨h.1, ?_⟩
  rcases h.2 with h | ⟨g, o, cap, cur, h1, h2, h3⟩
  · exact .inl h
  · exact .inr ⟨g, o, cap, cur, h1, Nat.le_trans hb h2, h3⟩
theorem take_at {α : Type} {c l : List α} {o n : Nat} (h : (c.drop o).take n = l) {j : Nat} {u : α} (hu : l[j]? = some u) : c[o + j]? = some u := by
  subst h
  rw [List.getElem?_take] at hu
  split at hu
  · rw [List.getElem?_drop] at hu
    exact hu
  · cases hu
theorem OwnO.view (h : OwnO w B e v n l) : ∃ A cap, v = .slice A n cap ∧ n ≤ cap ∧ (A = none → cap = 0 ∧ l = []) ∧ (∀ ad, A = some ad → ad = ⟨ad.block, ad.off, none⟩ ∧ ∀ j u, l[j]? = some u → w.cell? (ad.add j) = some u) := by
  rcases h.2 with ⟨rfl, hn⟩ | ⟨g, o, cap, cur, rfl, hb, hc, h4, h5, h6, h7⟩
  · subst hn
    exact ⟨none, 0, rfl, Nat.le_refl _, fun _ => ⟨rfl, List.length_eq_zero_iff.1 h.1⟩, fun ad ha => by cases ha⟩
  · refine ⟨some ⟨g, o, none⟩, cap, rfl, h4, (fun ha => by cases ha), fun ad ha => ?_⟩
    cases ha
    refine ⟨rfl, fun j u hu => ?_⟩
    rw [Addr.add_lit, cell_of_block hc]
    have := take_at h7 hu
    rw [Array.getElem?_toList] at this
    exact this
/-- One of its elements is another: the block's cell is set. -/
theorem OwnO.frozen (h : OwnO w B e v n l) {g o c : Nat} (hv : v = .slice (some ⟨g, o, none⟩) n c) (j : Nat) : w.frozen? ⟨g, j, none⟩ = false := by
  obtain ⟨_, _, d, hd⟩ := h.block (g := g) (by rw [hv]; rfl)
  exact frozen_of_block hd
/-- 'append', where there is room, behind a row that begins within its block. -/
theorem run_append_room_off (t ty e : TypeId) (i : TypeInfo) (ht : Tryz.prog.underlying t = some (.slice e)) (hi : Tryz.prog.info? e = some i)
    (g o sLen sCap : Nat) (cur : Array Value) (hg : w.heap[g]? = some (.cells cur e (0, 0)))
    (a : Addr) (m c : Nat) (news : List Value) (hl : news.length = m * i.size) (hnews : ∀ j u, news[j]? = some u → w.cell? (a.add j) = some u) (h1 : ∀ u ∈ news, u.oneCell' = true)
    (hroom : sLen + m ≤ sCap) (hfit : o + sLen * i.size + news.length ≤ cur.size) :
    (Builtin.append_ #[t, t] ty #[.slice (some ⟨g, o, none⟩) sLen sCap, .slice (some a) m c]).run Tryz.prog w =
      .ok (.slice (some ⟨g, o, none⟩) (sLen + m) sCap) (w.setRow g (cur.toList.take (o + sLen * i.size) ++ news ++ cur.toList.drop (o + sLen * i.size + news.length)).toArray) := by
  have hf := run_firstCells_some (P := Tryz.prog) w i.size m a m c news hl hnews
  have hst := run_storeCells_at Tryz.prog g (o + sLen * i.size) e news 0 cur w hg (by simpa using hfit) h1
  simp only [Nat.add_zero] at hst
  simp [Builtin.append_, run_underlying ht, sizeOf, typeInfo, hi, Builtin.lenOf, hroom, hf, Addr.add_lit, hst]
/-- It grows by what lies elsewhere. -/
theorem growO {ty : TypeId} {z : Value} {bytes : Nat} (hu : Tryz.prog.underlying ty = some (.slice e)) (hinfo : (Tryz.prog.info? e).map (fun i => (i.zero, i.size, i.bytes)) = some (some z, 1, bytes)) (hz : z.cells.size = 1)
    (h : OwnO w B e v n l) {A : Option Addr} {m cap : Nat} {news : List Value} (hm : news.length = m) (hn : A = none → cap = 0 ∧ news = []) (hr : ∀ ad, A = some ad → ∀ j u, news[j]? = some u → w.cell? (ad.add j) = some u)
    (h1 : ∀ u ∈ news, u.oneCell' = true) (hl : n + m ≤ 1000000) (hb : bytes ≤ 16) (hB : B ≤ w.heap.size) :
    ∃ v' w', (Builtin.append_ #[ty, ty] ty #[v, .slice A m cap]).run Tryz.prog w = .ok v' w' ∧ OwnO w' B e v' (n + m) (l ++ news) ∧ w.grownBy w' v.ownBlock ∧ (v'.ownBlock = v.ownBlock ∨ v'.ownBlock = some w.heap.size) := by
  obtain ⟨i, hi, hz0, hz1, hz2⟩ := info_parts hinfo
  have hbytes : (n + m) * i.bytes ≤ 140737488355328 := by
    rw [hz2]
    have : (n + m) * bytes ≤ 1000000 * 16 := Nat.mul_le_mul hl hb
    omega
  rcases h.2 with ⟨rfl, rfl⟩ | ⟨g, o, c, cur, rfl, hbg, hc, hnc, hcm, hcs, ht⟩
  · have hl0 : l = [] := List.length_eq_zero_iff.1 h.1
    subst hl0
    obtain ⟨v', w', a, b, c, d⟩ := row_grow hu hinfo hz (World.ownsRow_nil w B e 1) hm hn hr h1 hl hb hB
    exact ⟨v', w', a, .of b, c, d⟩
  · cases A with
    | none =>
      obtain ⟨rfl, rfl⟩ := hn rfl
      obtain rfl : m = 0 := by simpa using hm.symm
      refine ⟨_, w, ?_, by simpa using h, grown_refl _ _, .inl rfl⟩
      simp [Builtin.append_, run_underlying hu, sizeOf, typeInfo, hi, Builtin.lenOf, Builtin.firstCells, hnc, storeCells]
    | some ad =>
      by_cases hroom : n + m ≤ c
      · have hr' := run_append_room_off (w := w) ty ty e i hu hi g o n c cur hc ad m cap news (by rw [hz1]; omega) (hr ad rfl) h1 hroom (by rw [hz1]; omega)
        rw [hz1, Nat.mul_one] at hr'
        refine ⟨_, _, hr', ⟨by rw [List.length_append, h.1, hm], .inr ⟨g, o, c, _, rfl, hbg, setRow_heap w g cur _ e _ hc, hroom, hcm, ?_, ?_⟩⟩, ⟨rfl, rfl, rfl, by simp, fun k _ hk => setRow_other w g k _ (fun e => hk (by simp [Value.ownBlock, e]))⟩, .inl rfl⟩
        · simp only [List.size_toArray, List.length_append, List.length_take, List.length_drop, Array.length_toList]
          omega
        · have e1 : cur.toList.take (o + n) = cur.toList.take o ++ l := by rw [List.take_add, ht]
          have e2 : (cur.toList.take o).length = o := by rw [List.length_take, Array.length_toList]; omega
          rw [e1, List.append_assoc, List.append_assoc, List.drop_append_of_le_length (by omega), List.drop_eq_nil_of_le (by omega), List.nil_append, ← List.append_assoc, List.take_append_of_le_length (by rw [List.length_append, h.1, hm]; exact Nat.le_refl _), List.take_of_length_le (by rw [List.length_append, h.1, hm]; exact Nat.le_refl _)]
      · obtain ⟨A', cap', hv, _, _, hall⟩ := h.view
        cases hv
        have hr' := run_append_grow (P := Tryz.prog) w ty ty e i z hu hi hz0 ⟨g, o, none⟩ n c l (by rw [hz1, h.1]; omega) (hall _ rfl).2 ad m cap news (by rw [hz1]; omega) (hr ad rfl) (by omega) (by omega) (growslice_fits (by omega) hbytes)
        have hge := grownCap_ge w (n + m) c e
        have hcm : grownCap w (n + m) c e ≤ maxLen := grownCap_le_maxLen w (n + m) c e (by unfold maxLen; omega)
        refine ⟨_, _, hr', ⟨by rw [List.length_append, h.1, hm], .inr ⟨w.heap.size, 0, _, _, rfl, hB, heap_alloc_new w.drew _, hge, hcm, ?_, ?_⟩⟩, ⟨rfl, rfl, rfl, by simp, fun k hk _ => (World.grownBy_alloc w.drew _ none).block k hk (by simp)⟩, .inr rfl⟩
        · simp only [Array.size_append, List.size_toArray, size_zeroCells, hz, h.1, hm]
          omega
        · simp only [Array.toList_append, List.drop_zero, List.append_assoc]
          rw [← List.append_assoc, List.take_append_of_le_length (by rw [List.length_append, h.1, hm]; exact Nat.le_refl _), List.take_of_length_le (by rw [List.length_append, h.1, hm]; exact Nat.le_refl _)]
/-- 'l[k:]'. -/
theorem OwnO.from {ts : TypeId} (hu : Tryz.prog.underlying ts = some (.slice (Tryz.prog.elem ts))) (hs : ∀ w, (sizeOf (Tryz.prog.elem ts)).run Tryz.prog w = .ok 1 w) (h : OwnO w B e v n l) {k : Nat} (hk : k < n) :
    ∃ v', (∀ w, (Instr.slice ts v (some (.int .i64 (k : Int))) none none).run Tryz.prog w = .ok v' w) ∧ OwnO w B e v' (n - k) (l.drop k) ∧ v'.ownBlock = v.ownBlock := by
  rcases h.2 with ⟨rfl, rfl⟩ | ⟨g, o, c, cur, rfl, hbg, hc, hnc, hcm, hcs, ht⟩
  · omega
  · refine ⟨.slice (some ⟨g, o + k, none⟩) (n - k) (c - k), fun w => ?_, ⟨by rw [List.length_drop, h.1], .inr ⟨g, o + k, c - k, cur, rfl, hbg, hc, by omega, by omega, by omega, ?_⟩⟩, rfl⟩
    · rw [run_slice_l w ts (some ⟨g, o, none⟩) n c hu _ _ (by omega) (by omega), hs]
      have : ¬ c = k := by omega
      simp [Result.andThen, sliced, this, Addr.add_lit]
    · rw [← List.drop_drop, ← ht, List.drop_take]
end
end Go.Proofs.YtgeahpfdaehjaaaGreatDoor
