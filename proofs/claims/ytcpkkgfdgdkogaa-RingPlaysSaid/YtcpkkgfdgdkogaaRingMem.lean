/-
  Layer 10 (ring): a row that goes round, as a list; and in memory: its own block, the places in a row of its own.
-/
import Derived.Test.YtcpkkgfdgdkogaaOwnRow
namespace Go.Proofs.Ytcpkkgfdgdkogaa
open Go.ChangeShapes Go.WideShapes Go.ChangeAt Go.RowKit
set_option linter.unusedVariables false

/-- The places ps of a ring with room for r, its first one at place f, m in it, hold q. -/
structure Rq {α : Type} (r f m : Nat) (ps q : List α) : Prop where
  r0 : 1 ≤ r
  r1 : r ≤ 1000
  hf : f < r
  hm : m ≤ r
  len : q.length = m
  pl : ps.length = r ∨ (ps.length = f + m ∧ ps.length < r)
  at' : ∀ i, i < m → ps[(f + i) % r]? = q[i]?
section
variable {α : Type} {r f m : Nat} {ps q : List α} {x : α}
theorem Rq.new (h0 : 1 ≤ r) (h1 : r ≤ 1000) : Rq r 0 0 ([] : List α) [] :=
  ⟨h0, h1, h0, Nat.zero_le _, rfl, .inr ⟨rfl, h0⟩, fun i hi => by omega⟩
theorem Rq.pmax (h : Rq r f m ps q) : ps.length ≤ r := by rcases h.pl with e | e <;> omega
theorem mod_once {a r : Nat} (h : a < r + r) : a % r = a ∨ (r ≤ a ∧ a % r = a - r) := by
  by_cases e : a < r
  · exact .inl (Nat.mod_eq_of_lt e)
  · refine .inr ⟨by omega, ?_⟩
    rw [Nat.mod_eq_sub_mod (by omega)]
    exact Nat.mod_eq_of_lt (by omega)
/-- Where the next one goes: behind all places, or onto one that is free. -/
theorem Rq.next (h : Rq r f m ps q) (hm : m < r) : ((f + m) % r = ps.length ∧ ps.length < r) ∨ ((f + m) % r < ps.length ∧ ps.length = r) := by
  have := h.hf
  rcases h.pl with e | ⟨e, e'⟩
  · exact .inr ⟨by rw [e]; exact Nat.mod_lt _ (by omega), e⟩
  · exact .inl ⟨by rw [e]; exact Nat.mod_eq_of_lt (by omega), e'⟩
theorem Rq.push_new (h : Rq r f m ps q) (hm : m < r) (hl : ps.length < r) (x : α) : Rq r f (m + 1) (ps ++ [x]) (q ++ [x]) := by
  have hp : ps.length = f + m := by rcases h.pl with e | e <;> omega
  refine ⟨h.r0, h.r1, h.hf, hm, by rw [List.length_append, h.len]; rfl, ?_, fun i hi => ?_⟩
  · rw [List.length_append, List.length_singleton]; omega
  · have e : (f + i) % r = f + i := Nat.mod_eq_of_lt (by omega)
    have hq := h.len
    by_cases hi' : i < m
    · rw [List.getElem?_append_left (by rw [e]; omega), List.getElem?_append_left (by omega)]
      exact h.at' i hi'
    · obtain rfl : i = m := by omega
      rw [e, List.getElem?_append_right (by omega), List.getElem?_append_right (by omega), hp, hq, Nat.sub_self, Nat.sub_self]
theorem Rq.push_old (h : Rq r f m ps q) (hm : m < r) (hl : ps.length = r) (x : α) : Rq r f (m + 1) (ps.set ((f + m) % r) x) (q ++ [x]) := by
  have hf := h.hf
  refine ⟨h.r0, h.r1, h.hf, hm, by rw [List.length_append, h.len]; rfl, .inl (by rw [List.length_set]; exact hl), fun i hi => ?_⟩
  have hq := h.len
  by_cases hi' : i < m
  · have hne : (f + m) % r ≠ (f + i) % r := by
      rcases mod_once (a := f + m) (r := r) (by omega) with e | ⟨e1, e⟩ <;> rcases mod_once (a := f + i) (r := r) (by omega) with e' | ⟨e1', e'⟩ <;> rw [e, e'] <;> omega
    rw [List.getElem?_set_ne hne, List.getElem?_append_left (by omega)]
    exact h.at' i hi'
  · obtain rfl : i = m := by omega
    rw [List.getElem?_set_self (by rw [hl]; exact Nat.mod_lt _ (by omega)), List.getElem?_append_right (by omega), hq, Nat.sub_self]
    rfl
theorem Rq.first (h : Rq r f m ps (x :: q)) : ps[f]? = some x ∧ f < ps.length := by
  have hf := h.hf
  have hm : 0 < m := by have := h.len; simp at this; omega
  have e : ps[f]? = some x := by
    have := h.at' 0 hm
    rw [Nat.add_zero, Nat.mod_eq_of_lt hf] at this
    exact this
  exact ⟨e, (List.getElem?_eq_some_iff.1 e).1⟩
theorem Rq.pop (h : Rq r f m ps (x :: q)) (z : α) : Rq r ((f + 1) % r) (m - 1) (ps.set f z) q := by
  have hf := h.hf
  have hl := h.len
  simp only [List.length_cons] at hl
  have hmr := h.hm
  refine ⟨h.r0, h.r1, Nat.mod_lt _ (by omega), by omega, by omega, ?_, fun i hi => ?_⟩
  · rw [List.length_set]
    rcases h.pl with e | ⟨e, e'⟩
    · exact .inl e
    · refine .inr ⟨?_, e'⟩
      rw [Nat.mod_eq_of_lt (by omega)]; omega
  · have h1 := h.at' (i + 1) (by omega)
    rw [List.getElem?_cons_succ] at h1
    have e : ((f + 1) % r + i) % r = (f + (i + 1)) % r := by rw [Nat.mod_add_mod]; congr 1; omega
    have hne : f ≠ (f + (i + 1)) % r := by
      rcases mod_once (a := f + (i + 1)) (r := r) (by omega) with e | ⟨e1, e⟩ <;> omega
    rw [e, List.getElem?_set_ne hne]
    exact h1
end

def errR (c : Nat) : Value := .iface 29 (.int .i64 (c : Nat))
/-- A ring behind a pointer at block a, of type st, with places of type e. -/
structure Rg {α : Type} (st e : TypeId) (enc : α → Value) (w : World) (a r f m : Nat) (v : Value) (ps : List α) : Prop where
  blk : w.heap[a]? = some (.cells #[.int .i64 (r : Nat), .int .i64 (f : Nat), .int .i64 (m : Nat), v] st (0, 0))
  row : w.ownsRow 0 e 1 v ps.length (ps.map enc)
/-- .. with its own blocks F, and what is in it. -/
def Rn {α : Type} (st e : TypeId) (enc : α → Value) (w : World) (F : Nat → Prop) (a r : Nat) (q : List α) : Prop :=
  ∃ f m v ps, Rg st e enc w a r f m v ps ∧ Rq r f m ps q ∧ ∀ g, F g ↔ (g = a ∨ v.ownBlock = some g)
section
variable {α : Type} {st e : TypeId} {enc : α → Value} {w w' : World} {a r f m : Nat} {v : Value} {ps : List α}
theorem Rg.c0 (h : Rg st e enc w a r f m v ps) : w.cell? ⟨a, 0, none⟩ = some (.int .i64 (r : Nat)) := cell_of_block h.blk
theorem Rg.c1 (h : Rg st e enc w a r f m v ps) : w.cell? ⟨a, 1, none⟩ = some (.int .i64 (f : Nat)) := cell_of_block h.blk
theorem Rg.c2 (h : Rg st e enc w a r f m v ps) : w.cell? ⟨a, 2, none⟩ = some (.int .i64 (m : Nat)) := cell_of_block h.blk
theorem Rg.c3 (h : Rg st e enc w a r f m v ps) : w.cell? ⟨a, 3, none⟩ = some v := cell_of_block h.blk
theorem Rg.fr (h : Rg st e enc w a r f m v ps) (o : Nat) : w.frozen? ⟨a, o, none⟩ = false := frozen_of_block h.blk
theorem Rg.lt (h : Rg st e enc w a r f m v ps) : a < w.heap.size := lt_of_block h.blk
theorem Rg.ne (h : Rg st e enc w a r f m v ps) (he : st ≠ e) : v.ownBlock ≠ some a := owns_off h.row h.blk he
theorem Rg.shape (h : Rg st e enc w a r f m v ps) : ∃ A cap, v = .slice A ps.length cap ∧ (A = none → ps = []) ∧ ∀ ad, A = some ad → ∃ g, ad = ⟨g, 0, none⟩ := by
  obtain ⟨A, cap, e1, h1, h2⟩ := owns_view h.row
  exact ⟨A, cap, e1, fun ha => by simpa using (h1 ha).2, fun ad ha => ⟨ad.block, (h2 ad ha).1⟩⟩
theorem Rg.keeps {F : Nat → Prop} (h : Rg st e enc w a r f m v ps) (k : Keeps F w w') (ha : ¬ F a) (hv : ∀ g, v.ownBlock = some g → ¬ F g) : Rg st e enc w' a r f m v ps :=
  ⟨keeps_out k h.blk ha, owns_keeps h.row k hv⟩
theorem Rg.still (h : Rg st e enc w a r f m v ps) (b : Below w.heap.size w w') : Rg st e enc w' a r f m v ps :=
  h.keeps (Keeps.of_below b (Nat.le_refl _) (fun _ => False)) (fun e => e) (fun _ _ e => e)
theorem Rg.drewN (h : Rg st e enc w a r f m v ps) (n : Nat) : Rg st e enc (w.drewN n) a r f m v ps := ⟨h.blk, h.row⟩
theorem Rg.drew (h : Rg st e enc w a r f m v ps) : Rg st e enc w.drew a r f m v ps := ⟨h.blk, h.row⟩
/-- One of its own cells is written. -/
theorem Rg.set1 (h : Rg st e enc w a r f m v ps) (he : st ≠ e) (f' : Nat) : Rg st e enc (w.setCell ⟨a, 1, none⟩ (.int .i64 (f' : Nat))) a r f' m v ps :=
  ⟨by rw [heap_set_same h.blk]; rfl, owns_keeps (F := fun g => g = a) h.row ((Keeps.refl _ w).set _ _ (.inl rfl)) (fun g hg e' => h.ne he (by rw [← e']; exact hg))⟩
theorem Rg.set2 (h : Rg st e enc w a r f m v ps) (he : st ≠ e) (m' : Nat) : Rg st e enc (w.setCell ⟨a, 2, none⟩ (.int .i64 (m' : Nat))) a r f m' v ps :=
  ⟨by rw [heap_set_same h.blk]; rfl, owns_keeps (F := fun g => g = a) h.row ((Keeps.refl _ w).set _ _ (.inl rfl)) (fun g hg e' => h.ne he (by rw [← e']; exact hg))⟩
theorem Rg.many (h : Rg st e enc w a r f m v ps) (he : st ≠ e) {m' : Nat} {z : Int} (hz : z = m') : Rg st e enc (w.setCell ⟨a, 2, none⟩ (.int .i64 z)) a r f m' v ps := by subst hz; exact h.set2 he m'
theorem Rg.own_set2 (h : Rg st e enc w a r f m v ps) (x : Value) : Keeps (fun g => g = a ∨ v.ownBlock = some g) w (w.setCell ⟨a, 2, none⟩ x) := (Keeps.refl _ w).set _ _ (.inl (.inl rfl))
theorem Rg.own_set1 (h : Rg st e enc w a r f m v ps) (x : Value) : Keeps (fun g => g = a ∨ v.ownBlock = some g) w (w.setCell ⟨a, 1, none⟩ x) := (Keeps.refl _ w).set _ _ (.inl (.inl rfl))
/-- A place is written. -/
theorem Rg.place (h : Rg st e enc w a r f m v ps) (he : st ≠ e) {g cap : Nat} (hv : v = .slice (some ⟨g, 0, none⟩) ps.length cap) (j : Nat) (x : α) :
    Rg st e enc (w.setCell ⟨g, j, none⟩ (enc x)) a r f m v (ps.set j x) ∧ Keeps (fun k => k = a ∨ v.ownBlock = some k) w (w.setCell ⟨g, j, none⟩ (enc x)) ∧ a ≠ g := by
  have hne : a ≠ g := fun e' => h.ne he (by subst hv; subst e'; rfl)
  subst hv
  refine ⟨⟨by rw [heap_set_other hne]; exact h.blk, ?_⟩, (Keeps.refl _ w).set _ _ (.inl (.inr rfl)), hne⟩
  have := (World.ownsRow.stored h.row j (enc x)).1
  rw [List.length_set, List.map_set]
  exact this
theorem Rg.at (h : Rg st e enc w a r f m v ps) {j : Nat} {x : α} (hj : ps[j]? = some x) : ∃ g cap, v = .slice (some ⟨g, 0, none⟩) ps.length cap ∧ w.cell? ⟨g, j, none⟩ = some (enc x) ∧ w.frozen? ⟨g, j, none⟩ = false := by
  have hlt := (List.getElem?_eq_some_iff.1 hj).1
  have hr := h.row
  rcases hr.2 with ⟨rfl, e1⟩ | ⟨g, cap, cur, rfl, _⟩
  · omega
  · refine ⟨g, cap, rfl, ?_, World.ownsRow.frozenAt hr j⟩
    rw [World.ownsRow.cellAt hr j (by omega), List.getElem?_map, hj]; rfl
/-- The places grow by one. -/
theorem Rg.more (h : Rg st e enc w a r f m v ps) (he : st ≠ e) {ty : TypeId} {z : Value} {bytes : Nat} (hu : Try.prog.underlying ty = some (.slice e)) (hinfo : (Try.prog.info? e).map (fun i => (i.zero, i.size, i.bytes)) = some (some z, 1, bytes)) (hz : z.cells.size = 1)
    (x : α) (h1 : (enc x).oneCell' = true) (hl : ps.length ≤ 100000) (hb : bytes ≤ 16) :
    ∃ A cap w', (Builtin.append_ #[ty, ty] ty #[v, .slice (some ⟨w.heap.size, 0, none⟩) 1 1]).run Try.prog (w.alloc (.cells #[enc x] e)) = .ok (.slice A (ps.length + 1) cap) w' ∧
      w'.cell? ⟨a, 3, none⟩ = some v ∧ w'.cell? ⟨a, 2, none⟩ = some (.int .i64 (m : Nat)) ∧ (∀ o, w'.frozen? ⟨a, o, none⟩ = false) ∧ Rg st e enc (w'.setCell ⟨a, 3, none⟩ (.slice A (ps.length + 1) cap)) a r f m (.slice A (ps.length + 1) cap) (ps ++ [x]) ∧
      Keeps (fun k => k = a ∨ v.ownBlock = some k) w (w'.setCell ⟨a, 3, none⟩ (.slice A (ps.length + 1) cap)) ∧ (∀ g, (Value.slice A (ps.length + 1) cap).ownBlock = some g → v.ownBlock = some g ∨ w.heap.size ≤ g) := by
  obtain ⟨v', w', hrun, hown, hgr, hat⟩ := row_grow (w := w.alloc (.cells #[enc x] e)) hu hinfo hz (World.ownsRow.alloc h.row _) (A := some ⟨w.heap.size, 0, none⟩) (m := 1) (cap := 1) (news := [enc x]) rfl (fun e => by cases e) (fun ad ha j u hu => by cases ha; exact one_cell hu) (fun u hu => by simp only [List.mem_singleton] at hu; subst hu; exact h1) (by omega) hb (Nat.zero_le _)
  obtain ⟨A, cap, rfl, _, _⟩ := owns_view hown
  have k0 : Keeps (fun k => k = a ∨ v.ownBlock = some k) w w' := ((Keeps.refl (fun _ => False) w).alloc _).wide (fun _ e _ => e.elim) |>.trans (Keeps.of_grown (F := fun g => v.ownBlock = some g) hgr (fun g e => e)) (fun g e => .inl (.inr e))
  have hblk : w'.heap[a]? = some (.cells #[.int .i64 (r : Nat), .int .i64 (f : Nat), .int .i64 (m : Nat), v] st (0, 0)) := by
    have hlt := h.lt
    rw [hgr.block a (by simp; omega) (fun e' => h.ne he e'.symm)]
    exact (h.still (((Below.refl w.heap.size w).alloc (Nat.le_refl _) _))).blk
  refine ⟨A, cap, w', hrun, cell_of_block hblk, cell_of_block hblk, fun o => frozen_of_block hblk, ⟨by rw [heap_set_same hblk]; rfl, ?_⟩, k0.set _ _ (.inl (.inl rfl)), fun g hg => ?_⟩
  · have hne := owns_off hown hblk he
    have := owns_keeps (F := fun g => g = a) hown ((Keeps.refl _ w').set ⟨a, 3, none⟩ (.slice A (ps.length + 1) cap) (.inl rfl)) (fun g hg e' => hne (by rw [← e']; exact hg))
    rw [List.length_append, List.length_singleton, List.map_append]
    exact this
  · rcases hat with e' | e'
    · rw [e'] at hg; exact .inl hg
    · rw [e'] at hg; cases hg; exact .inr (by simp)
end
section
variable {α : Type} {st e : TypeId} {enc : α → Value} {w w' : World} {F G : Nat → Prop} {a r : Nat} {q : List α}
theorem Rn.keeps (h : Rn st e enc w F a r q) (k : Keeps G w w') (hG : ∀ g, F g → ¬ G g) : Rn st e enc w' F a r q := by
  obtain ⟨f, m, v, ps, h1, h2, h3⟩ := h
  exact ⟨f, m, v, ps, h1.keeps k (hG a ((h3 a).2 (.inl rfl))) (fun g hg => hG g ((h3 g).2 (.inr hg))), h2, h3⟩
theorem Rn.still (h : Rn st e enc w F a r q) (b : Below w.heap.size w w') : Rn st e enc w' F a r q :=
  h.keeps (Keeps.of_below b (Nat.le_refl _) (fun _ => False)) (fun _ _ e => e)
theorem Rn.len (h : Rn st e enc w F a r q) : q.length ≤ r ∧ 1 ≤ r ∧ r ≤ 1000 := by
  obtain ⟨f, m, v, ps, h1, h2, h3⟩ := h
  have := h2.len
  have := h2.hm
  exact ⟨by omega, h2.r0, h2.r1⟩
theorem Rn.lt (h : Rn st e enc w F a r q) {g : Nat} (hg : F g) : g < w.heap.size := by
  obtain ⟨f, m, v, ps, h1, h2, h3⟩ := h
  rcases (h3 g).1 hg with rfl | e
  · exact h1.lt
  · exact (owns_block h1.row e).2.1
end
end Go.Proofs.Ytcpkkgfdgdkogaa
