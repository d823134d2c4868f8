/-
  Layer 20 (window), the program's table: a window's rows in a map by their names; the open windows in a map by when they begin.
  Layer 20 (window): a range over the open windows, and over a window's rows, in whatever order: which have been met.
  Layer 20 (window), of no program: what a table may be made of; what may be added; how many windows are due; whether there is room.
  Layer 20 (window), the program's: New, isDue, Open, Seq; Due, first and Rows, whatever the order of a range.
-/
import Derived.Test.YtedhciolnekpaaaGreatDoorGrpA
import Derived.Maps.Ext
import Derived.Maps.RangeWalk
import Derived.DeepKeys4
import Derived.Deep.QuietTactic
import Derived.BigQuiet
import Derived.RegionTactic
import Derived.Deep.RegionLaw
namespace Go.Proofs.YtedhciolnekpaaaGreatDoor
open Go.ChangeShapes Go.WideShapes Go.ChangeAt Go.RowKit
set_option linter.unusedVariables false

/-- Every value reads as itself. -/
def RVw (v : Value) : Option (DataW Value × List MemPlace) := some (.held v, [])
theorem held_w {v u : Value} {ps : List MemPlace} (h : RVw v = some (.held u, ps)) : v = u := by
  unfold RVw at h
  cases h
  rfl
section
variable {F : Nat → Prop} {w w' : World} {k : TypeId} {b n : Nat} {D : DataW Value}
theorem mapw_keeps (h : w.ownsMap Tryz.prog k RVw b n D) (g : Keeps F w w') (hb : ¬ F b) : w'.ownsMap Tryz.prog k RVw b n D := by
  obtain ⟨es, clock, hes, r⟩ := h
  exact ⟨es, clock, by rw [g.block b (lt_of_block hes) hb]; exact hes, r⟩
theorem mapw_is (h : w.ownsMap Tryz.prog k RVw b n D) : ∃ es c, w.heap[b]? = some (.map es c) := by
  obtain ⟨es, clock, hes, _⟩ := h
  exact ⟨es, clock, hes⟩
theorem mapw_tight (h : w.ownsMap Tryz.prog k RVw b n D) : w.ownsMap Tryz.prog k RVw b (Maps.size D) D := by
  obtain ⟨es, clock, hes, F, _, rfl⟩ := h
  exact ⟨es, clock, hes, F, by simp [Maps.size, length_sorted], rfl⟩
theorem mapw_turned (h : w.mapTurned w' b) : Keeps (fun g => g = b) w w' := Keeps.of_grown h.grown (fun g e => by cases e; rfl)
end

/-! ### keys -/
theorem keyedZ : Maps.Keyed Tryz.prog 2 := Maps.int_keyed Tryz.underlying2
def zL (s : Int) : Lit := .int .i64 s
theorem zL_inj {a b : Int} (h : zL a = zL b) : a = b := by unfold zL at h; cases h; rfl
theorem key_z {s : Int} (h : In64 s) : keyOf Tryz.prog 2 (.int .i64 s) = some (zL s) := Maps.keyOf_int_mk Tryz.underlying2 (WalkArith.wf_i64 h)
theorem laidOutW : laidOutB Tryz.prog = true := by kernel_rfl
theorem m10 : 2 + 1 ≤ 10000 := by omega
theorem rowP : (73 : TypeId) < Tryz.prog.types.size := of_decide_eq_true (by kernel_rfl)
theorem deepP : Tryz.prog.keyTypeAt 2 73 = true := by kernel_rfl
theorem keyedP : Maps.Keyed Tryz.prog 73 := Maps.Keyed.of_law (deep_law_laid laidOutW (m := 2) m10 rowP deepP (by rw [Tryz.underlying73]))
def nmV (n : Nm) : Value := .agg #[.string n.1, .int .i64 n.2]
structure NmOk (n : Nm) : Prop where
  sz : n.1.size ≤ 1000000
  kd : In64 n.2
theorem typesW : ∃ m, Tryz.prog.types.size = m + 1 := ⟨Tryz.prog.types.size - 1, by
  have : 0 < Tryz.prog.types.size := of_decide_eq_true (by kernel_rfl)
  omega⟩
theorem key_nm {n : Nm} (h : NmOk n) : ∃ kl, keyOf Tryz.prog 73 (nmV n) = some kl := by
  have h1 : Tryz.prog.keyType 73 = true := by kernel_rfl
  have h2 : Tryz.prog.cellsOf 73 = 2 := by kernel_rfl
  have h3 : Tryz.prog.cellsOf 9 = 1 := by kernel_rfl
  have h4 : Tryz.prog.cellsOf 3 = 1 := by kernel_rfl
  have h5 : (Lit.int .i64 n.2).wf = true := WalkArith.wf_i64 h.kd
  have h6 : n.1.size ≤ maxLen := by have := h.sz; unfold maxLen; omega
  obtain ⟨m, hm⟩ := typesW
  unfold keyOf
  rw [Tryz.underlying73]
  simp only [h1, Bool.true_and]
  rw [if_pos (by simp [nmV, Value.formed, Tryz.underlying73, h2])]
  rw [hm]
  simp [nmV, Value.cells, Program.keyLits, Tryz.underlying73, Tryz.underlying9, Tryz.underlying3, h2, h3, h4, h5, h6]
open Classical in
noncomputable def klP (n : Nm) : Lit := if h : NmOk n then Classical.choose (key_nm h) else .bool true
theorem key_p {n : Nm} (h : NmOk n) : keyOf Tryz.prog 73 (nmV n) = some (klP n) := by
  unfold klP
  rw [dif_pos h]
  exact Classical.choose_spec (key_nm h)
theorem key_inj {v u : Value} {l : Lit} (h : keyOf Tryz.prog 73 v = some l) (h' : keyOf Tryz.prog 73 u = some l) : v = u := Maps.Keyed.inj keyedP h h'
theorem key_lit {v : Value} {l : Lit} (h : keyOf Tryz.prog 73 v = some l) : WideAt.IsKeyLit l := Maps.Keyed.key keyedP h
theorem klP_inj {a b : Nm} (ha : NmOk a) (hb : NmOk b) (e : klP a = klP b) : a = b := by
  have h1 := key_p ha
  have h2 := key_p hb
  rw [← e] at h2
  have h := key_inj h1 h2
  unfold nmV at h
  obtain ⟨a1, a2⟩ := a
  obtain ⟨b1, b2⟩ := b
  cases h
  rfl
theorem klP_key {a : Nm} (ha : NmOk a) : WideAt.IsKeyLit (klP a) := key_lit (key_p ha)
theorem zL_key (s : Int) : WideAt.IsKeyLit (zL s) := True.intro

/-! ### a window's rows -/
structure Inn (w : World) (b : Nat) (rows : List Rw) : Prop where
  ex : ∃ D, w.ownsMap Tryz.prog 73 RVw b rows.length D ∧ Maps.size D = rows.length ∧
    (∀ r ∈ rows, ∃ B c, OwnN w 0 B c r.bks ∧ ∀ z, D.atKey (klP (nmR r)) z = .held (rowVal r B c)) ∧ ∀ kl, Maps.has D kl = true → ∃ r ∈ rows, kl = klP (nmR r)
  nm : ∀ r ∈ rows, NmOk (nmR r)
/-- No block of numbers. -/
def OffN (w : World) (F : Nat → Prop) : Prop := ∀ g, F g → ∀ c f, w.heap[g]? ≠ some (.cells c 51 f)
theorem ownN_keeps {F : Nat → Prop} {w w' : World} {B : Option Addr} {c base : Nat} {l : List Nat} (h : OwnN w base B c l) (k : Keeps F w w') (hF : OffN w F) : OwnN w' base B c l :=
  owns_keeps h k (fun g hg hf => by
    obtain ⟨d, f, hd⟩ := owns_block h g hg
    exact hF g hf _ _ hd)
theorem OffN.map {w : World} {b : Nat} (h : ∃ es c, w.heap[b]? = some (.map es c)) : OffN w (fun g => g = b) := fun g e c f hg => by
  subst e
  obtain ⟨es, cl, hb⟩ := h
  rw [hb] at hg
  cases hg
theorem OffN.none (w : World) : OffN w (fun _ => False) := fun g e => e.elim
section
variable {F : Nat → Prop} {w w' : World} {b : Nat} {rows : List Rw}
theorem Inn.is (h : Inn w b rows) : ∃ es c, w.heap[b]? = some (.map es c) := by
  obtain ⟨D, hm, _⟩ := h.ex
  exact mapw_is hm
theorem Inn.lt (h : Inn w b rows) : b < w.heap.size := by
  obtain ⟨es, c, hb⟩ := h.is
  exact lt_of_block hb
theorem Inn.keeps (h : Inn w b rows) (k : Keeps F w w') (hb : ¬ F b) (hF : OffN w F) : Inn w' b rows := by
  obtain ⟨D, h1, h2, h3, h4⟩ := h.ex
  exact ⟨⟨D, mapw_keeps h1 k hb, h2, fun r hr => by
    obtain ⟨B, c, ho, hz⟩ := h3 r hr
    exact ⟨B, c, ownN_keeps ho k hF, hz⟩, h4⟩, h.nm⟩
theorem Inn.below (h : Inn w b rows) (k : Below w.heap.size w w') : Inn w' b rows := h.keeps (Keeps.of_below k (Nat.le_refl _) (fun _ => False)) (fun e => e) (OffN.none w)
theorem Inn.made (w : World) : Inn (w.alloc (.map #[] 0)) w.heap.size [] :=
  ⟨⟨.map [], World.ownsMap_made w Tryz.prog 73 RVw, rfl, fun r hr => by simp at hr, fun kl h => by simp [Maps.has] at h⟩, fun r hr => by simp at hr⟩
theorem zeroRw (w : World) : (zeroValue 55).run Tryz.prog w = .ok (rowVal zeroR none 0) w := by kernel_rfl
theorem Inn.len (h : Inn w b rows) (ty : TypeId) : (Builtin.len_ #[64] ty #[.map (some b)]).run Tryz.prog w = .ok (.int .i64 (rows.length : Nat)) w := by
  obtain ⟨D, h1, h2, _⟩ := h.ex
  rw [← h2]
  exact h1.len Tryz.underlying64 ty
theorem Inn.look_some (h : Inn w b rows) {n : Nm} (hn : NmOk n) {r : Rw} (hg : getW n rows = some r) :
    ∃ B c, OwnN w 0 B c r.bks ∧ (Instr.lookup 64 (.map (some b)) (nmV n) true).run Tryz.prog w = .ok (.tuple #[rowVal r B c, .bool true]) w := by
  obtain ⟨D, h1, h2, h3, h4⟩ := h.ex
  obtain ⟨hr, e⟩ := getW_mem hg
  obtain ⟨B, c, ho, hz⟩ := h3 r hr
  rw [e] at hz
  obtain ⟨v, ps, hrun, hv⟩ := h1.look_ok keyedP Tryz.underlying64 (zeroRw w) (zd := .held (rowVal zeroR none 0)) (zp := []) rfl (key_p hn)
  rw [hz] at hv
  rw [Maps.has_true_of_atKey hz, held_w hv] at hrun
  exact ⟨B, c, ho, hrun⟩
theorem Inn.has_not {D : DataW Value} {n : Nm} (hn : NmOk n) (nm : ∀ r ∈ rows, NmOk (nmR r)) (h4 : ∀ kl, Maps.has D kl = true → ∃ r ∈ rows, kl = klP (nmR r)) (hg : getW n rows = none) : Maps.has D (klP n) = false := by
  cases e : Maps.has D (klP n) with
  | false => rfl
  | true =>
    obtain ⟨r, hr, k⟩ := h4 _ e
    exact absurd (klP_inj hn (nm r hr) k).symm (getW_none.1 hg r hr)
theorem Inn.look_none (h : Inn w b rows) {n : Nm} (hn : NmOk n) (hg : getW n rows = none) :
    (Instr.lookup 64 (.map (some b)) (nmV n) true).run Tryz.prog w = .ok (.tuple #[rowVal zeroR none 0, .bool false]) w := by
  obtain ⟨D, h1, h2, h3, h4⟩ := h.ex
  have hh := Inn.has_not hn h.nm h4 hg
  obtain ⟨v, ps, hrun, hv⟩ := h1.look_ok keyedP Tryz.underlying64 (zeroRw w) (zd := .held (rowVal zeroR none 0)) (zp := []) rfl (key_p hn)
  rw [Maps.atKey_of_not_has hh] at hv
  rw [hh, held_w hv] at hrun
  exact hrun
/-- The row of this name, as it has become, among the others. -/
theorem put_mem {n : Nm} {v : Int} (hu : RowsUp rows) {r : Rw} (hr : r ∈ putW n v rows) : (nmR r = n ∧ r = newW n v (getW n rows)) ∨ (nmR r ≠ n ∧ r ∈ rows) := by
  by_cases e : nmR r = n
  · have h1 := getW_of (putW_up hu) hr e
    rw [getW_put hu] at h1
    cases h1
    exact .inl ⟨e, rfl⟩
  · have h1 := getW_of (putW_up (n := n) (v := v) hu) hr rfl
    rw [getW_put_other e] at h1
    exact .inr ⟨e, (getW_mem h1).1⟩
theorem mem_put {n : Nm} {v : Int} (hu : RowsUp rows) {r : Rw} (hr : r ∈ rows) (hn : nmR r ≠ n) : r ∈ putW n v rows := by
  have h1 := getW_of hu hr rfl
  rw [← getW_put_other (v := v) hn] at h1
  exact (getW_mem h1).1
theorem new_mem (n : Nm) (v : Int) (hu : RowsUp rows) : newW n v (getW n rows) ∈ putW n v rows := (getW_mem (getW_put (v := v) hu)).1
theorem new_nm (n : Nm) (v : Int) : ∀ o : Option Rw, (∀ r, o = some r → nmR r = n) → nmR (newW n v o) = n
  | none, _ => rfl
  | some r, h => h r rfl
theorem Inn.store (h : Inn w b rows) (hu : RowsUp rows) (hl : rows.length ≤ 1000) {n : Nm} (hn : NmOk n) {v : Int} {r : Rw} (hr : r = newW n v (getW n rows)) {B : Option Addr} {c : Nat} (ho : OwnN w 0 B c r.bks) :
    ∃ w', (Instr.mapUpdate 64 (.map (some b)) (nmV n) (rowVal r B c)).run Tryz.prog w = .ok () w' ∧ Inn w' b (putW n v rows) ∧ w.mapTurned w' b := by
  obtain ⟨D, h1, h2, h3, h4⟩ := h.ex
  have hrn : nmR r = n := by rw [hr]; exact new_nm n v _ (fun q hq => (getW_mem hq).2)
  obtain ⟨w', hrun, hm, ht⟩ := h1.store keyedP Tryz.underlying64 (by unfold maxLen; omega) (key_p hn) (d := .held (rowVal r B c)) (ps := []) rfl
  have hk := mapw_turned ht
  have hF := OffN.map h.is
  have hsz : Maps.size (D.put (klP n) (.held (rowVal r B c))) = (putW n v rows).length := by
    rw [Maps.size_put (h1.tidy keyedP), putW_length hu, h2]
    cases hg : getW n rows with
    | none => rw [Inn.has_not hn h.nm h4 hg]; simp
    | some q =>
      obtain ⟨hq, e⟩ := getW_mem hg
      obtain ⟨_, _, _, hz⟩ := h3 q hq
      rw [e] at hz
      rw [Maps.has_true_of_atKey hz]; simp
  refine ⟨w', hrun, ⟨⟨_, hsz ▸ mapw_tight hm, hsz, fun q hq => ?_, fun kl hkl => ?_⟩, fun q hq => ?_⟩, ht⟩
  · rcases put_mem hu hq with ⟨e1, e2⟩ | ⟨e1, e2⟩
    · rw [← hr] at e2
      subst e2
      exact ⟨B, c, ownN_keeps ho hk hF, fun z => by rw [e1]; exact Maps.atKey_put_same h1.isMap (klP_key hn) _ z⟩
    · obtain ⟨B', c', ho', hz'⟩ := h3 q e2
      exact ⟨B', c', ownN_keeps ho' hk hF, fun z => by rw [Maps.atKey_put_other (fun e => e1 (klP_inj (h.nm q e2) hn e))]; exact hz' z⟩
  · by_cases e : kl = klP n
    · exact ⟨r, by rw [hr]; exact new_mem n v hu, by rw [hrn]; exact e⟩
    · rw [Maps.has_put_other e] at hkl
      obtain ⟨q, hq, e'⟩ := h4 kl hkl
      exact ⟨q, mem_put hu hq (fun e2 => e (by rw [e', e2])), e'⟩
  · rcases put_mem hu hq with ⟨e1, _⟩ | ⟨_, e2⟩
    · rw [e1]; exact hn
    · exact h.nm q e2
end

/-! ### the open windows -/
structure Outm (w : World) (bm : Nat) (l : List PtW) (blk : Int → Nat) : Prop where
  ex : ∃ D, w.ownsMap Tryz.prog 2 RVw bm (startsW l).length D ∧ Maps.size D = (startsW l).length ∧
    (∀ s ∈ startsW l, ∀ z, D.atKey (zL s) z = .held (.map (some (blk s)))) ∧ ∀ kl, Maps.has D kl = true → ∃ s ∈ startsW l, kl = zL s
  inn : ∀ s ∈ startsW l, Inn w (blk s) (rowsW s l)
  off : ∀ s ∈ startsW l, blk s ≠ bm
  inj : ∀ s ∈ startsW l, ∀ s' ∈ startsW l, blk s = blk s' → s = s'
  rng : ∀ s ∈ startsW l, In64 s
section
variable {F : Nat → Prop} {w w' : World} {bm : Nat} {l : List PtW} {blk : Int → Nat}
theorem Outm.is (h : Outm w bm l blk) : ∃ es c, w.heap[bm]? = some (.map es c) := by
  obtain ⟨D, hm, _⟩ := h.ex
  exact mapw_is hm
theorem Outm.lt (h : Outm w bm l blk) : bm < w.heap.size := by
  obtain ⟨es, c, hb⟩ := h.is
  exact lt_of_block hb
theorem Outm.keeps (h : Outm w bm l blk) (k : Keeps F w w') (hb : ¬ F bm) (hB : ∀ s ∈ startsW l, ¬ F (blk s)) (hF : OffN w F) : Outm w' bm l blk := by
  obtain ⟨D, h1, r⟩ := h.ex
  exact ⟨⟨D, mapw_keeps h1 k hb, r⟩, fun s hs => (h.inn s hs).keeps k (hB s hs) hF, h.off, h.inj, h.rng⟩
theorem Outm.below (h : Outm w bm l blk) (k : Below w.heap.size w w') : Outm w' bm l blk := h.keeps (Keeps.of_below k (Nat.le_refl _) (fun _ => False)) (fun e => e) (fun _ _ e => e) (OffN.none w)
theorem Outm.made (w : World) (blk : Int → Nat) : Outm (w.alloc (.map #[] 0)) w.heap.size [] blk :=
  ⟨⟨.map [], World.ownsMap_made w Tryz.prog 2 RVw, rfl, fun s hs => by simp [startsW] at hs, fun kl h => by simp [Maps.has] at h⟩, fun s hs => by simp [startsW] at hs, fun s hs => by simp [startsW] at hs, fun s hs => by simp [startsW] at hs, fun s hs => by simp [startsW] at hs⟩
theorem Outm.len (h : Outm w bm l blk) (ty : TypeId) : (Builtin.len_ #[57] ty #[.map (some bm)]).run Tryz.prog w = .ok (.int .i64 ((startsW l).length : Nat)) w := by
  obtain ⟨D, h1, h2, _⟩ := h.ex
  rw [← h2]
  exact h1.len Tryz.underlying57 ty
theorem zeroMw (w : World) : (zeroValue 64).run Tryz.prog w = .ok (.map none) w := by kernel_rfl
theorem Outm.has_not {D : DataW Value} {s : Int} (h4 : ∀ kl, Maps.has D kl = true → ∃ s ∈ startsW l, kl = zL s) (hs : s ∉ startsW l) : Maps.has D (zL s) = false := by
  cases e : Maps.has D (zL s) with
  | false => rfl
  | true =>
    obtain ⟨x, hx, k⟩ := h4 _ e
    exact absurd (zL_inj k ▸ hx) hs
theorem Outm.look_some (h : Outm w bm l blk) {s : Int} (hs : s ∈ startsW l) :
    (Instr.lookup 57 (.map (some bm)) (.int .i64 s) true).run Tryz.prog w = .ok (.tuple #[.map (some (blk s)), .bool true]) w := by
  obtain ⟨D, h1, h2, h3, h4⟩ := h.ex
  have hz := h3 s hs
  obtain ⟨v, ps, hrun, hv⟩ := h1.look_ok keyedZ Tryz.underlying57 (zeroMw w) (zd := .held (.map none)) (zp := []) rfl (key_z (h.rng s hs))
  rw [hz] at hv
  rw [Maps.has_true_of_atKey hz, held_w hv] at hrun
  exact hrun
theorem Outm.look_plain (h : Outm w bm l blk) {s : Int} (hs : s ∈ startsW l) :
    (Instr.lookup 57 (.map (some bm)) (.int .i64 s) false).run Tryz.prog w = .ok (.map (some (blk s))) w := by
  obtain ⟨D, h1, h2, h3, h4⟩ := h.ex
  obtain ⟨v, ps, hrun, hv⟩ := h1.lookup keyedZ Tryz.underlying57 (zeroMw w) (zd := .held (.map none)) (zp := []) rfl (key_z (h.rng s hs))
  rw [h3 s hs] at hv
  rw [held_w hv] at hrun
  exact hrun
theorem Outm.look_none (h : Outm w bm l blk) {s : Int} (hs : s ∉ startsW l) (hr : In64 s) :
    (Instr.lookup 57 (.map (some bm)) (.int .i64 s) true).run Tryz.prog w = .ok (.tuple #[.map none, .bool false]) w := by
  obtain ⟨D, h1, h2, h3, h4⟩ := h.ex
  have hh := Outm.has_not h4 hs
  obtain ⟨v, ps, hrun, hv⟩ := h1.look_ok keyedZ Tryz.underlying57 (zeroMw w) (zd := .held (.map none)) (zp := []) rfl (key_z hr)
  rw [Maps.atKey_of_not_has hh] at hv
  rw [hh, held_w hv] at hrun
  exact hrun
/-- A value has come to a window that is open. -/
theorem Outm.come (h : Outm w bm l blk) {p : PtW} (hs : p.start ∈ startsW l) (k : Keeps (fun g => g = blk p.start) w w') (hi : Inn w' (blk p.start) (putW p.nm p.val (rowsW p.start l))) : Outm w' bm (l ++ [p]) blk := by
  obtain ⟨D, h1, h2, h3, h4⟩ := h.ex
  have e : startsW (l ++ [p]) = startsW l := by rw [starts_next, insW_in (starts_up l) hs]
  refine ⟨?_, fun s hs' => ?_, ?_, ?_, ?_⟩
  · rw [e]; exact ⟨D, mapw_keeps h1 k (fun e => h.off _ hs e.symm), h2, h3, h4⟩
  · rw [e] at hs'
    by_cases c : p.start = s
    · subst c; rw [rows_same rfl]; exact hi
    · rw [rows_other c]
      exact (h.inn s hs').keeps k (fun e' => c (h.inj _ hs' _ hs e').symm) (OffN.map (h.inn _ hs).is)
  · rw [e]; exact h.off
  · rw [e]; exact h.inj
  · rw [e]; exact h.rng
/-- A window is opened, its map laid already. -/
theorem Outm.opens (h : Outm w bm l blk) {s : Int} (hs : s ∉ startsW l) (hr : In64 s) (hl : l.length ≤ 1000) (g : Nat) :
    ∃ w', (Instr.mapUpdate 57 (.map (some bm)) (.int .i64 s) (.map (some g))).run Tryz.prog w = .ok () w' ∧ w.mapTurned w' bm ∧
      ∀ w2 (F : Nat → Prop) (n : Nm) (v : Int), Keeps F w' w2 → ¬ F bm → (∀ x ∈ startsW l, ¬ F (blk x)) → OffN w' F → (∀ x ∈ startsW l, blk x ≠ g) → g ≠ bm → Inn w2 g (putW n v []) → Outm w2 bm (l ++ [⟨s, n, v⟩]) (fun x => if x = s then g else blk x) := by
  obtain ⟨D, h1, h2, h3, h4⟩ := h.ex
  have hle := starts_le l
  obtain ⟨w', hrun, hm, ht⟩ := h1.store keyedZ Tryz.underlying57 (by unfold maxLen; omega) (key_z hr) (d := .held (.map (some g))) (ps := []) rfl
  refine ⟨w', hrun, ht, fun w2 F n v k2 hFm hFb hFN hb hgm hi => ?_⟩
  have k1 := mapw_turned ht
  have hlen : (startsW (l ++ [⟨s, n, v⟩])).length = (startsW l).length + 1 := by rw [starts_len_next, if_neg hs]
  have hsz : Maps.size (D.put (zL s) (.held (.map (some g)))) = (startsW (l ++ [⟨s, n, v⟩])).length := by
    rw [Maps.size_put (h1.tidy keyedZ), Outm.has_not h4 hs, h2, hlen]; simp
  have hmem : ∀ x, x ∈ startsW (l ++ [⟨s, n, v⟩]) ↔ x = s ∨ x ∈ startsW l := fun x => by rw [starts_next]; exact insW_mem
  have hne : ∀ x, x ∈ startsW l → x ≠ s := fun x hx e => hs (e ▸ hx)
  refine ⟨⟨_, hsz ▸ mapw_keeps (mapw_tight hm) k2 hFm, hsz, fun x hx z => ?_, fun kl hkl => ?_⟩, fun x hx => ?_, fun x hx => ?_, fun x hx y hy hxy => ?_, fun x hx => ?_⟩
  · rcases (hmem x).1 hx with rfl | hx
    · simp only [if_pos]; exact Maps.atKey_put_same h1.isMap (zL_key _) _ z
    · simp only [if_neg (hne x hx)]
      rw [Maps.atKey_put_other (fun e => hne x hx (zL_inj e))]
      exact h3 x hx z
  · by_cases e : kl = zL s
    · exact ⟨s, (hmem s).2 (.inl rfl), e⟩
    · rw [Maps.has_put_other e] at hkl
      obtain ⟨q, hq, e'⟩ := h4 kl hkl
      exact ⟨q, (hmem q).2 (.inr hq), e'⟩
  · rcases (hmem x).1 hx with rfl | hx1
    · simp only [if_pos]
      rw [rows_same (p := ⟨x, n, v⟩) rfl, rows_none.2 hs]
      exact hi
    · simp only [if_neg (hne x hx1)]
      rw [rows_other (p := ⟨s, n, v⟩) (fun e => hne x hx1 e.symm)]
      exact ((h.inn x hx1).keeps k1 (h.off x hx1) (OffN.map h.is)).keeps k2 (hFb x hx1) hFN
  · rcases (hmem x).1 hx with rfl | hx1
    · simp only [if_pos]; exact hgm
    · simp only [if_neg (hne x hx1)]; exact h.off x hx1
  · by_cases ex : x = s
    · by_cases ey : y = s
      · rw [ex, ey]
      · have hy1 := ((hmem y).1 hy).resolve_left ey
        rw [if_pos ex, if_neg ey] at hxy
        exact absurd hxy.symm (hb y hy1)
    · have hx1 := ((hmem x).1 hx).resolve_left ex
      by_cases ey : y = s
      · rw [if_pos ey, if_neg ex] at hxy
        exact absurd hxy (hb x hx1)
      · rw [if_neg ex, if_neg ey] at hxy
        exact h.inj x hx1 y (((hmem y).1 hy).resolve_left ey) hxy
  · rcases (hmem x).1 hx with rfl | hx1
    · exact hr
    · exact h.rng x hx1
/-- The first window is taken out. -/
theorem Outm.drop (h : Outm w bm l blk) {s : Int} {K : List Int} (hs : startsW l = s :: K) (ty : TypeId) :
    ∃ w', (Builtin.delete_ #[57, 2] ty #[.map (some bm), .int .i64 s]).run Tryz.prog w = .ok (.tuple #[]) w' ∧ w.mapTurned w' bm ∧ Outm w' bm (leftW s l) blk := by
  obtain ⟨D, h1, h2, h3, h4⟩ := h.ex
  have hin : s ∈ startsW l := by rw [hs]; simp
  obtain ⟨w', hrun, hm, ht⟩ := h1.drop keyedZ Tryz.underlying57 (key_z (h.rng s hin)) ty
  have k1 := mapw_turned ht
  have hl := left_starts hs
  have hu := starts_up l
  rw [hs] at hu
  obtain ⟨u1, _⟩ := List.pairwise_cons.1 hu
  have sub : ∀ x ∈ K, x ∈ startsW l ∧ x ≠ s := fun x hx => ⟨by rw [hs]; simp [hx], fun e => by have := u1 x hx; omega⟩
  have hsz : Maps.size (D.del (zL s)) = K.length := by
    have := Maps.size_del (k := zL s) (h1.tidy keyedZ)
    rw [Maps.has_true_of_atKey (h3 s hin), h2, hs] at this
    simp at this
    exact this
  refine ⟨w', hrun, ht, ⟨?_, fun x hx => ?_, fun x hx => ?_, fun x hx y hy hxy => ?_, fun x hx => ?_⟩⟩
  · rw [hl]
    refine ⟨_, hsz ▸ mapw_tight hm, hsz, fun x hx z => ?_, fun kl hkl => ?_⟩
    · rw [Maps.atKey_del_other (fun e => (sub x hx).2 (zL_inj e))]
      exact h3 x (sub x hx).1 z
    · by_cases e : kl = zL s
      · rw [e, Maps.has_del_same] at hkl; cases hkl
      · rw [Maps.has_del_other e] at hkl
        obtain ⟨q, hq, e'⟩ := h4 kl hkl
        rw [hs] at hq
        rcases List.mem_cons.1 hq with rfl | hq
        · exact absurd e' e
        · exact ⟨q, hq, e'⟩
  · rw [hl] at hx
    rw [left_rows (sub x hx).2]
    exact (h.inn x (sub x hx).1).keeps k1 (h.off x (sub x hx).1) (OffN.map h.is)
  · rw [hl] at hx; exact h.off x (sub x hx).1
  · rw [hl] at hx hy; exact h.inj x (sub x hx).1 y (sub y hy).1 hxy
  · rw [hl] at hx; exact h.rng x (sub x hx).1
end

/-! ### the table -/
def tabCells (t : Tb) (bm : Nat) : Array Value := #[.int .i64 t.wd, .int .i64 t.wi, .int .i64 t.ro, .int .i64 t.sq, .map (some bm)]
/-- A table of the program behind a pointer, its blocks from N on. -/
structure Tq (N : Nat) (w : World) (a bm : Nat) (t : Tb) (l : List PtW) (blk : Int → Nat) : Prop where
  cel : w.heap[a]? = some (.cells (tabCells t bm) 59 (0, 0))
  out : Outm w bm l blk
  na : N ≤ a
  nb : N ≤ bm
  ns : ∀ s ∈ startsW l, N ≤ blk s
/-- A block that a table may turn. -/
def MutW (N : Nat) (w : World) (g : Nat) : Prop := N ≤ g ∧ ((∃ es c, w.heap[g]? = some (.map es c)) ∨ ∃ c f, w.heap[g]? = some (.cells c 59 f))
/-- What a table's calls leave alone. -/
abbrev Kq (N : Nat) (w w' : World) : Prop := Keeps (MutW N w) w w'
section
variable {N : Nat} {F : Nat → Prop} {w w1 w2 w' : World} {a bm : Nat} {t : Tb} {l : List PtW} {blk : Int → Nat}
theorem Kq.trans (h : Kq N w w1) (k : Kq N w1 w2) : Kq N w w2 := Keeps.trans h k (fun g hg => by
  by_cases hs : w.heap.size ≤ g
  · exact .inr hs
  · by_cases hm : MutW N w g
    · exact .inl hm
    · have e := h.block g (by omega) hm
      unfold MutW at hg hm
      rw [e] at hg
      exact absurd hg hm)
theorem Kq.below (h : Below w.heap.size w w') : Kq N w w' := Keeps.of_below h (Nat.le_refl _) _
theorem Kq.map {b : Nat} (hb : N ≤ b) (hm : ∃ es c, w.heap[b]? = some (.map es c)) (h : Keeps (fun g => g = b) w w') : Kq N w w' := h.wide (fun g e _ => by subst e; exact ⟨hb, .inl hm⟩)
theorem MutW.off : OffN w (MutW N w) := fun g hg c f e => by
  rcases hg.2 with ⟨es, cl, h⟩ | ⟨c', f', h⟩
  · rw [h] at e; cases e
  · rw [h] at e
    have : (59 : TypeId) = 51 := by injection e with e; injection e
    exact absurd this (by decide)
theorem Tq.c0 (h : Tq N w a bm t l blk) : w.cell? ⟨a, 0, none⟩ = some (.int .i64 t.wd) := cell_of_block h.cel
theorem Tq.c1 (h : Tq N w a bm t l blk) : w.cell? ⟨a, 1, none⟩ = some (.int .i64 t.wi) := cell_of_block h.cel
theorem Tq.c2 (h : Tq N w a bm t l blk) : w.cell? ⟨a, 2, none⟩ = some (.int .i64 t.ro) := cell_of_block h.cel
theorem Tq.c3 (h : Tq N w a bm t l blk) : w.cell? ⟨a, 3, none⟩ = some (.int .i64 t.sq) := cell_of_block h.cel
theorem Tq.c4 (h : Tq N w a bm t l blk) : w.cell? ⟨a, 4, none⟩ = some (.map (some bm)) := cell_of_block h.cel
theorem Tq.fr (h : Tq N w a bm t l blk) (o : Nat) : w.frozen? ⟨a, o, none⟩ = false := frozen_of_block h.cel
theorem Tq.lt (h : Tq N w a bm t l blk) : a < w.heap.size := lt_of_block h.cel
theorem Tq.ne (h : Tq N w a bm t l blk) {g : Nat} (hg : ∃ es c, w.heap[g]? = some (.map es c)) : a ≠ g := fun e => by
  subst e
  obtain ⟨es, c, hg⟩ := hg
  rw [h.cel] at hg
  cases hg
theorem Tq.keeps (h : Tq N w a bm t l blk) (k : Keeps F w w') (ha : ¬ F a) (hb : ¬ F bm) (hB : ∀ s ∈ startsW l, ¬ F (blk s)) (hF : OffN w F) : Tq N w' a bm t l blk :=
  ⟨by rw [k.block a h.lt ha]; exact h.cel, h.out.keeps k hb hB hF, h.na, h.nb, h.ns⟩
theorem Tq.below (h : Tq N w a bm t l blk) (k : Below w.heap.size w w') : Tq N w' a bm t l blk := ⟨by rw [k.block a h.lt]; exact h.cel, h.out.below k, h.na, h.nb, h.ns⟩
theorem Tq.alloc (h : Tq N w a bm t l blk) (o : Obj) : Tq N (w.alloc o) a bm t l blk := h.below ((Below.refl _ _).alloc (Nat.le_refl _) _)
theorem Tq.drewN (h : Tq N w a bm t l blk) (n : Nat) : Tq N (w.drewN n) a bm t l blk := h.below (below_drewN w n)
/-- What turns no map, no table and no numbers leaves it. -/
theorem Tq.off (h : Tq N w a bm t l blk) (k : Keeps F w w') (hF : ∀ g, F g → (¬ ∃ es c, w.heap[g]? = some (.map es c)) ∧ (∀ c f, w.heap[g]? ≠ some (.cells c 59 f)) ∧ ∀ c f, w.heap[g]? ≠ some (.cells c 51 f)) : Tq N w' a bm t l blk :=
  h.keeps k (fun e => (hF a e).2.1 _ _ h.cel) (fun e => (hF bm e).1 h.out.is) (fun s hs e => (hF _ e).1 (h.out.inn s hs).is) (fun g e c f => (hF g e).2.2 c f)
/-- The number is written. -/
theorem Tq.seq (h : Tq N w a bm t l blk) (q : Int) : Tq N (w.setCell ⟨a, 3, none⟩ (.int .i64 q)) a bm { t with sq := q } l blk := by
  refine ⟨by rw [heap_set_same h.cel]; rfl, h.out.keeps (F := fun g => g = a) ((Keeps.refl _ w).set _ _ (.inl rfl)) (fun e => h.ne h.out.is e.symm) (fun s hs e => h.ne (h.out.inn s hs).is e.symm) ?_, h.na, h.nb, h.ns⟩
  intro g e c f hg
  subst e
  rw [h.cel] at hg
  injection hg with e
  injection e with _ e _
  exact absurd e (by decide)
theorem Tq.kseq (h : Tq N w a bm t l blk) (q : Int) : Kq N w (w.setCell ⟨a, 3, none⟩ (.int .i64 q)) :=
  ((Keeps.refl (fun g => g = a) w).set _ _ (.inl rfl)).wide (fun g e _ => by subst e; exact ⟨h.na, .inr ⟨_, _, h.cel⟩⟩)
end
end Go.Proofs.YtedhciolnekpaaaGreatDoor
namespace Go.Proofs.YtedhciolnekpaaaGreatDoor
open Go.ChangeShapes Go.WideShapes Go.ChangeAt Go.RowKit
set_option linter.unusedVariables false

/-- Of L these have been met, each once; left says of a key whether it is still to come. -/
structure Vis {α : Type} (L done : List α) (κ : α → Lit) (left : Lit → Bool) : Prop where
  nd : done.Nodup
  sub : ∀ x ∈ done, x ∈ L
  iff : ∀ x ∈ L, left (κ x) = true ↔ x ∉ done
  key : ∀ kl, left kl = true → ∃ x ∈ L, kl = κ x
section
variable {α : Type} {L done : List α} {κ : α → Lit} {left : Lit → Bool}
theorem Vis.start (h1 : ∀ x ∈ L, left (κ x) = true) (h2 : ∀ kl, left kl = true → ∃ x ∈ L, kl = κ x) : Vis L [] κ left :=
  ⟨List.nodup_nil, fun x h => by simp at h, fun x hx => by simp [h1 x hx], h2⟩
theorem Vis.next (h : Vis L done κ left) (hk : ∀ x ∈ L, WideAt.IsKeyLit (κ x)) (hi : ∀ x ∈ L, ∀ y ∈ L, κ x = κ y → x = y) {kl : Lit} (hl : left kl = true) :
    ∃ x, x ∈ L ∧ x ∉ done ∧ kl = κ x ∧ Vis L (done ++ [x]) κ (fun z => left z && !z.sameKey kl) := by
  obtain ⟨x, hx, rfl⟩ := h.key kl hl
  have hn := (h.iff x hx).1 hl
  refine ⟨x, hx, hn, rfl, ⟨?_, fun y hy => ?_, fun y hy => ?_, fun z hz => ?_⟩⟩
  · rw [List.nodup_append]
    exact ⟨h.nd, by simp, fun a ha b hb => by
      rw [List.mem_singleton] at hb
      subst hb
      exact fun e => hn (e ▸ ha)⟩
  · rcases List.mem_append.1 hy with hy | hy
    · exact h.sub y hy
    · rw [List.mem_singleton] at hy; subst hy; exact hx
  · simp only [Bool.and_eq_true, Bool.not_eq_true', List.mem_append, List.mem_singleton, not_or]
    rw [h.iff y hy]
    constructor
    · rintro ⟨h1, h2⟩
      exact ⟨h1, fun e => by subst e; rw [WideAt.sameKey_self (hk _ hy)] at h2; cases h2⟩
    · rintro ⟨h1, h2⟩
      exact ⟨h1, Maps.sameKey_ne (fun e => h2 (hi y hy x hx e))⟩
  · simp only [Bool.and_eq_true] at hz
    exact h.key z hz.1
theorem Vis.whole (h : Vis L done κ left) (hL : L.Nodup) (h0 : ∀ kl, left kl = false) : done.Perm L := by
  refine (List.perm_ext_iff_of_nodup h.nd hL).2 (fun x => ⟨h.sub x, fun hx => ?_⟩)
  by_cases e : x ∈ done
  · exact e
  · have := (h.iff x hx).2 e
    rw [h0] at this
    cases this
end
theorem up_nodup {l : List Int} (h : UpW l) : l.Nodup := List.Pairwise.imp (fun h e => by omega) h
theorem rows_nodup {l : List Rw} (h : RowsUp l) : l.Nodup := List.Pairwise.imp (S := fun a b => a ≠ b) (fun {a b} h e => ltW_ne h (congrArg nmR e)) h
theorem rows_inj {l : List Rw} (h : RowsUp l) {a b : Rw} (ha : a ∈ l) (hb : b ∈ l) (e : nmR a = nmR b) : a = b := by
  have h1 := getW_of h ha rfl
  have h2 := getW_of h hb rfl
  rw [e, h2] at h1
  cases h1
  rfl

theorem none_below {w w' : World} (h : w.grownBy w' none) : Below w.heap.size w w' := ⟨h.os, h.tape, h.output, h.size, fun k hk => h.block k hk (by simp)⟩
/-! ### over the open windows -/
/-- A range over them under way: these have been met. -/
structure RgO (w : World) (bm r : Nat) (l : List PtW) (blk : Int → Nat) (done : List Int) (cnt : Nat) : Prop where
  ex : ∃ n D left, w.ranges Tryz.prog 2 RVw bm r n D left cnt ∧ Vis (startsW l) done zL left ∧ ∀ s ∈ startsW l, ∀ z, D.atKey (zL s) z = .held (.map (some (blk s)))
  rng : ∀ s ∈ startsW l, In64 s
section
variable {w w' : World} {bm r : Nat} {l : List PtW} {blk : Int → Nat} {done : List Int} {cnt : Nat}
theorem Outm.range (h : Outm w bm l blk) : ∃ w', (Instr.range 57 (.map (some bm))).run Tryz.prog w = .ok (.pointer (some ⟨w.heap.size, 0, none⟩)) w' ∧ RgO w' bm w.heap.size l blk [] (startsW l).length ∧ Below w.heap.size w w' ∧ w'.heap.size = w.heap.size + 1 := by
  obtain ⟨D, h1, h2, h3, h4⟩ := h.ex
  obtain ⟨w', hrun, hr, hg, hs⟩ := h1.range keyedZ Tryz.underlying57
  refine ⟨w', hrun, ⟨⟨_, D, _, h2 ▸ hr, Vis.start (fun s hs => Maps.has_true_of_atKey (h3 s hs)) h4, h3⟩, h.rng⟩, (none_below hg), hs⟩
theorem RgO.below (h : RgO w bm r l blk done cnt) (k : Below w.heap.size w w') : RgO w' bm r l blk done cnt := by
  obtain ⟨n, D, left, hr, hv, ha⟩ := h.ex
  exact ⟨⟨n, D, left, hr.kept (row := none) (grown_of k) (by simp) (by simp), hv, ha⟩, h.rng⟩
theorem RgO.left (h : RgO w bm r l blk done cnt) : w.rangeLeft bm r = cnt := by
  obtain ⟨n, D, left, hr, _⟩ := h.ex
  exact hr.left_eq
/-- The next one. -/
inductive NextO (w : World) (bm r : Nat) (l : List PtW) (blk : Int → Nat) (done : List Int) (cnt : Nat) : Prop
  | done (hp : done.Perm (startsW l)) (hrun : (Instr.next (.pointer (some ⟨r, 0, none⟩)) false 0).run Tryz.prog w = .ok (.tuple #[.bool false]) w)
  | more (s : Int) (w' : World) (cnt' : Nat) (hs : s ∈ startsW l) (hn : s ∉ done) (hrun : (Instr.next (.pointer (some ⟨r, 0, none⟩)) false 0).run Tryz.prog w = .ok (.tuple #[.bool true, .int .i64 s, .map (some (blk s))]) w')
      (hg : RgO w' bm r l blk (done ++ [s]) cnt') (hc : cnt' < cnt) (hw : w.grownBy w' (some r)) (hz : w'.heap.size = w.heap.size) (he : (Instr.entry (.pointer (some ⟨r, 0, none⟩))).run Tryz.prog w' = .ok (.tuple #[.int .i64 s, .map (some (blk s))]) w')
theorem RgO.next (h : RgO w bm r l blk done cnt) : NextO w bm r l blk done cnt := by
  obtain ⟨n, D, left, hr, hv, ha⟩ := h.ex
  rcases hr.next keyedZ 0 with ⟨h0, hl, hrun⟩ | ⟨key, v, kl, y, w', cnt', hkey, hlk, hRv, hat, hrun, hrg, hlt, hgr, hsz, hen⟩
  · exact .done (hv.whole (up_nodup (starts_up l)) hl) hrun
  · obtain ⟨s, hs, hn, rfl, hv'⟩ := hv.next (fun x _ => zL_key x) (fun x _ y _ e => zL_inj e) hlk
    have e1 : key = .int .i64 s := Maps.Keyed.inj keyedZ hkey (key_z (h.rng s hs))
    have e2 : v = .map (some (blk s)) := by
      have := hat .nil
      rw [ha s hs] at this
      unfold RVw at hRv
      cases hRv
      cases this
      rfl
    subst e1 e2
    exact .more s w' cnt' hs hn hrun ⟨⟨n, D, _, hrg, hv', ha⟩, h.rng⟩ hlt hgr hsz hen
end

/-! ### over a window's rows -/
structure RgI (w : World) (b r : Nat) (rows : List Rw) (done : List Rw) (cnt : Nat) : Prop where
  ex : ∃ n D left, w.ranges Tryz.prog 73 RVw b r n D left cnt ∧ Vis rows done (fun x => klP (nmR x)) left ∧ ∀ x ∈ rows, ∃ B c, OwnN w 0 B c x.bks ∧ ∀ z, D.atKey (klP (nmR x)) z = .held (rowVal x B c)
  nm : ∀ x ∈ rows, NmOk (nmR x)
section
variable {w w' : World} {b r : Nat} {rows : List Rw} {done : List Rw} {cnt : Nat}
theorem Inn.range (h : Inn w b rows) : ∃ w', (Instr.range 64 (.map (some b))).run Tryz.prog w = .ok (.pointer (some ⟨w.heap.size, 0, none⟩)) w' ∧ RgI w' b w.heap.size rows [] rows.length ∧ Below w.heap.size w w' ∧ w'.heap.size = w.heap.size + 1 := by
  obtain ⟨D, h1, h2, h3, h4⟩ := h.ex
  obtain ⟨w', hrun, hr, hg, hs⟩ := h1.range keyedP Tryz.underlying64
  refine ⟨w', hrun, ⟨⟨_, D, _, h2 ▸ hr, Vis.start (fun x hx => by obtain ⟨B, c, _, hz⟩ := h3 x hx; exact Maps.has_true_of_atKey hz) h4, fun x hx => ?_⟩, h.nm⟩, (none_below hg), hs⟩
  obtain ⟨B, c, ho, hz⟩ := h3 x hx
  exact ⟨B, c, owns_below ho (none_below hg), hz⟩
theorem RgI.below (h : RgI w b r rows done cnt) (k : Below w.heap.size w w') : RgI w' b r rows done cnt := by
  obtain ⟨n, D, left, hr, hv, ha⟩ := h.ex
  exact ⟨⟨n, D, left, hr.kept (row := none) (grown_of k) (by simp) (by simp), hv, fun x hx => by obtain ⟨B, c, ho, hz⟩ := ha x hx; exact ⟨B, c, owns_below ho k, hz⟩⟩, h.nm⟩
/-- A row of one's own, of rows, grows beside it. -/
theorem RgI.grown (h : RgI w b r rows done cnt) {q : Option Nat} (k : w.grownBy w' q) (hq : ∀ g, q = some g → ∃ c f, w.heap[g]? = some (.cells c 55 f)) : RgI w' b r rows done cnt := by
  obtain ⟨n, D, left, hr, hv, ha⟩ := h.ex
  have hb : ∀ g, q = some g → ¬ (∃ es c, w.heap[g]? = some (.map es c)) := fun g hg ⟨es, c, e⟩ => by
    obtain ⟨c', f, hc⟩ := hq g hg
    rw [hc] at e; cases e
  have hm := mapw_is hr.owns
  have hi : ∃ a b c d, w.heap[r]? = some (.mapIter a b c d) := by
    obtain ⟨es, clock, since, seen, c0, _, _, _, _, hr', _⟩ := hr
    exact ⟨_, _, _, _, hr'⟩
  refine ⟨⟨n, D, left, hr.kept k (fun e => hb b e.symm hm) (fun e => ?_), hv, fun x hx => ?_⟩, h.nm⟩
  · obtain ⟨c', f, hc⟩ := hq r e.symm
    obtain ⟨_, _, _, _, hi⟩ := hi
    rw [hc] at hi; cases hi
  · obtain ⟨B, c, ho, hz⟩ := ha x hx
    refine ⟨B, c, owns_kept ho k (fun g hg => .inr ?_), hz⟩
    obtain ⟨c', f, hc⟩ := hq g hg
    exact ⟨c', f, _, hc, by decide⟩
theorem RgI.left (h : RgI w b r rows done cnt) : w.rangeLeft b r = cnt := by
  obtain ⟨n, D, left, hr, _⟩ := h.ex
  exact hr.left_eq
inductive NextI (w : World) (b r : Nat) (rows : List Rw) (done : List Rw) (cnt : Nat) : Prop
  | done (hp : done.Perm rows) (hrun : (Instr.next (.pointer (some ⟨r, 0, none⟩)) false 0).run Tryz.prog w = .ok (.tuple #[.bool false]) w)
  | more (x : Rw) (B : Option Addr) (c : Nat) (w' : World) (cnt' : Nat) (hs : x ∈ rows) (hn : x ∉ done) (ho : OwnN w' 0 B c x.bks) (hrun : (Instr.next (.pointer (some ⟨r, 0, none⟩)) false 0).run Tryz.prog w = .ok (.tuple #[.bool true, nmV (nmR x), rowVal x B c]) w')
      (hg : RgI w' b r rows (done ++ [x]) cnt') (hc : cnt' < cnt) (hw : w.grownBy w' (some r)) (hz : w'.heap.size = w.heap.size) (he : (Instr.entry (.pointer (some ⟨r, 0, none⟩))).run Tryz.prog w' = .ok (.tuple #[nmV (nmR x), rowVal x B c]) w')
theorem RgI.next (h : RgI w b r rows done cnt) (hu : RowsUp rows) : NextI w b r rows done cnt := by
  obtain ⟨n, D, left, hr, hv, ha⟩ := h.ex
  have hi : ∃ a b c d, w.heap[r]? = some (.mapIter a b c d) := by
    obtain ⟨es, clock, since, seen, c0, _, _, _, _, hr', _⟩ := hr
    exact ⟨_, _, _, _, hr'⟩
  rcases hr.next keyedP 0 with ⟨h0, hl, hrun⟩ | ⟨key, v, kl, y, w', cnt', hkey, hlk, hRv, hat, hrun, hrg, hlt, hgr, hsz, hen⟩
  · exact .done (hv.whole (rows_nodup hu) hl) hrun
  · obtain ⟨x, hx, hn, rfl, hv'⟩ := hv.next (fun x hx => klP_key (h.nm x hx)) (fun x hx y hy e => rows_inj hu hx hy (klP_inj (h.nm x hx) (h.nm y hy) e)) hlk
    have own : ∀ q ∈ rows, ∃ B c, OwnN w' 0 B c q.bks ∧ ∀ z, D.atKey (klP (nmR q)) z = .held (rowVal q B c) := fun q hq => by
      obtain ⟨B, c, ho, hz⟩ := ha q hq
      refine ⟨B, c, ownN_keeps ho (Keeps.of_grown hgr (F := fun g => g = r) (fun g e => by cases e; rfl)) (fun g e d f hg => ?_), hz⟩
      subst e
      obtain ⟨_, _, _, _, hi⟩ := hi
      rw [hi] at hg; cases hg
    obtain ⟨B, c, ho, hz⟩ := own x hx
    have e1 : key = nmV (nmR x) := key_inj hkey (key_p (h.nm x hx))
    have e2 : v = rowVal x B c := by
      have := hat .nil
      rw [hz] at this
      unfold RVw at hRv
      cases hRv
      cases this
      rfl
    subst e1 e2
    exact .more x B c w' cnt' hx hn ho hrun ⟨⟨n, D, _, hrg, hv', own⟩, h.nm⟩ hlt hgr hsz hen
end
end Go.Proofs.YtedhciolnekpaaaGreatDoor
namespace Go.Proofs.YtedhciolnekpaaaGreatDoor
open Go.ChangeShapes Go.WideShapes Go.ChangeAt Go.RowKit
set_option linter.unusedVariables false

/-- May a table be? -/
structure GoodT (t : Tb) : Prop where
  w1 : 1 ≤ t.wd
  w2 : t.wd ≤ 1099511627776
  i1 : 1 ≤ t.wi
  i2 : t.wi ≤ 100
  r1 : 1 ≤ t.ro
  r2 : t.ro ≤ 200
  s1 : 0 ≤ t.sq
  s2 : t.sq ≤ 1000000
/-- .. its next number aside. -/
structure GoodU (t : Tb) : Prop where
  w1 : 1 ≤ t.wd
  w2 : t.wd ≤ 1099511627776
  i1 : 1 ≤ t.wi
  i2 : t.wi ≤ 100
  r1 : 1 ≤ t.ro
  r2 : t.ro ≤ 200
theorem GoodT.u {t : Tb} (h : GoodT t) : GoodU t := ⟨h.w1, h.w2, h.i1, h.i2, h.r1, h.r2⟩
theorem GoodU.seq {t : Tb} (h : GoodU t) (q : Int) : GoodU { t with sq := q } := ⟨h.w1, h.w2, h.i1, h.i2, h.r1, h.r2⟩
/-- How many windows are due. -/
def dueW (wd mark : Int) (l : List Int) : Nat := (l.filter (fun s => decide (s + wd ≤ mark))).length
theorem due_next {wd mark s : Int} {l : List Int} {i : Nat} (h : l[i]? = some s) : dueW wd mark (l.take (i + 1)) = dueW wd mark (l.take i) + (if s + wd ≤ mark then 1 else 0) := by
  unfold dueW
  rw [List.take_add_one, h, List.filter_append, List.length_append]
  by_cases c : s + wd ≤ mark
  · rw [if_pos c]; simp [c]
  · rw [if_neg c]; simp [c]
theorem due_le (wd mark : Int) (l : List Int) : dueW wd mark l ≤ l.length := List.length_filter_le _ _
theorem sumR_next {f : Int → Nat} {s : Int} {l : List Int} {i : Nat} (h : l[i]? = some s) : ((l.take (i + 1)).map f).sum = ((l.take i).map f).sum + f s := by
  rw [List.take_add_one, h, List.map_append, List.sum_append]
  simp
theorem starts_bd {l : List PtW} {b : Int} (h : ∀ p ∈ l, 0 ≤ p.start ∧ p.start ≤ b) : ∀ s ∈ startsW l, 0 ≤ s ∧ s ≤ b := fun s hs => by
  obtain ⟨p, hp, rfl⟩ := (starts_mem l).1 hs
  exact h p hp
theorem not_goodT {t : Tb} (h : ¬ GoodT t) : ¬ 1 ≤ t.wd ∨ (1 ≤ t.wd ∧ ¬ t.wd ≤ 1099511627776) ∨ (1 ≤ t.wd ∧ t.wd ≤ 1099511627776 ∧ ¬ 1 ≤ t.wi) ∨ (1 ≤ t.wd ∧ t.wd ≤ 1099511627776 ∧ 1 ≤ t.wi ∧ ¬ t.wi ≤ 100) ∨
    (1 ≤ t.wd ∧ t.wd ≤ 1099511627776 ∧ 1 ≤ t.wi ∧ t.wi ≤ 100 ∧ ¬ 1 ≤ t.ro) ∨ (1 ≤ t.wd ∧ t.wd ≤ 1099511627776 ∧ 1 ≤ t.wi ∧ t.wi ≤ 100 ∧ 1 ≤ t.ro ∧ ¬ t.ro ≤ 200) ∨
    (1 ≤ t.wd ∧ t.wd ≤ 1099511627776 ∧ 1 ≤ t.wi ∧ t.wi ≤ 100 ∧ 1 ≤ t.ro ∧ t.ro ≤ 200 ∧ ¬ 0 ≤ t.sq) ∨ (1 ≤ t.wd ∧ t.wd ≤ 1099511627776 ∧ 1 ≤ t.wi ∧ t.wi ≤ 100 ∧ 1 ≤ t.ro ∧ t.ro ≤ 200 ∧ 0 ≤ t.sq ∧ ¬ t.sq ≤ 1000000) := by
  by_cases a1 : 1 ≤ t.wd
  · by_cases a2 : t.wd ≤ 1099511627776
    · by_cases a3 : 1 ≤ t.wi
      · by_cases a4 : t.wi ≤ 100
        · by_cases a5 : 1 ≤ t.ro
          · by_cases a6 : t.ro ≤ 200
            · by_cases a7 : 0 ≤ t.sq
              · by_cases a8 : t.sq ≤ 1000000
                · exact absurd ⟨a1, a2, a3, a4, a5, a6, a7, a8⟩ h
                · exact .inr (.inr (.inr (.inr (.inr (.inr (.inr ⟨a1, a2, a3, a4, a5, a6, a7, a8⟩))))))
              · exact .inr (.inr (.inr (.inr (.inr (.inr (.inl ⟨a1, a2, a3, a4, a5, a6, a7⟩))))))
            · exact .inr (.inr (.inr (.inr (.inr (.inl ⟨a1, a2, a3, a4, a5, a6⟩)))))
          · exact .inr (.inr (.inr (.inr (.inl ⟨a1, a2, a3, a4, a5⟩))))
        · exact .inr (.inr (.inr (.inl ⟨a1, a2, a3, a4⟩)))
      · exact .inr (.inr (.inl ⟨a1, a2, a3⟩))
    · exact .inr (.inl ⟨a1, a2⟩)
  · exact .inl a1
/-- Whether key, kind and time may be. -/
structure AskT (ok : Bool) (kd time : Int) : Prop where
  o : ok = true
  k1 : 1 ≤ kd
  k3 : kd ≤ 3
  t0 : 0 ≤ time
  t1 : time ≤ 1099511627776
theorem not_ask {ok : Bool} {kd time : Int} (h : ¬ AskT ok kd time) : ok = false ∨ (ok = true ∧ kd < 1) ∨ (ok = true ∧ ¬ kd < 1 ∧ 3 < kd) ∨ (ok = true ∧ ¬ kd < 1 ∧ ¬ 3 < kd ∧ time < 0) ∨ (ok = true ∧ ¬ kd < 1 ∧ ¬ 3 < kd ∧ ¬ time < 0 ∧ 1099511627776 < time) := by
  cases ok with
  | false => exact .inl rfl
  | true =>
    by_cases a : kd < 1
    · exact .inr (.inl ⟨rfl, a⟩)
    by_cases b : 3 < kd
    · exact .inr (.inr (.inl ⟨rfl, a, b⟩))
    by_cases c : time < 0
    · exact .inr (.inr (.inr (.inl ⟨rfl, a, b, c⟩)))
    by_cases d : 1099511627776 < time
    · exact .inr (.inr (.inr (.inr ⟨rfl, a, b, c, d⟩)))
    exact absurd ⟨rfl, by omega, by omega, by omega, by omega⟩ h
/-- No room for it. -/
def fullW (t : Tb) (n : Nm) (s : Int) (l : List PtW) : Prop := (rowsW s l = [] ∧ t.wi ≤ (startsW l).length) ∨ (getW n (rowsW s l) = none ∧ t.ro ≤ (rowsW s l).length)
def hasW (n : Nm) (l : List Rw) : Bool := l.any (fun r => decide (nmR r = n))
theorem has_next {n : Nm} {l : List Rw} {i : Nat} {r : Rw} (h : l[i]? = some r) : hasW n (l.take (i + 1)) = (hasW n (l.take i) || decide (nmR r = n)) := by
  unfold hasW
  rw [List.take_add_one, h, List.any_append]
  simp
theorem has_get {n : Nm} : ∀ {l : List Rw}, hasW n l = false ↔ getW n l = none
  | [] => by simp [hasW, getW]
  | r :: l => by
    have ih := has_get (n := n) (l := l)
    unfold hasW at ih ⊢
    unfold getW
    rw [List.any_cons]
    by_cases c : nmR r = n
    · rw [if_pos c, decide_eq_true c]; simp
    · rw [if_neg c, decide_eq_false c, Bool.false_or]; exact ih
end Go.Proofs.YtedhciolnekpaaaGreatDoor
namespace Go.Proofs.YtedhciolnekpaaaGreatDoor
open Go.ChangeShapes Go.WideShapes Go.ChangeAt Go.RowKit
set_option linter.unusedVariables false

def errW (c : Nat) : Value := .iface 33 (.int .i64 (c : Nat))
section
variable {N : Nat} {w : World} {a bm : Nat} {t : Tb} {l : List PtW} {blk : Int → Nat}
set_option maxHeartbeats 1000000 in
set_option maxRecDepth 100000 in
theorem newW_bad (w : World) (g : ¬ GoodT t) :
    Calls Tryz.prog 6 #[.int .i64 t.wd, .int .i64 t.wi, .int .i64 t.ro, .int .i64 t.sq] w fun e w' => e = .returned (.tuple #[.pointer none, errW 1]) ∧ w = w' := by
  have g := not_goodT g
  unfold errW
  rcases g with x1 | ⟨x1, x2⟩ | ⟨x1, x2, x3⟩ | ⟨x1, x2, x3, x4⟩ | ⟨x1, x2, x3, x4, x5⟩ | ⟨x1, x2, x3, x4, x5, x6⟩ | ⟨x1, x2, x3, x4, x5, x6, x7⟩ | ⟨x1, x2, x3, x4, x5, x6, x7, x8⟩
  · have y1 : t.wd < 1 := by omega
    clear x1
    go_enter Tryz.func6, Tryz.ntmps6
    go_wp2_with fail
    go_ret2
    exact ⟨rfl, rfl⟩
  · have y1 : ¬ t.wd < 1 := by omega
    have y2 : 1099511627776 < t.wd := by omega
    clear x1 x2
    go_enter Tryz.func6, Tryz.ntmps6
    go_wp2_with fail
    go_ret2
    exact ⟨rfl, rfl⟩
  · have y1 : ¬ t.wd < 1 := by omega
    have y2 : ¬ 1099511627776 < t.wd := by omega
    have y3 : t.wi < 1 := by omega
    clear x1 x2 x3
    go_enter Tryz.func6, Tryz.ntmps6
    go_wp2_with fail
    go_ret2
    exact ⟨rfl, rfl⟩
  · have y1 : ¬ t.wd < 1 := by omega
    have y2 : ¬ 1099511627776 < t.wd := by omega
    have y3 : ¬ t.wi < 1 := by omega
    have y4 : 100 < t.wi := by omega
    clear x1 x2 x3 x4
    go_enter Tryz.func6, Tryz.ntmps6
    go_wp2_with fail
    go_ret2
    exact ⟨rfl, rfl⟩
  · have y1 : ¬ t.wd < 1 := by omega
    have y2 : ¬ 1099511627776 < t.wd := by omega
    have y3 : ¬ t.wi < 1 := by omega
    have y4 : ¬ 100 < t.wi := by omega
    have y5 : t.ro < 1 := by omega
    clear x1 x2 x3 x4 x5
    go_enter Tryz.func6, Tryz.ntmps6
    go_wp2_with fail
    go_ret2
    exact ⟨rfl, rfl⟩
  · have y1 : ¬ t.wd < 1 := by omega
    have y2 : ¬ 1099511627776 < t.wd := by omega
    have y3 : ¬ t.wi < 1 := by omega
    have y4 : ¬ 100 < t.wi := by omega
    have y5 : ¬ t.ro < 1 := by omega
    have y6 : 200 < t.ro := by omega
    clear x1 x2 x3 x4 x5 x6
    go_enter Tryz.func6, Tryz.ntmps6
    go_wp2_with fail
    go_ret2
    exact ⟨rfl, rfl⟩
  · have y1 : ¬ t.wd < 1 := by omega
    have y2 : ¬ 1099511627776 < t.wd := by omega
    have y3 : ¬ t.wi < 1 := by omega
    have y4 : ¬ 100 < t.wi := by omega
    have y5 : ¬ t.ro < 1 := by omega
    have y6 : ¬ 200 < t.ro := by omega
    have y7 : t.sq < 0 := by omega
    clear x1 x2 x3 x4 x5 x6 x7
    go_enter Tryz.func6, Tryz.ntmps6
    go_wp2_with fail
    go_ret2
    exact ⟨rfl, rfl⟩
  · have y1 : ¬ t.wd < 1 := by omega
    have y2 : ¬ 1099511627776 < t.wd := by omega
    have y3 : ¬ t.wi < 1 := by omega
    have y4 : ¬ 100 < t.wi := by omega
    have y5 : ¬ t.ro < 1 := by omega
    have y6 : ¬ 200 < t.ro := by omega
    have y7 : ¬ t.sq < 0 := by omega
    have y8 : 1000000 < t.sq := by omega
    clear x1 x2 x3 x4 x5 x6 x7 x8
    go_enter Tryz.func6, Tryz.ntmps6
    go_wp2_with fail
    go_ret2
    exact ⟨rfl, rfl⟩
set_option maxHeartbeats 1000000 in
set_option maxRecDepth 100000 in
theorem newW_good (w : World) (g : GoodT t) (blk : Int → Nat) :
    Calls Tryz.prog 6 #[.int .i64 t.wd, .int .i64 t.wi, .int .i64 t.ro, .int .i64 t.sq] w fun e w' => ∃ a bm, e = .returned (.tuple #[.pointer (some ⟨a, 0, none⟩), .nilIface]) ∧ Tq w.heap.size w' a bm t [] blk ∧ Below w.heap.size w w' := by
  have hmm := @run_makeMap Tryz.prog
  have y1 : ¬ t.wd < 1 := by have := g.w1; omega
  have y2 : ¬ 1099511627776 < t.wd := by have := g.w2; omega
  have y3 : ¬ t.wi < 1 := by have := g.i1; omega
  have y4 : ¬ 100 < t.wi := by have := g.i2; omega
  have y5 : ¬ t.ro < 1 := by have := g.r1; omega
  have y6 : ¬ 200 < t.ro := by have := g.r2; omega
  have y7 : ¬ t.sq < 0 := by have := g.s1; omega
  have y8 : ¬ 1000000 < t.sq := by have := g.s2; omega
  clear g
  go_enter Tryz.func6, Tryz.ntmps6
  go_wp2_with fail
  go_ret2
  refine ⟨w.heap.size + 1, rfl, ⟨w.heap.size, ?_, (Outm.made w blk).below ((Below.refl _ _).alloc (Nat.le_refl _) _), by omega, Nat.le_refl _, fun s hs => by simp [startsW] at hs⟩, ((Below.refl _ _).alloc (Nat.le_refl _) _).alloc (by simp) _⟩
  have h := heap_alloc_new (w.alloc (.map #[] 0)) (.cells (tabCells t w.heap.size) 59 (0, 0))
  rw [World.size_alloc] at h
  exact h
theorem isdue_walk (w : World) (a : Nat) (wd s mark : Int) (c0 : w.cell? ⟨a, 0, none⟩ = some (.int .i64 wd)) (h : In64 (s + wd)) :
    Calls Tryz.prog 23 #[.pointer (some ⟨a, 0, none⟩), .int .i64 s, .int .i64 mark] w fun e w' => e = .returned (.bool (decide (s + wd ≤ mark))) ∧ w' = w := by
  have z1 : IntKind.i64.wrap (s + wd) = s + wd := by rw [IntKind.wrap_i64]; have := h.1; have := h.2; omega
  clear h
  go_enter Tryz.func23, Tryz.ntmps23
  go_wp2_with fail
  go_ret
  exact ⟨rfl, rfl⟩
theorem open_walk20 (h : Tq N w a bm t l blk) :
    Calls Tryz.prog 17 #[.pointer (some ⟨a, 0, none⟩)] w fun e w' => e = .returned (.int .i64 ((startsW l).length : Nat)) ∧ w' = w := by
  have c4 := h.c4
  have ln := h.out.len 3
  clear h
  go_enter Tryz.func17, Tryz.ntmps17
  go_wp2_with fail
  go_ret
  exact ⟨rfl, rfl⟩
theorem seq_walk20 (h : Tq N w a bm t l blk) :
    Calls Tryz.prog 21 #[.pointer (some ⟨a, 0, none⟩)] w fun e w' => e = .returned (.int .i64 t.sq) ∧ w' = w := by
  have c3 := h.c3
  clear h
  go_enter Tryz.func21, Tryz.ntmps21
  go_wp2_with fail
  go_ret
  exact ⟨rfl, rfl⟩
theorem nxt_below {w wr w1 : World} (h : Below w.heap.size w wr) (g : wr.grownBy w1 (some w.heap.size)) : Below w.heap.size w w1 := h.grown g h.size (fun j hj => by cases hj; exact Nat.le_refl _)
theorem due_perm {wd mark : Int} {x y : List Int} (h : x.Perm y) : dueW wd mark x = dueW wd mark y := (h.filter _).length_eq
theorem due_app (wd mark : Int) (x : List Int) (s : Int) : dueW wd mark (x ++ [s]) = dueW wd mark x + (if s + wd ≤ mark then 1 else 0) := by
  unfold dueW
  rw [List.filter_append, List.length_append]
  by_cases c : s + wd ≤ mark
  · rw [if_pos c]; simp [c]
  · rw [if_neg c]; simp [c]
set_option maxHeartbeats 1000000 in
set_option maxRecDepth 100000 in
theorem due_walk20 (h : Tq N w a bm t l blk) (hl : l.length ≤ 1000) (hb : ∀ s ∈ startsW l, 0 ≤ s ∧ s ≤ 1099511627776) (hw1 : 1 ≤ t.wd) (hw2 : t.wd ≤ 1099511627776) (mark : Int) :
    Calls Tryz.prog 9 #[.pointer (some ⟨a, 0, none⟩), .int .i64 mark] w fun e w' => e = .returned (.int .i64 (dueW t.wd mark (startsW l) : Nat)) ∧ Below w.heap.size w w' := by
  have c4 := h.c4
  obtain ⟨w0, hr, hg, hb0, hs0⟩ := h.out.range
  have HT := Lib.hid h
  have HB := Lib.hid hb
  have HW := Lib.hid (And.intro hw1 hw2)
  have HG := Lib.hid hg
  have HB0 := Lib.hid hb0
  have hlen := starts_le l
  have HN : Hid ((startsW l).length ≤ 1000) := Lib.hid (by omega)
  clear h hb hw1 hw2 hg hb0 hs0 hlen hl
  go_enter Tryz.func9, Tryz.ntmps9
  go_wp2_with fail
  go_loopw [5] (fun s5 wx => ∃ (done : List Int) (cnt : Nat), s5 = .int .i64 (dueW t.wd mark done : Nat) ∧ Hid (RgO wx bm w.heap.size l blk done cnt) ∧ Hid (Below w.heap.size w wx) ∧ Hid (done.length + cnt ≤ (startsW l).length)) (fun _ wx => wx.rangeLeft bm w.heap.size)
  case atStart => exact ⟨[], _, rfl, HG, HB0, Lib.hid (by simp)⟩
  case round =>
    obtain ⟨done, cnt, rfl, HG1, HB1, HC1⟩ := hrel
    cases HG1.out.next with
    | done hp hrun =>
      have HE := Lib.hid (due_perm (wd := t.wd) (mark := mark) hp)
      clear hp
      go_wp2_with fail
      go_ret
      exact ⟨by rw [HE.out]; rfl, HB1.out⟩
    | more s w1 cnt1 hs hn hrun hg hc hw hz he =>
      have hsb := HB.out s hs
      have hwb := HW.out
      have hB := nxt_below HB1.out hw
      have CI := Lib.hid (isdue_walk w1 a t.wd s mark (HT.out.below hB).c0 ⟨by omega, by omega⟩)
      have HB2 := Lib.hid hB
      have HG2 := Lib.hid hg
      have HL1 := Lib.hid HG1.out.left
      have HL2 := Lib.hid hg.left
      have HC2 := Lib.hid hc
      have hdl := due_le t.wd mark done
      have hNN := HN.out
      have hCC := HC1.out
      have HA := Lib.hid (due_app t.wd mark done s)
      obtain ⟨n, hn'⟩ : ∃ n, dueW t.wd mark done = n := ⟨_, rfl⟩
      rw [hn'] at HA hdl ⊢
      have z2 : IntKind.i64.wrap ((n : Int) + 1) = ((n + 1 : Nat) : Int) := by rw [IntKind.wrap_i64]; omega
      have HC3 : Hid ((done ++ [s]).length + cnt1 ≤ (startsW l).length) := Lib.hid (by rw [List.length_append, List.length_singleton]; omega)
      clear hn' hdl hNN hCC hg hc hw hz hB hsb hwb hn hs
      by_cases cc : s + t.wd ≤ mark
      · have HE := HA.out
        rw [if_pos cc] at HE
        have HE := Lib.hid HE
        rw [decide_eq_true cc] at CI
        clear cc HA
        go_wp2_with fail
        refine CI.out.mono ?_
        rintro e w2 ⟨rfl, rfl⟩
        go_wp2_with fail
        go_roundw
        case rel => exact ⟨done ++ [s], cnt1, by rw [HE.out]; go_num, HG2, HB2, HC3⟩
        case measure => rw [HL1.out, HL2.out]; exact HC2.out
      · have HE := HA.out
        rw [if_neg cc, Nat.add_zero] at HE
        have HE := Lib.hid HE
        rw [decide_eq_false cc] at CI
        clear cc HA
        go_wp2_with fail
        refine CI.out.mono ?_
        rintro e w2 ⟨rfl, rfl⟩
        go_wp2_with fail
        go_roundw
        case rel => exact ⟨done ++ [s], cnt1, by rw [HE.out], HG2, HB2, HC3⟩
        case measure => rw [HL1.out, HL2.out]; exact HC2.out
/-- The least of those that were met. -/
def leastW : List Int → Option Int
  | [] => none
  | s :: l => match leastW l with | none => some s | some m => some (if s < m then s else m)
def pickW (o : Option Int) (s : Int) : Option Int := match o with | none => some s | some m => some (if s < m then s else m)
theorem least_mem : ∀ {l : List Int} {m : Int}, leastW l = some m → m ∈ l ∧ ∀ x ∈ l, m ≤ x
  | [], m, h => by cases h
  | s :: l, m, h => by
    unfold leastW at h
    cases e : leastW l with
    | none =>
      rw [e] at h
      cases h
      cases l with
      | nil => simp
      | cons y r =>
        unfold leastW at e
        split at e <;> cases e
    | some q =>
      rw [e] at h
      obtain ⟨h1, h2⟩ := least_mem e
      simp only [Option.some.injEq] at h
      subst h
      split
      · rename_i c
        exact ⟨by simp, fun x hx => by
          rcases List.mem_cons.1 hx with rfl | hx
          · exact Int.le_refl _
          · have := h2 x hx; omega⟩
      · rename_i c
        exact ⟨by simp [h1], fun x hx => by
          rcases List.mem_cons.1 hx with rfl | hx
          · omega
          · exact h2 x hx⟩
theorem least_none : ∀ {l : List Int}, leastW l = none → l = []
  | [], _ => rfl
  | s :: l, h => by
    unfold leastW at h
    split at h <;> cases h
theorem least_app : ∀ (l : List Int) (s : Int), leastW (l ++ [s]) = pickW (leastW l) s
  | [], s => rfl
  | x :: l, s => by
    have ih := least_app l s
    rw [List.cons_append]
    unfold leastW
    rw [ih]
    cases leastW l with
    | none =>
      show some (if x < s then x else s) = some (if s < x then s else x)
      congr 1
      split <;> split <;> omega
    | some m =>
      show some (if x < (if s < m then s else m) then x else (if s < m then s else m)) = some (if s < (if x < m then x else m) then s else (if x < m then x else m))
      congr 1
      (repeat' split) <;> omega
/-- Of windows that rise the least is the first. -/
theorem least_perm {x y : List Int} (h : x.Perm y) (hu : UpW y) : leastW x = y.head? := by
  cases e : leastW x with
  | none =>
    have := least_none e
    subst this
    have := h.nil_eq
    subst this
    rfl
  | some m =>
    obtain ⟨h1, h2⟩ := least_mem e
    cases y with
    | nil => have := h.mem_iff.1 h1; simp at this
    | cons s r =>
      obtain ⟨u1, _⟩ := List.pairwise_cons.1 hu
      have hs := h2 s (h.mem_iff.2 (by simp))
      rcases List.mem_cons.1 (h.mem_iff.1 h1) with rfl | hm
      · rfl
      · have := u1 m hm; omega
/-- The first window, and whether there is one, as the program tells it. -/
def firstV : Option Int → Value
  | none => .tuple #[.int .i64 0, .bool false]
  | some s => .tuple #[.int .i64 s, .bool true]
def fstI (o : Option Int) : Int := o.getD 0
set_option maxHeartbeats 1000000 in
set_option maxRecDepth 100000 in
theorem first_walk20 (h : Tq N w a bm t l blk) :
    Calls Tryz.prog 24 #[.pointer (some ⟨a, 0, none⟩)] w fun e w' => e = .returned (.tuple #[.int .i64 (fstI (startsW l).head?), .bool (startsW l).head?.isSome]) ∧ Below w.heap.size w w' := by
  have c4 := h.c4
  obtain ⟨w0, hr, hg, hb0, hs0⟩ := h.out.range
  have HG := Lib.hid hg
  have HB0 := Lib.hid hb0
  clear h hg hb0 hs0
  go_enter Tryz.func24, Tryz.ntmps24
  go_wp2_with fail
  go_loopw [4, 5] (fun s4 s5 wx => ∃ (done : List Int) (cnt : Nat), s4 = .int .i64 (fstI (leastW done)) ∧ s5 = .bool (leastW done).isSome ∧ Hid (RgO wx bm w.heap.size l blk done cnt) ∧ Hid (Below w.heap.size w wx)) (fun _ _ wx => wx.rangeLeft bm w.heap.size)
  case atStart => exact ⟨[], _, rfl, rfl, HG, HB0⟩
  case round =>
    obtain ⟨done, cnt, rfl, rfl, HG1, HB1⟩ := hrel
    cases HG1.out.next with
    | done hp hrun =>
      have HE := Lib.hid (least_perm hp (starts_up l))
      clear hp
      go_wp2_with fail
      go_ret2
      exact ⟨by rw [HE.out]; rfl, HB1.out⟩
    | more s w1 cnt1 hs hn hrun hg hc hw hz he =>
      have HB2 := Lib.hid (nxt_below HB1.out hw)
      have HG2 := Lib.hid hg
      have HL1 := Lib.hid HG1.out.left
      have HL2 := Lib.hid hg.left
      have HC2 := Lib.hid hc
      have HA := Lib.hid (least_app done s)
      cases hO : leastW done with
      | none =>
        have HE : Hid (leastW (done ++ [s]) = some s) := Lib.hid (by rw [HA.out, hO]; rfl)
        clear hO hg hc hw hz hn hs HA
        simp only [Option.isSome_none]
        go_wp2_with fail
        go_roundw
        case rel => exact ⟨done ++ [s], cnt1, by rw [HE.out]; rfl, by rw [HE.out]; rfl, HG2, HB2⟩
        case measure => rw [HL1.out, HL2.out]; exact HC2.out
      | some m =>
        have HM : Hid (fstI (some m) = m) := Lib.hid rfl
        by_cases cc : s < m
        · have HE : Hid (leastW (done ++ [s]) = some s) := Lib.hid (by rw [HA.out, hO]; show some (if s < m then s else m) = _; rw [if_pos cc])
          clear hO hg hc hw hz hn hs HA
          simp only [Option.isSome_some, HM.out]
          go_wp2_with fail
          go_roundw
          case rel => exact ⟨done ++ [s], cnt1, by rw [HE.out]; rfl, by rw [HE.out]; rfl, HG2, HB2⟩
          case measure => rw [HL1.out, HL2.out]; exact HC2.out
        · have HE : Hid (leastW (done ++ [s]) = some m) := Lib.hid (by rw [HA.out, hO]; show some (if s < m then s else m) = _; rw [if_neg cc])
          clear hO hg hc hw hz hn hs HA
          simp only [Option.isSome_some, HM.out]
          go_wp2_with fail
          go_roundw
          case rel => exact ⟨done ++ [s], cnt1, by rw [HE.out]; rfl, by rw [HE.out]; rfl, HG2, HB2⟩
          case measure => rw [HL1.out, HL2.out]; exact HC2.out
def sumI (f : Int → Nat) (l : List Int) : Nat := (l.map f).sum
set_option maxHeartbeats 1000000 in
set_option maxRecDepth 100000 in
theorem rows_walk20 (h : Tq N w a bm t l blk) (hl : l.length ≤ 100) :
    Calls Tryz.prog 19 #[.pointer (some ⟨a, 0, none⟩)] w fun e w' => e = .returned (.int .i64 (allW l : Nat)) ∧ Below w.heap.size w w' := by
  have c4 := h.c4
  obtain ⟨w0, hr, hg, hb0, hs0⟩ := h.out.range
  have HT := Lib.hid h
  have HG := Lib.hid hg
  have HB0 := Lib.hid hb0
  have hlen := starts_le l
  have HN : Hid ((startsW l).length ≤ 100) := Lib.hid (by omega)
  have HR : Hid (∀ s, (rowsW s l).length ≤ 100) := Lib.hid (fun s => Nat.le_trans (rows_le s l) hl)
  have HS : Hid (∀ x : List Int, sumI (fun s => (rowsW s l).length) x ≤ x.length * 100) := Lib.hid (fun x => by
    induction x with
    | nil => simp [sumI]
    | cons s x ih => have := HR.out s; unfold sumI at *; rw [List.map_cons, List.sum_cons, List.length_cons]; omega)
  have HP : Hid (∀ x : List Int, x.Perm (startsW l) → sumI (fun s => (rowsW s l).length) x = allW l) := Lib.hid (fun x hx => (hx.map _).sum_nat)
  have HA : Hid (∀ (x : List Int) s, sumI (fun s => (rowsW s l).length) (x ++ [s]) = sumI (fun s => (rowsW s l).length) x + (rowsW s l).length) := Lib.hid (fun x s => by simp [sumI])
  clear h hg hb0 hs0 hlen hl
  go_enter Tryz.func19, Tryz.ntmps19
  go_wp2_with fail
  go_loopw [3] (fun s3 wx => ∃ (done : List Int) (cnt : Nat), s3 = .int .i64 (sumI (fun s => (rowsW s l).length) done : Nat) ∧ Hid (RgO wx bm w.heap.size l blk done cnt) ∧ Hid (Below w.heap.size w wx) ∧ Hid (done.length + cnt ≤ (startsW l).length)) (fun _ wx => wx.rangeLeft bm w.heap.size)
  case atStart => exact ⟨[], _, rfl, HG, HB0, Lib.hid (by simp)⟩
  case round =>
    obtain ⟨done, cnt, rfl, HG1, HB1, HC1⟩ := hrel
    cases HG1.out.next with
    | done hp hrun =>
      have HE := Lib.hid (HP.out done hp)
      clear hp
      go_wp2_with fail
      go_ret
      exact ⟨by rw [HE.out]; rfl, HB1.out⟩
    | more s w1 cnt1 hs hn hrun hg hc hw hz he =>
      have hB := nxt_below HB1.out hw
      have ln := ((HT.out.below hB).out.inn s hs).len 3
      have HB2 := Lib.hid hB
      have HG2 := Lib.hid hg
      have HL1 := Lib.hid HG1.out.left
      have HL2 := Lib.hid hg.left
      have HC2 := Lib.hid hc
      have hNN := HN.out
      have hCC := HC1.out
      have hSS := HS.out done
      have hRR := HR.out s
      have HE := Lib.hid (HA.out done s)
      obtain ⟨n, hn'⟩ : ∃ n, sumI (fun s => (rowsW s l).length) done = n := ⟨_, rfl⟩
      obtain ⟨m, hm'⟩ : ∃ m, (rowsW s l).length = m := ⟨_, rfl⟩
      rw [hn'] at HE hSS ⊢
      rw [hm'] at HE ln hRR
      have HC3 : Hid ((done ++ [s]).length + cnt1 ≤ (startsW l).length) := Lib.hid (by rw [List.length_append, List.length_singleton]; omega)
      have z2 : IntKind.i64.wrap ((n : Int) + (m : Int)) = ((n + m : Nat) : Int) := by rw [IntKind.wrap_i64]; omega
      clear hn' hm' hNN hCC hSS hRR hg hc hw hz hB hn hs
      go_wp2_with fail
      go_roundw
      case rel => exact ⟨done ++ [s], cnt1, by rw [HE.out]; first | rfl | go_num, HG2, HB2, HC3⟩
      case measure => rw [HL1.out, HL2.out]; exact HC2.out
end
end Go.Proofs.YtedhciolnekpaaaGreatDoor
