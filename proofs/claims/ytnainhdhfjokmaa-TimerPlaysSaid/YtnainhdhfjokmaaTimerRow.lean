/-
  Layer 13 (timer): rows of what is due, in memory: as lists; cut, copied, appended, cleared, as equations on their runs.
-/
import Derived.Test.YtnainhdhfjokmaaTimerPure
import Derived.Test.YtnainhdhfjokmaaKeeps
import Derived.Maps.AppendAt
import Derived.Lib.Overlaps
import Derived.Lib.AppendZerosOnto
import Derived.Laws.CopyRow
import Derived.Laws.Externs
namespace Go.Proofs.Ytnainhdhfjokmaa
open Go.ChangeShapes Go.WideShapes Go.ChangeAt Go.RowKit
set_option linter.unusedVariables false

def dueOf (d : Du) : List Value := [.int .i64 d.1, .int .i64 d.2]
def dueCells (L : List Du) : List Value := L.flatMap dueOf
theorem dueCells_app (x y : List Du) : dueCells (x ++ y) = dueCells x ++ dueCells y := by unfold dueCells; rw [List.flatMap_append]
theorem dueCells_cons (d : Du) (y : List Du) : dueCells (d :: y) = dueOf d ++ dueCells y := by unfold dueCells; rw [List.flatMap_cons]
theorem dueCells_length : ∀ L : List Du, (dueCells L).length = L.length * 2
  | [] => rfl
  | d :: r => by
    have h2 : (dueOf d).length = 2 := rfl
    rw [dueCells_cons, List.length_append, dueCells_length r, List.length_cons, h2]; omega
theorem dueCells_at {L : List Du} {i : Nat} {d : Du} (h : L[i]? = some d) {j : Nat} (hj : j < 2) : (dueCells L)[i * 2 + j]? = (dueOf d)[j]? := by
  obtain ⟨hi, e⟩ := List.getElem?_eq_some_iff.1 h
  have e2 : L = L.take i ++ d :: L.drop (i + 1) := by
    have := (List.take_append_drop i L).symm
    rw [List.drop_eq_getElem_cons hi, e] at this
    exact this
  have hl : (L.take i).length = i := by rw [List.length_take]; omega
  have h2 : (dueOf d).length = 2 := rfl
  rw [e2, dueCells_app, dueCells_cons, List.getElem?_append_right (by rw [dueCells_length, hl]; omega), dueCells_length, hl, List.getElem?_append_left (by omega), Nat.add_sub_cancel_left]
theorem due_one (L : List Du) : ∀ u ∈ dueCells L, u.oneCell' = true := fun u hu => by
  unfold dueCells at hu
  obtain ⟨d, _, h⟩ := List.mem_flatMap.1 hu
  simp only [dueOf, List.mem_cons, List.not_mem_nil, or_false] at h
  rcases h with rfl | rfl <;> rfl
theorem dueCells_split (L : List Du) (k : Nat) : dueCells L = dueCells (L.take k) ++ dueCells (L.drop k) := by rw [← dueCells_app, List.take_append_drop]
/-- A row of what is due, of one's own. -/
def OwnD (w : World) (base : Nat) (v : Value) (L : List Du) : Prop := w.ownsRow base 35 2 v L.length (dueCells L)
theorem infoD : (Try.prog.info? 35).map (fun i => (i.zero, i.size, i.bytes)) = some (some (.agg #[.int .i64 0, .int .i64 0]), 2, 16) := by kernel_rfl
theorem info_partsD : ∃ i, Try.prog.info? 35 = some i ∧ i.zero = some (.agg #[.int .i64 0, .int .i64 0]) ∧ i.size = 2 ∧ i.bytes = 16 := by
  cases hi : Try.prog.info? 35 with
  | none => have := infoD; rw [hi] at this; cases this
  | some i =>
    have hI := infoD
    rw [hi] at hI
    simp only [Option.map_some, Option.some.injEq, Prod.mk.injEq] at hI
    exact ⟨i, rfl, hI⟩
theorem elemD : Try.prog.elem 26 = 35 := by kernel_rfl
theorem underD : Try.prog.underlying 26 = some (.slice (Try.prog.elem 26)) := by rw [elemD]; exact Try.underlying26
theorem sizeD (w : World) : (sizeOf (Try.prog.elem 26)).run Try.prog w = .ok 2 w := by
  obtain ⟨i, hi, _, hz1, _⟩ := info_partsD
  rw [elemD]
  simp [sizeOf, typeInfo, hi, hz1, Result.andThen]
theorem sizeDu (w : World) : (sizeOf 35).run Try.prog w = .ok 2 w := by have := sizeD w; rw [elemD] at this; exact this
section
variable {w w' : World} {base : Nat} {v : Value} {L M : List Du} {g cap n : Nat} {cur : Array Value}
theorem OwnD.mk' (hg : w.heap[g]? = some (.cells cur 35 (0, 0))) (hs : cur.size = cap * 2) (hc : cap ≤ maxLen) (hl : L.length ≤ cap) (hb : base ≤ g) (hn : L.length = n) (ht : cur.toList.take (n * 2) = dueCells L) :
    OwnD w base (.slice (some ⟨g, 0, none⟩) n cap) L := by
  subst hn
  exact ⟨dueCells_length L, .inr ⟨g, cap, cur, rfl, hb, hg, hl, hc, hs, ht⟩⟩
theorem OwnD.parts (h : OwnD w base v L) : (v = .slice none 0 0 ∧ L = []) ∨ ∃ g cap cur, v = .slice (some ⟨g, 0, none⟩) L.length cap ∧ base ≤ g ∧ w.heap[g]? = some (.cells cur 35 (0, 0)) ∧ L.length ≤ cap ∧ cap ≤ maxLen ∧ cur.size = cap * 2 ∧ cur.toList.take (L.length * 2) = dueCells L := by
  rcases h.2 with ⟨rfl, e⟩ | ⟨g, cap, cur, rfl, hb, hg, hl, hc, hs, ht⟩
  · exact .inl ⟨rfl, List.length_eq_zero_iff.1 e⟩
  · exact .inr ⟨g, cap, cur, rfl, hb, hg, hl, hc, hs, ht⟩
theorem OwnD.less (h : OwnD w base v L) {b : Nat} (hb : b ≤ base) : OwnD w b v L := by
  rcases h.2 with ⟨rfl, e⟩ | ⟨g, cap, cur, rfl, hg, r⟩
  · exact ⟨h.1, .inl ⟨rfl, e⟩⟩
  · exact ⟨h.1, .inr ⟨g, cap, cur, rfl, by omega, r⟩⟩
theorem OwnD.block (h : OwnD w base v L) {g : Nat} (hg : v.ownBlock = some g) : base ≤ g ∧ g < w.heap.size ∧ ∃ c, w.heap[g]? = some (.cells c 35 (0, 0)) := by
  rcases h.2 with ⟨rfl, _⟩ | ⟨g', cap, cur, rfl, hb, hc, _⟩
  · cases hg
  · simp only [Value.ownBlock, Option.some.injEq] at hg
    subst hg
    exact ⟨hb, lt_of_block hc, _, hc⟩
theorem OwnD.off (h : OwnD w base v L) {a : Nat} {c : Array Value} {t : TypeId} {f : Nat × Nat} (hb : w.heap[a]? = some (.cells c t f)) (he : t ≠ 35) : v.ownBlock ≠ some a := fun hg => by
  obtain ⟨_, _, d, hd⟩ := h.block hg
  rw [hb] at hd
  cases hd
  exact he rfl
theorem OwnD.keeps {F : Nat → Prop} (h : OwnD w base v L) (k : Keeps F w w') (hF : ∀ g, v.ownBlock = some g → ¬ F g) : OwnD w' base v L := owns_keeps h k hF
theorem OwnD.nil (w : World) (base : Nat) : OwnD w base (.slice none 0 0) [] := World.ownsRow_nil _ _ _ _
/-- 's[:k]', on lists: what reads so. -/
structure SrcD (w : World) (A : Option Addr) (cap : Nat) (L : List Du) : Prop where
  le : L.length ≤ cap
  nn : A = none → cap = 0
  rd : ∀ ad, A = some ad → ∀ (j : Nat) (u : Value), (dueCells L)[j]? = some u → w.cell? (ad.add j) = some u
theorem SrcD.nil (w : World) : SrcD w none 0 [] := ⟨Nat.le_refl _, fun _ => rfl, fun _ h => by cases h⟩
theorem addr_block' (a : Addr) (n : Nat) : (a.add n).block = a.block := by unfold Addr.add; split <;> rfl
theorem SrcD.keeps {F : Nat → Prop} {A : Option Addr} (h : SrcD w A cap L) (k : Keeps F w w') (hA : ∀ ad, A = some ad → L ≠ [] → ¬ F ad.block) : SrcD w' A cap L :=
  ⟨h.le, h.nn, fun ad ha j u hu => k.cell (h.rd ad ha j u hu) (by rw [addr_block']; exact hA ad ha (fun e => by subst e; simp [dueCells] at hu))⟩
theorem SrcD.still {A : Option Addr} (h : SrcD w A cap L) (b : Below w.heap.size w w') : SrcD w' A cap L := h.keeps (Keeps.of_below b (Nat.le_refl _) (fun _ => False)) (fun _ _ _ e => e)
theorem SrcD.take {A : Option Addr} (h : SrcD w A cap L) (k : Nat) : SrcD w A cap (L.take k) :=
  ⟨by have := h.le; rw [List.length_take]; omega, h.nn, fun ad ha j u hu => h.rd ad ha j u (by
    rw [dueCells_split L k, List.getElem?_append_left (List.getElem?_eq_some_iff.1 hu).1]
    exact hu)⟩
theorem OwnD.src (h : OwnD w base v L) : ∃ A cap, v = .slice A L.length cap ∧ SrcD w A cap L ∧ (∀ ad, A = some ad → ad = ⟨ad.block, 0, none⟩ ∧ v.ownBlock = some ad.block) := by
  rcases h.2 with ⟨rfl, e⟩ | ⟨g, cap, cur, rfl, hb, hg, hn, hc, hs, ht⟩
  · obtain rfl := List.length_eq_zero_iff.1 e
    exact ⟨none, 0, rfl, SrcD.nil w, fun _ h => by cases h⟩
  · exact ⟨some ⟨g, 0, none⟩, cap, rfl, ⟨hn, fun e => (by cases e), fun ad ha j u hu => (by cases ha; exact World.ownsRow.cells h (g := g) rfl j u hu)⟩, fun ad e => (by cases e; exact ⟨rfl, rfl⟩)⟩
/-- 'l[:k]'. -/
theorem sliceD_to (A : Option Addr) (len cap k : Nat) (hk : k ≤ cap) (hnone : A = none → cap = 0) (w : World) :
    (Instr.slice 26 (.slice A len cap) none (some (.int .i64 (k : Int))) none).run Try.prog w = .ok (.slice A k cap) w := by
  rw [run_slice_h w 26 A len cap underD _ _ (by omega) (by omega), sizeD]
  cases A with
  | none => simp [Result.andThen, sliced]
  | some a => simp [Result.andThen, sliced, Addr.add]
/-- 'l[k:]', where there is one at k. -/
theorem sliceD_from_in (g len cap k : Nat) (hk : k ≤ len) (hc : k < cap) (w : World) :
    (Instr.slice 26 (.slice (some ⟨g, 0, none⟩) len cap) (some (.int .i64 (k : Int))) none none).run Try.prog w = .ok (.slice (some ⟨g, k * 2, none⟩) (len - k) (cap - k)) w := by
  rw [run_slice_l w 26 _ len cap underD _ _ (by omega) (by omega), sizeD]
  simp [Result.andThen, sliced, Addr.add_lit]
  omega
/-- 'l[k:]'. -/
theorem sliceD_from (A : Option Addr) (cap : Nat) (L : List Du) (k : Nat) (hk : k ≤ L.length) (hle : L.length ≤ cap) (hnone : A = none → cap = 0) :
    ∃ A', (∀ w, (Instr.slice 26 (.slice A L.length cap) (some (.int .i64 (k : Int))) none none).run Try.prog w = .ok (.slice A' (L.drop k).length (cap - k)) w) ∧
      (∀ w, SrcD w A cap L → SrcD w A' (cap - k) (L.drop k)) ∧ ∀ ad', A' = some ad' → ∃ ad, A = some ad ∧ ad.block = ad'.block := by
  refine ⟨if cap = k then A else A.map (·.add (k * 2)), fun w => ?_, fun w h => ?_, fun ad' h => ?_⟩
  · rw [run_slice_l w 26 A L.length cap underD _ _ (by omega) (by omega), sizeD]
    simp [Result.andThen, sliced]
  · refine ⟨by rw [List.length_drop]; have := h.le; omega, fun e => ?_, fun ad ha j u hu => ?_⟩
    · split at e
      · omega
      · cases A with
        | none => have := h.nn rfl; omega
        | some a => cases e
    · have hl := (List.getElem?_eq_some_iff.1 hu).1
      rw [dueCells_length, List.length_drop] at hl
      have hkl : (dueCells (L.take k)).length = k * 2 := by rw [dueCells_length, List.length_take]; congr 1; omega
      split at ha
      · omega
      · cases A with
        | none => cases ha
        | some a =>
          cases ha
          rw [Addr.add_add]
          exact h.rd a rfl (k * 2 + j) u (by rw [dueCells_split L k, List.getElem?_append_right (by omega), hkl, show k * 2 + j - k * 2 = j by omega]; exact hu)
  · split at h
    · exact ⟨ad', h, rfl⟩
    · cases A with
      | none => cases h
      | some a => cases h; exact ⟨a, rfl, (addr_block' a _).symm⟩
/-- 'append(l, m...)': a row of one's own. -/
theorem ownD_app {A : Option Addr} (h : OwnD w base v L) (hs : SrcD w A cap M) (hl : L.length + M.length ≤ 10000) (hb : base ≤ w.heap.size) :
    ∃ v' w', (Builtin.append_ #[26, 26] 26 #[v, .slice A M.length cap]).run Try.prog w = .ok v' w' ∧ OwnD w' base v' (L ++ M) ∧ w.grownBy w' v.ownBlock ∧ (v'.ownBlock = v.ownBlock ∨ v'.ownBlock = some w.heap.size) := by
  obtain ⟨i, hi, hz0, hz1, hz2⟩ := info_partsD
  cases A with
  | none =>
    obtain rfl := hs.nn rfl
    have h0 : M = [] := List.length_eq_zero_iff.1 (by have := hs.le; omega)
    subst h0
    exact ⟨v, w, run_append_owned_none (P := Try.prog) (w := w) base 26 26 35 i 2 Try.underlying26 hi _ _ _ h, by simpa using h, grown_refl _ _, .inl rfl⟩
  | some ad =>
    obtain ⟨v', w', hrun, hown, hgr, _, hat⟩ := run_append_own_at (P := Try.prog) w base 26 26 35 i (.agg #[.int .i64 0, .int .i64 0]) 2 16 Try.underlying26 hi hz0 hz1 hz2 rfl (by omega) _ _ _ h ad M.length cap (dueCells M) (dueCells_length M)
      (fun j u hu => hs.rd ad rfl j u hu) (due_one M) (by unfold maxLen; omega) (by omega) hb
    refine ⟨v', w', hrun, ?_, hgr, hat⟩
    unfold OwnD
    rw [dueCells_app, List.length_append]
    exact hown
/-- 'copy(d, s)' of what is due, d in a row that is known whole. -/
theorem run_copy_due (w : World) {o dLen dCap : Nat} {a : Addr} {sLen sCap m : Nat} {cs : List Value}
    (hg : w.heap[g]? = some (.cells cur 35 (0, 0))) (hm : Nat.min sLen dLen = m) (hn : cs.length = m * 2)
    (hsrc : ∀ (j : Nat) (u : Value), cs[j]? = some u → w.cell? (a.add j) = some u) (hfit : o + cs.length ≤ cur.size) (h1 : ∀ u ∈ cs, u.oneCell' = true) (ty : TypeId) :
    (Builtin.copy_ #[26, 26] ty #[.slice (some ⟨g, o, none⟩) dLen dCap, .slice (some a) sLen sCap]).run Try.prog w =
      .ok (goInt m) (w.setRow g (cur.toList.take o ++ cs ++ cur.toList.drop (o + cs.length)).toArray) := by
  subst hm
  obtain ⟨i, hi, hz0, hz1, hz2⟩ := info_partsD
  have hl := run_firstCells_some (P := Try.prog) w 2 (Nat.min sLen dLen) a sLen sCap cs hn hsrc
  have hst := run_storeCells_at Try.prog g o 35 cs 0 cur w hg (by simpa using hfit) h1
  simp [Builtin.copy_, run_underlying (P := Try.prog) Try.underlying26, Builtin.lenOf, sizeOf, typeInfo, hi, hz1, hl, hst]
theorem zeros_one {z : List Value} (h : ∀ u ∈ z, u.oneCell' = true) (n : Nat) : ∀ u ∈ (Builtin.zeroCells z.toArray n).toList, u.oneCell' = true := fun u hu => by
  simp [Builtin.zeroCells] at hu
  obtain ⟨a, ha, rfl⟩ := hu
  have h0 : 0 < z.length := by
    rcases Nat.eq_zero_or_pos z.length with e | e
    · rw [e] at ha; omega
    · exact e
  rw [List.getElem?_eq_getElem (Nat.mod_lt _ h0)]
  exact h _ (List.getElem_mem _)
/-- 'clear(s)'. -/
theorem run_clear_due (w : World) {o n c : Nat} (hg : w.heap[g]? = some (.cells cur 35 (0, 0))) (hn : 0 < n) (hfit : o + n * 2 ≤ cur.size) (ty : TypeId) :
    ∃ cs : List Value, cs.length = n * 2 ∧ (Builtin.clear_ #[26] ty #[.slice (some ⟨g, o, none⟩) n c]).run Try.prog w = .ok (.tuple #[]) (w.setRow g (cur.toList.take o ++ cs ++ cur.toList.drop (o + cs.length)).toArray) := by
  obtain ⟨i, hi, hz0, hz1, hz2⟩ := info_partsD
  have hl : (Builtin.zeroCells (Value.agg #[.int .i64 0, .int .i64 0]).cells n).toList.length = n * 2 := by
    rw [Array.length_toList, size_zeroCells]; rfl
  refine ⟨_, hl, ?_⟩
  have h1 : ∀ u ∈ (Builtin.zeroCells (Value.agg #[.int .i64 0, .int .i64 0]).cells n).toList, u.oneCell' = true := zeros_one (z := [.int .i64 0, .int .i64 0]) (fun u hu => by simp at hu; rcases hu with rfl | rfl <;> rfl) n
  have hst := run_storeCells_at Try.prog g o 35 _ 0 cur w hg (by rw [hl]; simpa using hfit) h1
  simp only [Nat.add_zero] at hst
  obtain ⟨m, rfl⟩ : ∃ m, n = m + 1 := ⟨n - 1, by omega⟩
  simp [Builtin.clear_, run_underlying (P := Try.prog) Try.underlying26, zeroValue, typeInfo, hi, hz0, hst]
end
end Go.Proofs.Ytnainhdhfjokmaa
