/-
  Rows of one's own that may begin within their block: 'clear(l[:k])'.
-/
import Derived.Test.YtgeahpfdaehjaaaGreatDoorGrpM
import Derived.Lib.SliceRun
namespace Go.Proofs.YtgeahpfdaehjaaaGreatDoor
open Go.ChangeShapes Go.WideShapes Go.ChangeAt Go.RowKit
set_option linter.unusedVariables false

theorem run_clear_off (w : World) (t e ty : TypeId) (z : Value) (ht : Tryz.prog.underlying t = some (.slice e)) (hv : ∀ w, (zeroValue e).run Tryz.prog w = .ok z w) (hz : z.cells = #[z]) (h1 : z.oneCell' = true) (g o k c : Nat) (hk : 0 < k)
    (cur : Array Value) (hg : w.heap[g]? = some (.cells cur e (0, 0))) (hfit : o + k ≤ cur.size) :
    (Builtin.clear_ #[t] ty #[.slice (some ⟨g, o, none⟩) k c]).run Tryz.prog w = .ok (.tuple #[]) (w.setRow g (cur.toList.take o ++ List.replicate k z ++ cur.toList.drop (o + k)).toArray) := by
  have hzc : (Builtin.zeroCells z.cells k).toList = List.replicate k z := by
    rw [hz]
    simp [Builtin.zeroCells]
    apply List.ext_getElem
    · simp
    · intro i h1 h2
      simp [Nat.mod_one]
  have hst := run_storeCells_at Tryz.prog g o e (List.replicate k z) 0 cur w hg (by simpa using hfit) (fun v hv' => by rw [List.eq_of_mem_replicate hv']; exact h1)
  simp only [Nat.add_zero, List.length_replicate] at hst
  obtain ⟨m, rfl⟩ : ∃ m, k = m + 1 := ⟨k - 1, by omega⟩
  simp [Builtin.clear_, run_underlying ht, hv, hzc, hst]
theorem take_three {α : Type} {c l : List α} {o n k : Nat} {r : List α} (h : (c.drop o).take n = l) (hr : r.length = k) (hk : k ≤ n) (ho : o ≤ c.length) :
    (((c.take o ++ r ++ c.drop (o + k)).drop o).take n) = r ++ l.drop k := by
  have e1 : (c.take o).length = o := by rw [List.length_take]; omega
  rw [List.append_assoc, List.drop_append_of_le_length (by omega), List.drop_eq_nil_of_le (by omega), List.nil_append, List.take_append, List.take_of_length_le (by omega), hr, ← h, List.drop_take, List.drop_drop]
theorem setRow_drewN (w : World) (n g : Nat) (cs : Array Value) : (w.drewN n).setRow g cs = (w.setRow g cs).drewN n := rfl
theorem OwnO.clear {w : World} {B : Nat} {e ts : TypeId} {v z : Value} {n k : Nat} {l : List Value} (hu : Tryz.prog.underlying ts = some (.slice (Tryz.prog.elem ts))) (hu2 : Tryz.prog.underlying ts = some (.slice e)) (hs : ∀ w, (sizeOf (Tryz.prog.elem ts)).run Tryz.prog w = .ok 1 w)
    (hv : ∀ w, (zeroValue e).run Tryz.prog w = .ok z w) (hz : z.cells = #[z]) (h1 : z.oneCell' = true) (h : OwnO w B e v n l) (hk0 : 0 < k) (hk : k ≤ n) :
    ∃ A c w', (∀ w0, (Instr.slice ts v none (some (.int .i64 (k : Int))) none).run Tryz.prog w0 = .ok (.slice A k c) w0) ∧ (∀ ty q, (Builtin.clear_ #[ts] ty #[.slice A k c]).run Tryz.prog (w.drewN q) = .ok (.tuple #[]) (w'.drewN q)) ∧
      OwnO w' B e v n (List.replicate k z ++ l.drop k) ∧ Keeps (fun x => v.ownBlock = some x) w w' := by
  rcases h.2 with ⟨rfl, rfl⟩ | ⟨g, o, c, cur, rfl, hbg, hc, hnc, hcm, hcs, ht⟩
  · omega
  · refine ⟨some ⟨g, o, none⟩, c, w.setRow g (cur.toList.take o ++ List.replicate k z ++ cur.toList.drop (o + k)).toArray, fun w0 => ?_, fun ty q => run_clear_off (w.drewN q) ts e ty z hu2 hv hz h1 g o k c hk0 cur hc (by omega), ⟨?_, .inr ⟨g, o, c, _, rfl, hbg, setRow_heap w g cur _ e _ hc, hnc, hcm, ?_, ?_⟩⟩, ⟨rfl, rfl, rfl, by simp, fun j _ hj => setRow_other w g j _ (fun e => hj (by simp [Value.ownBlock, e]))⟩⟩
    · rw [run_slice_h w0 ts (some ⟨g, o, none⟩) n c hu _ _ (by omega) (by omega), hs]
      simp [Result.andThen, sliced, Addr.add]
    · have := h.1
      rw [List.length_append, List.length_replicate, List.length_drop]
      omega
    · simp only [List.size_toArray, List.length_append, List.length_take, List.length_drop, Array.length_toList, List.length_replicate]
      omega
    · exact take_three ht (by simp) hk (by rw [Array.length_toList]; omega)
/-- 'l[k:]', at whatever world the row is read. -/
theorem OwnO.from2 {w : World} {B : Nat} {e ts : TypeId} {v : Value} {n k : Nat} {l : List Value} (hu : Tryz.prog.underlying ts = some (.slice (Tryz.prog.elem ts))) (hs : ∀ w, (sizeOf (Tryz.prog.elem ts)).run Tryz.prog w = .ok 1 w) (h : OwnO w B e v n l) (hk : k < n) :
    ∃ A c, (∀ w0, (Instr.slice ts v (some (.int .i64 (k : Int))) none none).run Tryz.prog w0 = .ok (.slice A (n - k) c) w0) ∧ (Value.slice A (n - k) c).ownBlock = v.ownBlock ∧ ∀ w1 B1 l1, OwnO w1 B1 e v n l1 → OwnO w1 B1 e (.slice A (n - k) c) (n - k) (l1.drop k) := by
  rcases h.2 with ⟨rfl, rfl⟩ | ⟨g, o, c, cur, rfl, hbg, hc, hnc, hcm, hcs, ht⟩
  · omega
  · refine ⟨some ⟨g, o + k, none⟩, c - k, fun w0 => ?_, rfl, fun w1 B1 l1 h2 => ?_⟩
    · rw [run_slice_l w0 ts (some ⟨g, o, none⟩) n c hu _ _ (by omega) (by omega), hs]
      have : ¬ c = k := by omega
      simp [Result.andThen, sliced, this, Addr.add_lit]
    · rcases h2.2 with ⟨e1, e2⟩ | ⟨g', o', c', cur', e1, hbg', hc', hnc', hcm', hcs', ht'⟩
      · cases e1
      · cases e1
        refine ⟨by rw [List.length_drop, h2.1], .inr ⟨g, o + k, c - k, cur', rfl, hbg', hc', by omega, by omega, by omega, ?_⟩⟩
        rw [← List.drop_drop, ← ht', List.drop_take]
end Go.Proofs.YtgeahpfdaehjaaaGreatDoor
