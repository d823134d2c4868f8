/-
  Layer 4: the document's own Parse: what stands behind its calls.
-/
import Derived.Test.YtedhciolnekpaaaGreatDoorQLineRefVal
import Derived.Test.YtedhciolnekpaaaGreatDoorQLineParse
import Derived.Test.YtedhciolnekpaaaGreatDoorGrpD
import Derived.Deep.RegionLaw
import Derived.Laws.DeepStrings4
namespace Go.Proofs.YtedhciolnekpaaaGreatDoor
open Go.ChangeShapes Go.WideShapes Go.ChangeAt Go.RowKit
set_option linter.unusedVariables false

theorem take_takeWhile (p : UInt8 → Bool) : ∀ l : List UInt8, l.take (l.takeWhile p).length = l.takeWhile p
  | [] => rfl
  | c :: l => by
    rw [List.takeWhile_cons]
    split
    · rw [List.length_cons, List.take_succ_cons, take_takeWhile p l]
    · rfl
theorem all_takeWhile (p : UInt8 → Bool) : ∀ l : List UInt8, ∀ c ∈ l.takeWhile p, p c = true
  | [], c, h => by cases h
  | d :: l, c, h => by
    rw [List.takeWhile_cons] at h
    split at h
    · rcases List.mem_cons.1 h with e | e
      · rw [e]; assumption
      · exact all_takeWhile p l c e
    · cases h
theorem run_list (p : UInt8 → Bool) (s : ByteArray) (k : Nat) : (s.extract k (runEnd p s k)).data.toList = (s.data.toList.drop k).takeWhile p := by
  rw [extract_list]
  unfold runEnd
  rw [show k + ((s.data.toList.drop k).takeWhile p).length - k = ((s.data.toList.drop k).takeWhile p).length by omega, take_takeWhile]

/-- What stands from a place to where its number ends is a sign or none, and digits. -/
theorem num_signed (s : ByteArray) (k : Nat) : ∃ (neg : Bool) (d : ByteArray), (s.extract k (numEnd s k)).data.toList = signed neg d.data.toList ∧ ∀ c ∈ d.data.toList, isD c = true := by
  by_cases h : chr s k = 45
  · have hk := chr_lt_size (s := s) (k := k) (by omega)
    refine ⟨true, s.extract (k + 1) (runEnd isD s (k + 1)), ?_, fun c hc => ?_⟩
    · have hge := runEnd_ge isD s (k + 1)
      rw [numEnd, if_pos h, extract_list, drop_at s k hk, extract_list]
      rw [show runEnd isD s (k + 1) - k = (runEnd isD s (k + 1) - (k + 1)) + 1 by omega, List.take_succ_cons]
      simp only [signed, if_true]
      have e : s[k] = 45 := UInt8.toNat_inj.1 (by rw [← chr_in hk, h]; rfl)
      rw [e]
    · rw [run_list] at hc; exact all_takeWhile _ _ c hc
  · refine ⟨false, s.extract k (runEnd isD s k), ?_, fun c hc => ?_⟩
    · rw [numEnd, if_neg h]; rfl
    · rw [run_list] at hc; exact all_takeWhile _ _ c hc
theorem refNum (s : ByteArray) (k : Nat) (lo hi : Int) (w : World) (hs : s.size ≤ 300) (hk : k ≤ s.size)
    (l0 : -9223372036854775808 ≤ lo) (l1 : lo ≤ 9223372036854775807) (h0 : -9223372036854775808 ≤ hi) (h1 : hi ≤ 9223372036854775807) :
    Calls Tryz.prog 60 #[.string (s.extract k (numEnd s k)), .int .i64 lo, .int .i64 hi] w (RV (numAt s k lo hi) w) := by
  obtain ⟨neg, d, ht, hd⟩ := num_signed s k
  have hsz : (s.extract k (numEnd s k)).size ≤ 300 := by rw [extract_size _ _ _ (numEnd_le hk).2]; have := (numEnd_le hk).2; omega
  have h := refValue (s.extract k (numEnd s k)) d neg lo hi w hsz ht hd l0 l1 h0 h1
  have e : within lo hi (refVal neg d.data.toList) = numAt s k lo hi := by
    unfold numAt
    rw [ht, valOf_signed neg _ hd]
    rfl
  rw [e] at h
  exact h

def RefBad (w : World) (p : Nat) (e : Ending) (w' : World) : Prop := e = .returned (.tuple #[evZero, .int .i64 p]) ∧ Below w.heap.size w w'
def RefGood (w : World) (ev : Ev) (e : Ending) (w' : World) : Prop :=
  ∃ A c, e = .returned (.tuple #[evVal ev.name A ev.tags.length c ev.kind ev.value ev.time, .int .i64 (-1)]) ∧ OwnT w' w.heap.size A c ev.tags ∧ Below w.heap.size w w'
def RefPost (w : World) (r : Res) (e : Ending) (w' : World) : Prop :=
  match r with
  | .bad p => RefBad w p e w'
  | .good ev => RefGood w ev e w'

/-- Where the document's Parse stands: the result's block, the event's behind it. -/
structure AtR (w : World) (n : ByteArray) (A : Option Addr) (c : Nat) (kd v t : Int) (ts : Tags) (w1 : World) : Prop where
  grown : w.grownBy w1 none
  res : EvB w1 w.heap.size ⟨#[]⟩ none 0 0 0 0 0
  ev : EvB w1 (w.heap.size + 1) n A ts.length c kd v t
  own : OwnT w1 (w.heap.size + 2) A c ts
section
variable {w w1 w2 : World} {n : ByteArray} {A : Option Addr} {c : Nat} {kd v t : Int} {ts : Tags}
theorem EvB.other {w : World} {g : Nat} {n : ByteArray} {A : Option Addr} {l c : Nat} {k v t : Int} (h : EvB w g n A l c k v t) (a : Addr) (x : Value) (ha : g ≠ a.block) : EvB (w.setCell a x) g n A l c k v t := by
  unfold EvB; rw [heap_set_other ha]; exact h
theorem AtR.put (h : AtR w n A c kd v t ts w1) (o : Nat) (x : Value) {n' : ByteArray} {A' : Option Addr} {c' : Nat} {kd' v' t' : Int} {ts' : Tags}
    (he : EvB (w1.setCell ⟨w.heap.size + 1, o, none⟩ x) (w.heap.size + 1) n' A' ts'.length c' kd' v' t') (ho : OwnT w1 (w.heap.size + 2) A' c' ts') : AtR w n' A' c' kd' v' t' ts' (w1.setCell ⟨w.heap.size + 1, o, none⟩ x) where
  grown := grown_set h.grown _ _ (Or.inr (Nat.le_succ _))
  res := h.res.other _ _ (by show w.heap.size ≠ w.heap.size + 1; omega)
  ev := he
  own := ho.set _ _ (Nat.lt_succ_self _)
theorem AtR.below (h : AtR w n A c kd v t ts w1) (hb : Below (w.heap.size + 2) w1 w2) :
    w.grownBy w2 none ∧ EvB w2 w.heap.size ⟨#[]⟩ none 0 0 0 0 0 ∧ EvB w2 (w.heap.size + 1) n A ts.length c kd v t := by
  refine ⟨grown_of_below h.grown hb (by omega), ?_, ?_⟩
  · unfold EvB; rw [hb.block _ (by omega)]; exact h.res
  · unfold EvB; rw [hb.block _ (by omega)]; exact h.ev
theorem AtR.back (h : AtR w n A c kd v t ts w1) (v0 v1 v2 v3 v4 : Value) : Below w.heap.size w (((((w1.setCell ⟨w.heap.size, 0, none⟩ v0).setCell ⟨w.heap.size, 1, none⟩ v1).setCell ⟨w.heap.size, 2, none⟩ v2).setCell ⟨w.heap.size, 3, none⟩ v3).setCell ⟨w.heap.size, 4, none⟩ v4) :=
  below_of_grown (grown_set5 h.grown (Nat.le_refl _) _ _ _ _ _)
end
theorem slice_str (s : ByteArray) (x y : Int) (a b : Nat) (hx : x = a) (hy : y = b) (hab : a ≤ b) (hb : b ≤ s.size) (w : World) :
    (Instr.slice 9 (.string s) (some (.int .i64 x)) (some (.int .i64 y)) none).run Tryz.prog w = .ok (.string (s.extract a b)) w := by
  subst hx hy
  rw [run_slice_string_if w _ _ _ _ _ _ Tryz.underlying9, if_pos (by omega), if_pos (by omega)]
  simp
theorem step_append_run {P : Program} {ops : Array Oper} {o : Oper} {a : Act} {w w' : World} {K : Act → World → Prop} {Q : Exit → Act → World → Prop} {E : Prop}
    (hg : o.guard = none) (s x : Operand) (t : TypeId) (hop : o.op = Op.call { callee := Callee.builtin Builtin.append, args := #[s, x], argTypes := #[t, t] })
    (vs vx v' : Value) (hs : a.eval s = vs) (hx : a.eval x = vx) (hrun : (Builtin.append_ #[t, t] o.type #[vs, vx]).run P w = .ok v' w') (hK : K (a.put o.dst v') w') :
    if Region.wanted o (yielded ops a.tmps) = true then Oper.wp P o a w K Q else E := by
  have hw : Region.wanted o (yielded ops a.tmps) = true := by simp [Region.wanted, hg]
  rw [if_pos hw]
  unfold Oper.wp
  simp [execOp, hop, resolve, invoke, builtin, hs, hx, hrun, Result.andThen]
  exact hK
end Go.Proofs.YtedhciolnekpaaaGreatDoor
