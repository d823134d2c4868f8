/-
  Layer 8 (disk): Parts: the map's keys, sorted (maps.Keys and slices.Sorted by the library's contracts).
-/
import Derived.Test.YtgohgmihoggcpaaDiskOps
import Derived.Test.YtgohgmihoggcpaaShelf
namespace Go.Proofs.Ytgohgmihoggcpaa
open Go.ChangeShapes Go.WideShapes Go.ChangeAt Go.RowKit Go.Maps Go.Sort Go.Shelf
set_option linter.unusedVariables false

theorem sortsA (m : Nat) : AnyZI.SortsIn Try.prog Try.sortedA_ren Fence.wide m :=
  ⟨fun blk off cap ss W hH hblk hsz => callsIn_wide.2 (Try.slices_Sort_int blk off cap ss W hH hblk hsz),
   fun p cap W => callsIn_wide.2 (Try.slices_Sort_int_none p cap W)⟩
def nums (L : List Pt) : List Int := L.map (·.n)
theorem keys_ents (xs : List (Pt × Value)) : intKeys (ents xs) = nums (pts xs) := by
  unfold nums pts
  show (xs.map ent).map (fun p => Go.intOf p.1) = _
  rw [List.map_map, List.map_map]
  rfl
theorem sorted_nums {L : List Pt} (h : Rises L) {ss : List Int} (hp : ss.Perm (nums L)) : ss.mergeSort (fun x y => decide (x ≤ y)) = nums L := by
  rw [mergeSort_of_perm_i hp]
  have tr : ∀ a b c : Int, leI a b = true → leI b c = true → leI a c = true := fun a b c h1 h2 => by simp only [leI, decide_eq_true_eq] at *; exact Int.le_trans h1 h2
  have to : ∀ a b : Int, (leI a b || leI b a) = true := fun a b => by simp only [leI, Bool.or_eq_true, decide_eq_true_eq]; exact Int.le_total a b
  refine List.Perm.eq_of_pairwise (le := fun a b => leI a b = true) (fun a b _ _ h1 h2 => ?_) (List.pairwise_mergeSort tr to _) (List.pairwise_map.2 (h.imp fun {a b} h => ?_)) (List.mergeSort_perm _ leI)
  · simp only [leI, decide_eq_true_eq] at h1 h2
    exact Int.le_antisymm h1 h2
  · simp only [leI, decide_eq_true_eq]; omega
/-- Whole numbers in a row of one's own. -/
def OI (w : World) (B : Nat) (v : Value) (l : List Int) : Prop := w.ownsRow B 3 1 v l.length (l.map encZ)
set_option maxHeartbeats 1000000 in
theorem partsD (w : World) (F : Nat → Prop) (a rm : Nat) (dn : Bool) (L : List Pt) (h : Dsk w F a rm dn L) (hi : Rises L) (hl : L.length ≤ 1000) :
    Calls Try.prog 15 #[.pointer (some ⟨a, 0, none⟩)] w fun e w' => ∃ v, e = .returned v ∧ OI w' w.heap.size v (nums L) ∧ Below w.heap.size w w' := by
  obtain ⟨b, xs, hd, rfl, hF⟩ := h
  refine (callsIn_wide (n := 6)).1 ?_
  have hown := hd.map
  have hbl := hown.lt
  have hsz : Maps.size (ents xs) = xs.length := by show (xs.map ent).length = _; simp
  have hxl : xs.length ≤ 1000 := by simpa using hl
  have hseq : SeqGives Fence.wide 2 Try.prog 36 #[.pointer (some ⟨w.heap.size, 0, none⟩)] encZ (fun ss => ss.Perm (intKeys (ents xs))) (Maps.size (ents xs)) (w.alloc (.cells #[.map (some b)] 41)) :=
    AnyZI.keys_gives (ρ := Try.keysA_ren) { Try.keysA with } Fence.wide _ trivial rfl (by omega) w.heap.size b xs.length (ents xs) _ (by simp) (by simp) (hown.alloc _)
  have cK : ∀ mb W, CallsIn Fence.wide 5 Try.prog 26 #[.map mb] W fun e w' => e = .returned (.func (.func 36) #[] #[.pointer (some ⟨W.heap.size, 0, none⟩)]) ∧ w' = W.alloc (.cells #[.map mb] 41) := fun mb W => AnyZI.keys_in Try.keysA Fence.wide 5 trivial rfl mb W
  have cS := AnyZI.sorted_in Try.sortedA Fence.wide 5 trivial trivial trivial trivial rfl (by omega) (sortsA _) (enters_of Try.func35 (by kernel_rfl) rfl) 36 #[.pointer (some ⟨w.heap.size, 0, none⟩)] trivial (enters_of Try.func36 (by kernel_rfl) rfl) _ _ (by rw [hsz]; unfold maxLen; omega) (by rw [hsz]; omega) _ hseq
  change CallsIn _ _ Try.prog 25 _ _ _ at cS
  have hfK : Fence.wide.fn 26 := trivial
  have hfS : Fence.wide.fn 25 := trivial
  have c3 := hd.c3
  clear hown hd hF
  refine callsIn_of_wp Try.func15 rfl trivial ?_ rfl
  simp only [Try.ntmps15, List.size_toArray, List.length_cons, List.length_nil, Nat.reduceAdd, Nat.reduceSub, Array.replicate_succ, Array.replicate_zero, List.push_toArray, List.append_toArray, List.nil_append, List.cons_append]
  gi_wp2_with (first
    | (gi_at_call 26; refine (cK _ _).mono ?_; rintro e w' ⟨rfl, rfl⟩)
    | (gi_at_call 25; refine cS.mono ?_; rintro e w' ⟨v, ss, rfl, hS, hrow, hnil, hb⟩))
  go_ret
  rw [keys_ents] at hS
  have hlen := hS.length_eq
  rw [sorted_nums hi hS, hlen] at hrow
  exact ⟨v, rfl, owns_mono hrow (by simp), ((Below.refl _ w).alloc (Nat.le_refl _) _).trans (hb.mono (by simp))⟩
end Go.Proofs.Ytgohgmihoggcpaa
