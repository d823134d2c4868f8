/-
  The head of layer 2's laws (the document's example), walked: it is true, and turns nothing that was there.
-/
import Derived.Test.YthjdcailnibeiaaEdgeSort
namespace Go.Proofs.Ythjdcailnibeiaa
open Go.Shelf Go.RowKit Go.Lib Go.Sort
set_option linter.unusedVariables false

def ex4 : Array UInt64 := #[0, 9221120237041090561, 18442240474082181120, 9223372036854775808]
def ex4s : Array UInt64 := #[18442240474082181120, 9223372036854775808, 0, 9221120237041090561]

theorem ex4_sorted (d' : Array UInt64) (hP : PermIn 0 4 ex4 d') (hS : SortedIn ltF 0 4 d') : d' = ex4s := by
  obtain ⟨hz, _, hp⟩ := hP
  have hz4 : d'.size = 4 := hz
  have e1 : d'.extract 0 4 = d' := by rw [← hz4]; exact Array.extract_size
  have e2 : ex4.extract 0 4 = ex4 := rfl
  rw [e1, e2] at hp
  have hp2 : ex4.toList.Perm ex4s.toList := by decide +kernel
  have hp3 := hp.trans hp2
  have hpw : d'.toList.Pairwise (fun x y => ltF y x = false) := by
    rw [List.pairwise_iff_getElem]
    intro i j hi hj hij
    have h := hS i j (Nat.zero_le _) hij (by simp at hj; omega)
    rw [getElem!_pos d' i (by simpa using hi), getElem!_pos d' j (by simpa using hj)] at h
    simpa using h
  have hpw2 : ex4s.toList.Pairwise (fun x y => ltF y x = false) := by decide +kernel
  have hanti : ∀ a ∈ ex4s.toList, ∀ b ∈ ex4s.toList, ltF b a = false → ltF a b = false → a = b := by decide +kernel
  have := List.Perm.eq_of_pairwise (le := fun x y => ltF y x = false) (l₁ := d'.toList) (l₂ := ex4s.toList) (fun a b ha hb h1 h2 => hanti a (hp3.mem_iff.1 ha) b hb h1 h2) hpw hpw2 hp3
  exact Array.toList_inj.1 this

theorem isInf_minus (w : World) : Calls Try.prog 21 #[.float .f64 18442240474082181120, .int .i64 (-1)] w (Bools true w) := by
  have h1 : ∀ w, (Op.unary .neg (.float .f64 18442240474082181120)).run Try.prog w = .ok (.float .f64 9218868437227405312) w := fun _ => by kernel_rfl
  have h2 : (FloatKind.f64.format.order 9218868437227405312 9218868437227405311 == some .gt) = true := by kernel_rfl
  go_enter Try.func21, Try.ntmps21
  go_wp2
  go_ret
  exact ⟨rfl, rfl⟩
theorem signbit_one (w : World) : Calls Try.prog 22 #[.float .f64 9223372036854775808] w (Bools true w) := by
  have h1 := bits_run 9223372036854775808
  have h2 : wrap64 9223372036854775808 = -9223372036854775808 := by kernel_rfl
  go_enter Try.func22, Try.ntmps22
  go_wp2
  go_ret
  exact ⟨rfl, rfl⟩
theorem signbit_zero (w : World) : Calls Try.prog 22 #[.float .f64 0] w (Bools false w) := by
  have h1 := bits_run 0
  go_enter Try.func22, Try.ntmps22
  go_wp2
  go_ret
  exact ⟨rfl, rfl⟩
def Floats (n : Nat) (w : World) (e : Ending) (w' : World) : Prop := e = .returned (.float .f64 n) ∧ w = w'
theorem nan_walk (w : World) : Calls Try.prog 18 #[] w (Floats 9221120237041090561 w) := by
  have h1 := frombits_run 9221120237041090561
  go_enter Try.func18, Try.ntmps18
  go_wp2
  go_ret
  exact ⟨rfl, rfl⟩
theorem inf_walk (w : World) : Calls Try.prog 19 #[.int .i64 (-1)] w (Floats 18442240474082181120 w) := by
  have h1 := frombits_run 18442240474082181120
  go_enter Try.func19, Try.ntmps19
  go_wp2
  go_ret
  exact ⟨rfl, rfl⟩
theorem copysign_walk (w : World) : Calls Try.prog 20 #[.float .f64 0, .float .f64 13830554455654793216] w (Floats 9223372036854775808 w) := by
  have h1 := bits_run 0
  have h2 := bits_run 13830554455654793216
  have h3 := frombits_run 9223372036854775808
  have h4 : bits .andNot .u64 0 9223372036854775808 = 0 := by kernel_rfl
  have h5 : bits .and .u64 13830554455654793216 9223372036854775808 = 9223372036854775808 := by kernel_rfl
  have h6 : bits .or .u64 0 9223372036854775808 = 9223372036854775808 := by kernel_rfl
  go_enter Try.func20, Try.ntmps20
  go_wp2
  go_ret
  exact ⟨rfl, rfl⟩

def Ups (w : World) (e : Ending) (w' : World) : Prop := e = .returned (.bool true) ∧ Go.RowKit.Below w.heap.size w w'

theorem rd4 (w : World) : RdF (w.alloc (.cells #[.float .f64 0, .float .f64 9221120237041090561, .float .f64 18442240474082181120, .float .f64 9223372036854775808] 22)) (some ⟨w.heap.size, 0, none⟩) ex4 := by
  intro i hi
  refine ⟨_, rfl, ?_⟩
  rw [add_zero_off, World.cell?_alloc_new]
  have hi : i < 4 := hi
  match i, hi with
  | 0, _ => rfl
  | 1, _ => rfl
  | 2, _ => rfl
  | 3, _ => rfl

theorem rd_four {w : World} {g : Nat} (h : RdF w (some ⟨g, 0, none⟩) ex4s) :
    w.cell? ⟨g, 0, none⟩ = some (.float .f64 18442240474082181120) ∧ w.cell? ⟨g, 1, none⟩ = some (.float .f64 9223372036854775808) ∧
    w.cell? ⟨g, 2, none⟩ = some (.float .f64 0) ∧ w.cell? ⟨g, 3, none⟩ = some (.float .f64 9221120237041090561) := by
  refine ⟨?_, ?_, ?_, ?_⟩
  · obtain ⟨ad, e, h0⟩ := h 0 (by decide); cases e; rw [add_zero_off] at h0; exact h0
  · obtain ⟨ad, e, h0⟩ := h 1 (by decide); cases e; rw [add_zero_off] at h0; exact h0
  · obtain ⟨ad, e, h0⟩ := h 2 (by decide); cases e; rw [add_zero_off] at h0; exact h0
  · obtain ⟨ad, e, h0⟩ := h 3 (by decide); cases e; rw [add_zero_off] at h0; exact h0

theorem up_any (w : World) : Calls Try.prog 7 #[] w (Ups w) := by
  have C := fun w => Lib.hid (sort_walk (some ⟨w.heap.size, 0, none⟩) ex4 4 _ (rd4 w) (fun ad h _ => by cases h; simp) (by decide))
  have hn : ex4.size = 4 := rfl
  simp only [hn] at C
  have c1 := fun w => Lib.hid (less_walk 4607182418800017408 4611686018427387904 w (by decide) (by decide))
  have c2 := fun w => Lib.hid (alike_walk 4607182418800017408 4607182418800017408 w (by decide) (by decide))
  have e1 : ahead 4607182418800017408 4611686018427387904 = true := by decide +kernel
  have e2 : alike 4607182418800017408 4607182418800017408 = true := by decide +kernel
  rw [e1] at c1
  rw [e2] at c2
  have c3 := fun w => Lib.hid (isNaN_walk 9221120237041090561 w (by decide))
  have e3 : isNan 9221120237041090561 = true := by decide +kernel
  rw [e3] at c3
  have e4 : (FloatKind.f64.format.order 9223372036854775808 0 == some .eq) = true := by kernel_rfl
  go_enter Try.func7, Try.ntmps7
  go_wp2_with (first
    | ((go_at_call 18; with_reducible refine (nan_walk _).mono ?_); rintro e w' ⟨rfl, rfl⟩)
    | ((go_at_call 19; with_reducible refine (inf_walk _).mono ?_); rintro e w' ⟨rfl, rfl⟩)
    | ((go_at_call 20; with_reducible refine (copysign_walk _).mono ?_); rintro e w' ⟨rfl, rfl⟩)
    | ((go_at_call 21; with_reducible refine (isInf_minus _).mono ?_); rintro e w' ⟨rfl, rfl⟩)
    | ((go_at_call 22; with_reducible refine (signbit_one _).mono ?_); rintro e w' ⟨rfl, rfl⟩)
    | ((go_at_call 22; with_reducible refine (signbit_zero _).mono ?_); rintro e w' ⟨rfl, rfl⟩)
    | ((go_at_call 17; with_reducible refine (c3 _).out.mono ?_); rintro e w' ⟨rfl, rfl⟩)
    | ((go_at_call 8; with_reducible refine (c1 _).out.mono ?_); rintro e w' ⟨rfl, rfl⟩)
    | ((go_at_call 10; with_reducible refine (c2 _).out.mono ?_); rintro e w' ⟨rfl, rfl⟩)
    | ((go_at_call 16; refine (C w).out.mono ?_); rintro e w' ⟨d', rfl, hP, hS, hR, hB⟩; obtain rfl := ex4_sorted d' hP hS; obtain ⟨k0, k1, k2, k3⟩ := rd_four hR; simp only [World.size_alloc] at k0 k1 k2 k3; have HB := Lib.hid hB; clear hB hP hS hR))
  go_ret
  exact ⟨rfl, ((Go.RowKit.Below.refl _ w).alloc (Nat.le_refl _) _).trans (HB.out.mono (by simp))⟩
end Go.Proofs.Ythjdcailnibeiaa
