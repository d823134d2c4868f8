/-
  Layer 12 (deficit): New, Credits.
-/
import Derived.Test.YtjlmefjgolbfiaaDeficitMem
import Derived.Deep.OwnRows
namespace Go.Proofs.Ytjlmefjgolbfiaa
open Go.ChangeShapes Go.WideShapes Go.ChangeAt Go.RowKit
set_option linter.unusedVariables false

def errT (c : Nat) : Value := .iface 31 (.int .i64 (c : Nat))
/-- So many zeros, as cells. -/
def zs (n : Nat) : Array Value := madeCells #[.int .i64 0] n
theorem zs_list {n : Nat} (h : n ≤ 4) : (zs n).toList = (List.replicate n (0 : Int)).map encN := by
  obtain rfl | rfl | rfl | rfl | rfl : n = 0 ∨ n = 1 ∨ n = 2 ∨ n = 3 ∨ n = 4 := by omega
  all_goals first | kernel_rfl | (simp [zs, madeCells, encN]; done) | decide
theorem make_zeros (w : World) {n : Nat} (h : n ≤ 4) :
    (Instr.makeSlice 22 (.int .i64 (n : Int)) (.int .i64 (n : Int))).run Try.prog w = .ok (.slice (some ⟨w.heap.size, 0, none⟩) n n) (w.alloc (.cells (zs n) 3)) ∧
      (w.alloc (.cells (zs n) 3)).ownsRow w.heap.size 3 1 (.slice (some ⟨w.heap.size, 0, none⟩) n n) n ((List.replicate n (0 : Int)).map encN) := by
  obtain ⟨i, hi, hz0, hz1, hz2⟩ := info_parts infoI
  have e1 := run_make_row' (P := Try.prog) 22 3 (.int .i64 0) 8 Try.underlying22 infoI rfl .i64 .i64 n (by omega) (by omega) w
  obtain ⟨w', e2, own, _⟩ := run_make_full (P := Try.prog) (w := w) w.heap.size 22 3 i (.int .i64 0) 1 Try.underlying22 hi hz0 hz1 .i64 .i64 n (by rw [hz2]; omega) (by unfold maxLen; omega) (Nat.le_refl _)
  refine ⟨e1, ?_⟩
  rw [e1] at e2
  cases e2
  have e3 : (madeCells (Value.int .i64 0).cells (n * 1)).toList = (List.replicate n (0 : Int)).map encN := by rw [Nat.mul_one]; exact zs_list h
  rw [e3] at own
  exact own
theorem bel_alloc {w w1 : World} (h : Below w.heap.size w w1) (o : Obj) : Below w.heap.size w (w1.alloc o) := h.alloc h.size o
theorem bel_drew {w w1 : World} (h : Below w.heap.size w w1) : Below w.heap.size w w1.drew := h.trans ((below_drew w1).mono h.size)
theorem own_base {w : World} {B B' : Nat} {e : TypeId} {sz : Nat} {v : Value} {n : Nat} {l : List Value} (h : w.ownsRow B e sz v n l) (hB : B' ≤ B) : w.ownsRow B' e sz v n l := ⟨h.1, by
  rcases h.2 with h | ⟨g, c, cur, e, hb, r⟩
  · exact .inl h
  · exact .inr ⟨g, c, cur, e, by omega, r⟩⟩
def Eo (B gq g : Nat) : Prop := B ≤ g ∧ g ≠ gq
/-- What New makes: turns at their start. -/
def Made (w : World) (q : List Int) (e : Ending) (w' : World) : Prop :=
  ∃ a gq A cap vc, e = .returned (.tuple #[.pointer (some ⟨a, 0, none⟩), .nilIface]) ∧ Tg 44 w' (Eo w.heap.size gq) a A cap vc q ⟨List.replicate q.length 0, 0, false⟩ ∧ Below w.heap.size w w' ∧ gq < w'.heap.size
theorem new_end {w w3 : World} {q : List Int} {vq vc : Value} {n : Nat} (hn : q.length = n) (b : Below w.heap.size w w3) (oq : w3.ownsRow w.heap.size 3 1 vq n (q.map encN)) (oc : w3.ownsRow w.heap.size 3 1 vc n ((List.replicate n (0 : Int)).map encN))
    (hne : ∀ g, vq.ownBlock = some g → vc.ownBlock ≠ some g) (h0 : q ≠ []) :
    Made w q (.returned (.tuple #[.pointer (some ⟨w3.heap.size, 0, none⟩), .nilIface])) (w3.alloc (.cells #[vq, vc, .int .i64 0, .bool false] 44)) := by
  subst hn
  have b4 : Below w.heap.size w (w3.alloc (.cells #[vq, vc, .int .i64 0, .bool false] 44)) := b.alloc b.size _
  obtain ⟨gq, cq, rfl⟩ : ∃ gq cq, vq = .slice (some ⟨gq, 0, none⟩) q.length cq := by
    rcases oq.2 with ⟨_, e⟩ | ⟨g, c, cur, e, _⟩
    · exact absurd (List.length_eq_zero_iff.1 e) h0
    · exact ⟨g, c, e⟩
  have lq := World.ownsRow.lt oq gq rfl
  have s4 : (w3.alloc (.cells #[.slice (some ⟨gq, 0, none⟩) q.length cq, vc, .int .i64 0, .bool false] 44)).heap.size = w3.heap.size + 1 := by simp
  obtain ⟨A, cap, e, rd⟩ := owns_rdq (E := Eo w.heap.size gq) (World.ownsRow.alloc oq (.cells #[.slice (some ⟨gq, 0, none⟩) q.length cq, vc, .int .i64 0, .bool false] 44)) (fun g hg => by cases hg; exact fun h => h.2 rfl)
  cases e
  refine ⟨w3.heap.size, gq, _, _, vc, rfl, ⟨heap_alloc_new w3 _, ?_, rd, fun g hg => ?_⟩, b4, by omega⟩
  · have oc' := World.ownsRow.alloc oc (.cells #[.slice (some ⟨gq, 0, none⟩) q.length cq, vc, .int .i64 0, .bool false] 44)
    simp only [List.length_replicate]
    exact ⟨oc'.1, by
      rcases oc'.2 with h | ⟨g, c, cur, e, hb, r⟩
      · exact .inl h
      · exact .inr ⟨g, c, cur, e, Nat.zero_le _, r⟩⟩
  · rcases hg with rfl | hg
    · exact ⟨b.size, fun e => by omega⟩
    · have := World.ownsRow.lt oc g hg
      exact ⟨this.1, fun e => hne gq rfl (by rw [← e]; exact hg)⟩
section
variable {w w' : World} {E : Nat → Prop} {A : Option Addr} {cap : Nat} {q : List Int}
set_option maxRecDepth 100000 in
theorem newT_bad (h : RdQ w E A cap q) (hl : q.length ≤ 9223372036854775807) (hb : rightB q = false) :
    Calls Try.prog 5 #[.slice A q.length cap] w fun e w' => e = .returned (.tuple #[.pointer none, errT 1]) ∧ Below w.heap.size w w' := by
  have C := Lib.hid (within_walk h 1 hl)
  have HB := Lib.hid hb
  obtain ⟨N, hN⟩ : ∃ N, q.length = N := ⟨_, rfl⟩
  have HN := Lib.hid hN
  rw [hN] at hl C ⊢
  clear h hN hb
  by_cases h1 : 1 ≤ N
  · by_cases h4 : N ≤ 4
    · have hany : q.any (inB 1) = true := by
        have := HB.out
        unfold rightB at this
        rw [HN.out, decide_eq_true h1, decide_eq_true h4] at this
        simpa using this
      rw [hany] at C
      clear hany
      go_enter Try.func5, Try.ntmps5
      go_wp2_with fail
      refine C.out.mono ?_
      rintro e w' ⟨rfl, rfl⟩
      go_wp2_with fail
      go_ret2
      exact ⟨rfl, (Below.refl _ _).alloc (Nat.le_refl _) _⟩
    · go_enter Try.func5, Try.ntmps5
      go_wp2_with fail
      go_ret2
      exact ⟨rfl, Below.refl _ _⟩
  · go_enter Try.func5, Try.ntmps5
    go_wp2_with fail
    go_ret2
    exact ⟨rfl, Below.refl _ _⟩
set_option maxRecDepth 100000 in
theorem newT_good (h : RdQ w E A cap q) (hb : Qok q) : Calls Try.prog 5 #[.slice A q.length cap] w (Made w q) := by
  have h1 := hb.n1
  have h4 := hb.n4
  have hn : q ≠ [] := fun e => by subst e; simp at h1
  have C := Lib.hid (within_walk h 1 (by omega))
  have CC : Hid (∀ w1, Below w.heap.size w w1 → Calls Try.prog 12 #[.slice A q.length cap] w1 fun e w' => ∃ g c, e = .returned (.slice (some ⟨g, 0, none⟩) q.length c) ∧ w'.ownsRow w1.heap.size 3 1 (.slice (some ⟨g, 0, none⟩) q.length c) q.length (q.map encN) ∧ Below w1.heap.size w1 w') :=
    Lib.hid (fun w1 b => (clone_walk (h.still b) (by omega) hn).mono (by
      rintro e w' ⟨v, rfl, o, b'⟩
      rcases o.2 with ⟨_, e⟩ | ⟨g, c, cur, rfl, _⟩
      · exact absurd (List.length_eq_zero_iff.1 e) hn
      · exact ⟨g, c, rfl, o, b'⟩))
  have hmk := fun w1 => (make_zeros w1 h4).1
  have HM := Lib.hid (fun w1 => (make_zeros w1 h4).2)
  have hany : q.any (inB 1) = false := by
    rw [List.any_eq_false]
    intro x hx
    obtain ⟨j, hj⟩ := List.getElem?_of_mem hx
    have := hb.qq j x hj
    simp [inB]; omega
  rw [hany] at C
  have NE := Lib.hid (fun (w3 : World) (vq vc : Value) => new_end (w := w) (w3 := w3) (vq := vq) (vc := vc) (q := q) rfl)
  have HN := Lib.hid hn
  clear h hany hn
  generalize q.length = N at *
  go_enter Try.func5, Try.ntmps5
  go_wp2_with fail
  refine C.out.mono ?_
  rintro e w' ⟨rfl, rfl⟩
  clear C
  go_wp2_with fail
  go_region_law (go_simp; go_at_call 12; (refine (CC.out _ ?hbel).mono ?_; case hbel => repeat (first | exact Below.refl _ _ | apply bel_drew | apply bel_alloc)); rintro e w' ⟨g5, c5, rfl, o5, b5⟩; try dsimp only)
  · have M := NE.out (w'.alloc (.cells (zs N) 3)) (.slice (some ⟨g5, 0, none⟩) N c5) (.slice (some ⟨w'.heap.size, 0, none⟩) N N)
      (bel_alloc ((bel_drew (bel_alloc (Below.refl _ w) _)).trans (b5.mono (by simp))) _) (World.ownsRow.alloc (own_base o5 (by simp)) _) (own_base (HM.out w') (by have := b5.size; simp at this; omega))
      (fun g hg e => by
        have := World.ownsRow.lt o5 g hg
        simp only [Value.ownBlock, Option.some.injEq] at e
        omega) HN.out
    rw [World.size_alloc] at M
    have MM := Lib.hid M
    clear M NE CC HM hmk
    go_wp2_with fail
    go_ret2
    exact MM.out
  · have M := NE.out w' (.slice (some ⟨g5, 0, none⟩) N c5) (.slice (some ⟨w.heap.size + 1, 0, none⟩) N N)
      ((bel_drew (bel_alloc (bel_alloc (Below.refl _ w) _) _)).trans (b5.mono (bel_drew (bel_alloc (bel_alloc (Below.refl _ w) _) _)).size)) (own_base o5 (bel_drew (bel_alloc (bel_alloc (Below.refl _ w) _) _)).size) (by
        have o := HM.out (w.alloc (.cells #[.int .i64 1] 3))
        rw [World.size_alloc] at o
        have o' := own_base (B' := w.heap.size) o (by omega)
        have k : Keeps (fun _ => False) ((w.alloc (.cells #[.int .i64 1] 3)).alloc (.cells (zs N) 3)) w' := (Keeps.refl _ _).drew.trans (Keeps.of_below b5 (Nat.le_refl _) (fun _ => False)) (fun _ e => e.elim)
        exact owns_keeps o' k (fun _ _ e => e))
      (fun g hg e => by
        have h2 := (World.ownsRow.lt o5 g hg).1
        simp only [Value.ownBlock, Option.some.injEq] at e
        have h3 : w.heap.size + 2 ≤ g := by simpa using h2
        omega) HN.out
    have MM := Lib.hid M
    clear M NE CC HM hmk
    go_wp2_with fail
    go_ret2
    exact MM.out
theorem credits_walk {a : Nat} {vc : Value} {s : Tn} (h : Tg 44 w E a A cap vc q s) (ok : Tok q s) :
    Calls Try.prog 10 #[.pointer (some ⟨a, 0, none⟩)] w fun e w' => ∃ v, e = .returned v ∧ w'.ownsRow w.heap.size 3 1 v s.c.length (s.c.map encN) ∧ Below w.heap.size w w' := by
  have h1 := ok.ok.n1
  have h4 := ok.ok.n4
  have hl := ok.len
  obtain ⟨A2, c2, rfl, rd⟩ := owns_rdq (E := fun _ => False) h.row (fun _ _ e => e)
  have C := Lib.hid (clone_walk rd (by omega) (fun e => by rw [e] at hl; simp at hl; omega))
  have c1 := h.c1
  clear h rd hl h1 h4
  generalize s.c.length = N at *
  go_enter Try.func10, Try.ntmps10
  go_wp2_with fail
  refine C.out.mono ?_
  rintro e w' ⟨v, rfl, o5, b5⟩
  have O := Lib.hid (And.intro o5 b5)
  clear o5 b5 C
  go_wp2_with fail
  go_ret
  exact ⟨v, rfl, O.out⟩
end
end Go.Proofs.Ytjlmefjgolbfiaa
