/-
  Layer 9 (journal): the whole records of a part's bytes.
-/
import Derived.Test.YtgohgmihoggcpaaJournalOps
import Derived.Deep.LoopGhost
namespace Go.Proofs.Ytgohgmihoggcpaa
open Go.ChangeShapes Go.WideShapes Go.ChangeAt Go.RowKit
set_option linter.unusedVariables false

theorem rd_first {w : World} {A : Option Addr} {cap : Nat} {l : List UInt8} (h : RdS w A cap l) : ∀ ad, A = some ad → l ≠ [] → ad.block < w.heap.size := fun ad ha hne => by
  cases l with
  | nil => exact absurd rfl hne
  | cons c l =>
    have h1 := World.block_lt_of_cell? w _ (h.rd ad ha 0 c rfl)
    rw [addr_block] at h1
    exact h1
theorem readerJ (w : World) (A : Option Addr) (cap : Nat) (l : List UInt8) (h : RdS w A cap l) :
    Calls Try.prog 39 #[.slice A l.length cap] w fun e w' => e = .returned (.pointer (some ⟨w.heap.size, 0, none⟩)) ∧ w' = w.alloc (.cells #[.slice A l.length cap, .int .i64 0, .bool false] 82) := by
  clear h
  go_enter Try.func39, Try.ntmps39
  go_wp2
  go_ret
  exact ⟨rfl, rfl⟩
/-- Half way through a part's bytes: the reader stands at p, the row v has the records x. -/
structure Wh (w : World) (A : Option Addr) (cap : Nat) (l : List UInt8) (p : Nat) (x : List Rc) (v : Value) (wx : World) : Prop where
  blk : wx.heap[w.heap.size]? = some (.cells #[.slice A l.length cap, .int .i64 (p : Nat), .bool false] 82 (0, 0))
  row : OS wx w.heap.size v x
  below : Below w.heap.size w wx
section
variable {w w1 w2 : World} {A : Option Addr} {cap p q : Nat} {l : List UInt8} {x : List Rc} {v : Value}
theorem Wh.rdr (h : Wh w A cap l p x v w1) (hr : RdS w A cap l) (hp : p ≤ l.length) : Rdr w1 w.heap.size A cap l ⟨p, false⟩ :=
  ⟨h.blk, hr.below h.below (Nat.le_refl _), fun ad ha hl e => by have := rd_first hr ad ha hl; omega, hp⟩
theorem Wh.text {b : Bool} (h : Wh w A cap l p x v w1) (m : w1.grownBy w2 (some w.heap.size)) : OS w2 w.heap.size v x ∧ Below w.heap.size w w2 := by
  have k : Keeps (fun g => g = w.heap.size) w1 w2 := Keeps.of_grown m (fun g e => by cases e; rfl)
  exact ⟨owns_keeps h.row k (fun g hg e => owns_off h.row h.blk (by decide) (by rw [← e]; exact hg)), h.below.trans (k.below (fun g e => by omega) h.below.size)⟩
theorem Wh.move (h : Wh w A cap l p x v w1) (m : Mr w1 w.heap.size A cap l ⟨q, false⟩ w2) : Wh w A cap l q x v w2 :=
  ⟨m.rdr.blk, (h.text (b := true) m.grown).1, (h.text (b := true) m.grown).2⟩
theorem Wh.still (h : Wh w A cap l p x v w1) (hb : Below w1.heap.size w1 w2) : Wh w A cap l p x v w2 :=
  ⟨by rw [hb.block _ (lt_of_block h.blk)]; exact h.blk, owns_keeps h.row (Keeps.of_below hb (Nat.le_refl _) (fun _ => False)) (fun _ _ e => e), h.below.trans (hb.mono h.below.size)⟩
theorem Wh.add (h : Wh w A cap l p x v w1) (r : Rc) (hl : x.length ≤ 100000) :
    ∃ A' cap' w2, (Builtin.append_ #[45, 45] 45 #[v, .slice (some ⟨w1.heap.size, 0, none⟩) 1 1]).run Try.prog (w1.alloc (.cells #[.string ⟨r.toArray⟩] 9)) = .ok (.slice A' (x.length + 1) cap') w2 ∧
      Wh w A cap l p (x ++ [r]) (.slice A' (x.length + 1) cap') w2 := by
  obtain ⟨v', w2, hrun, hown, hgr, _⟩ := add_str h.row r hl h.below.size
  obtain ⟨A', cap', e, _, _⟩ := owns_view hown
  rw [List.length_append, List.length_singleton] at e
  subst e
  have k : Keeps (fun g => v.ownBlock = some g) w1 w2 := ((Keeps.refl _ w1).alloc _).trans (Keeps.of_grown (F := fun g => v.ownBlock = some g) hgr (fun g e => e)) (fun g e => .inl e)
  exact ⟨A', cap', w2, hrun, keeps_out k h.blk (owns_off h.row h.blk (by decide)), hown, h.below.trans (k.below (fun g e => (owns_block h.row e).1) h.below.size)⟩
end
def WhlJ (w : World) (rs : List Rc) (e : Ending) (w' : World) : Prop :=
  ∃ A cap, e = .returned (.tuple #[.slice A rs.length cap, .int .i64 ((flat rs).length : Nat)]) ∧ OS w' w.heap.size (.slice A rs.length cap) rs ∧ Below w.heap.size w w'
theorem flat_le : ∀ (x y : List Rc), (flat x).length ≤ (flat (x ++ y)).length := fun x y => by rw [flat_app, List.length_append]; omega
theorem flat_count : ∀ (x : List Rc), x.length ≤ (flat x).length
  | [] => Nat.le_refl _
  | r :: x => by
    have := encR_pos r
    have := flat_count x
    rw [flat, List.length_append, List.length_cons]; omega
theorem text_ne {r : Rc} (h : GoodR r) : List.isEmpty r = false := by
  cases r with
  | nil => exact absurd h.1 (by simp)
  | cons c r => rfl
set_option maxRecDepth 100000 in
theorem wholeJ (w : World) (A : Option Addr) (cap : Nat) (rs : List Rc) (t : List UInt8) (hr : RdS w A cap (flat rs ++ t)) (hg : ∀ r ∈ rs, GoodR r) (ht : Torn t) (hl : (flat rs ++ t).length ≤ 65536) :
    Calls Try.prog 32 #[.slice A (flat rs ++ t).length cap] w (WhlJ w rs) := by
  have C0 := Lib.hid (readerJ w A cap _ hr)
  have W0 : Hid (Wh w A cap (flat rs ++ t) 0 [] (.slice none 0 0) (w.alloc (.cells #[.slice A (flat rs ++ t).length cap, .int .i64 0, .bool false] 82))) :=
    Lib.hid ⟨heap_alloc_new w _, World.ownsRow_nil _ _ _ _, (Below.refl _ w).alloc (Nat.le_refl _) _⟩
  have HR := Lib.hid hr
  have HG := Lib.hid hg
  have HT := Lib.hid ht
  have HL := Lib.hid hl
  obtain ⟨l, hel⟩ : ∃ l, flat rs ++ t = l := ⟨_, rfl⟩
  have HE := Lib.hid hel
  rw [hel] at C0 W0 HR HL ⊢
  clear hr hg ht hl hel
  generalize w.alloc (.cells #[.slice A l.length cap, .int .i64 0, .bool false] 82) = w0 at *
  go_enter Try.func32, Try.ntmps32
  go_wp2_with fail
  refine C0.out.mono ?_
  rintro e w1 ⟨rfl, rfl⟩
  clear C0
  go_wp2_with fail
  go_loopg [4, 5] (rs.length) (fun g s4 s5 wx => ∃ (x y : List Rc) (B : Option Addr) (cb : Nat), y.length = g ∧ Hid (x ++ y = rs) ∧ s4 = .slice B x.length cb ∧ s5 = .int .i64 ((flat x).length : Nat) ∧ Hid (Wh w A cap l (flat x).length x s4 wx))
  case atStart => exact ⟨[], rs, none, 0, rfl, Lib.hid rfl, rfl, rfl, W0⟩
  case round =>
    clear W0
    obtain ⟨x, y, B, cb, hy, HX, rfl, rfl, HW⟩ := hrel
    have hxl : (flat x).length ≤ l.length := by rw [← HE.out, ← HX.out, flat_app, List.append_assoc, List.length_append]; omega
    have hx1 := flat_count x
    have hle := HL.out
    have C1 := wireReadText wr w.heap.size A cap l ⟨(flat x).length, false⟩ 4096 (HW.out.rdr HR.out hxl) (by omega) (by omega) (by omega)
    unfold Texts at C1
    cases y with
    | nil =>
      have hz := read_torn x t HT.out
      have hxr : x = rs := by have := HX.out; simpa using this
      rw [hxr, HE.out, ← hxr] at hz
      have K1 : Hid (∀ w2, Mr wr w.heap.size A cap l (rsText l 4096 ⟨(flat x).length, false⟩).2 w2 → WhlJ w rs (.returned (.tuple #[.slice B x.length cb, .int .i64 ((flat x).length : Nat)])) w2) := Lib.hid (fun w2 m => by
        have h2 := HW.out.text (b := true) m.grown
        rw [← hxr]
        exact ⟨B, cb, rfl, h2.1, h2.2⟩)
      rw [hz] at C1
      have C1 := Lib.hid C1
      clear hz hxr HX hxl
      generalize (flat x).length = N at *
      generalize x.length = M at *
      go_wp2_with fail
      refine C1.out.mono ?_
      rintro e w2 ⟨rfl, m2⟩
      have F2 := Lib.hid (K1.out w2 m2)
      clear C1 K1 m2
      go_wp2_with fail
      go_ret2
      exact F2.out
    | cons r y =>
      obtain ⟨g, rfl⟩ : ∃ g, gk = g + 1 := ⟨y.length, by simpa using hy.symm⟩
      have hrg : GoodR r := HG.out r (by rw [← HX.out]; simp)
      have hz := read_next x r (flat y ++ t) hrg
      have hl' : flat x ++ (encR r ++ (flat y ++ t)) = l := by rw [← HE.out, ← HX.out, flat_app, flat, List.append_assoc, List.append_assoc]
      rw [hl'] at hz
      rw [hz] at C1
      simp only at C1
      have hnx : (flat (x ++ [r])).length = (flat x).length + (encR r).length := by rw [flat_snoc, List.length_append]
      have hb : (flat x).length + (encR r).length ≤ 65536 := by
        have := congrArg List.length hl'
        simp only [List.length_append] at this
        omega
      have hne := text_ne hrg
      have HX2 : Hid ((x ++ [r]) ++ y = rs) := Lib.hid (by rw [← HX.out]; simp)
      have C1 := Lib.hid C1
      have BJ := Lib.hid (fun w => bytesJ w r hrg.2)
      have HN := Lib.hid hnx
      have HM : Hid ((x ++ [r]).length = x.length + 1) := Lib.hid (by simp)
      clear hz hl' hnx HX hrg hxl
      go_wp2_with fail
      refine C1.out.mono ?_
      rintro e w2 ⟨rfl, m2⟩
      obtain ⟨A3, cap3, w3, r3, h3⟩ := (HW.out.move m2).add r (by omega)
      have R3 := Lib.hid r3
      have H3 := Lib.hid h3
      clear r3 h3 m2 C1 HW
      generalize hN : (flat x).length = N at *
      generalize hM : x.length = M at *
      generalize hK : (encR r).length = K at *
      go_wp2_with (first
        | (at_builtin; refine wpList_append_two rfl (.tmp 16) (.tmp 18) 45 45 rfl _ _ _ rfl rfl R3.out ?_)
        | ((go_at_call 20; refine (BJ.out _).mono ?_); rintro e w4 ⟨A4, cap4, rfl, _, b4⟩; have B4 := Lib.hid b4; clear b4)
        | fail)
      go_roundg g
      case rel => exact ⟨x ++ [r], y, A3, cap3, by simpa using hy, HX2, by rw [HM.out], by rw [HN.out]; go_num, Lib.hid (H3.out.still B4.out)⟩
      case measure => simp at hy; omega
end Go.Proofs.Ytgohgmihoggcpaa
