/-
  Layer 9, the document's: the whole records that bytes begin with, and how many bytes they have.
-/
import Derived.Test.YtgeahpfdaehjaaaGreatDoorGrpN
import Derived.Test.YtgeahpfdaehjaaaGreatDoorQWireRefText
namespace Go.Proofs.YtgeahpfdaehjaaaGreatDoor
open Go.ChangeShapes Go.WideShapes Go.ChangeAt Go.RowKit
set_option linter.unusedVariables false

def RecsP (w : World) (rs : List Rc) (e : Ending) (w' : World) : Prop :=
  ∃ A cap, e = .returned (.tuple #[.slice A rs.length cap, .int .i64 ((flat rs).length : Nat)]) ∧ OS w' w.heap.size (.slice A rs.length cap) rs ∧ Below w.heap.size w w'
theorem str_rowR (w : World) (r : Rc) (hr : r.length ≤ 1000000) :
    ∃ cap w', (convert 9 64 (.string ⟨r.toArray⟩)).run Tryz.prog w = .ok (.slice (some ⟨w.heap.size, 0, none⟩) r.length cap) w' ∧ RdS w' (some ⟨w.heap.size, 0, none⟩) cap r ∧ Below w.heap.size w w' := by
  have hz : ByteArray.size ⟨r.toArray⟩ = r.length := by simp [ByteArray.size]
  obtain ⟨cap, w', h1, h2, h3⟩ := str_row w ⟨r.toArray⟩ (by rw [hz]; exact hr)
  rw [hz] at h1
  exact ⟨cap, w', h1, h2, h3⟩
theorem flat_countR : ∀ (x : List Rc), x.length ≤ (flat x).length
  | [] => Nat.le_refl _
  | r :: x => by
    have := flat_countR x
    have := encR_pos r
    rw [flat, List.length_append, List.length_cons]
    omega
theorem text_neR {r : Rc} (h : GoodR r) : List.isEmpty r = false := by
  cases r with
  | nil => exact absurd h.1 (by simp)
  | cons c r => rfl
theorem rd_firstR {w : World} {A : Option Addr} {cap : Nat} {l : List UInt8} (h : RdS w A cap l) : ∀ ad, A = some ad → l ≠ [] → ad.block < w.heap.size := fun ad ha hne => by
  cases l with
  | nil => exact absurd rfl hne
  | cons c l =>
    have h1 := World.block_lt_of_cell? w _ (h.rd ad ha 0 c rfl)
    rw [addr_block] at h1
    exact h1
theorem below_grR {wr w' : World} {M : Nat} {q : Option Nat} (hB : M ≤ wr.heap.size) (hg : wr.grownBy w' q) (hq : ∀ b, q = some b → M ≤ b) : Below M wr w' :=
  ⟨hg.os, hg.tape, hg.output, hg.size, fun k hk => hg.block k (by omega) (fun e => by have := hq k e.symm; omega)⟩
set_option maxHeartbeats 2000000 in
set_option maxRecDepth 100000 in
theorem ref_records (w : World) (rs : List Rc) (t : List UInt8) (hg : ∀ r ∈ rs, GoodR r) (ht : Torn t) (hl : (flat rs ++ t).length ≤ 65536) :
    Calls Tryz.prog 72 #[.string ⟨(flat rs ++ t).toArray⟩] w (RecsP w rs) := by
  have HG := Lib.hid hg
  have HT := Lib.hid ht
  have HL := Lib.hid hl
  obtain ⟨l, hel⟩ : ∃ l, flat rs ++ t = l := ⟨_, rfl⟩
  have HE := Lib.hid hel
  rw [hel] at HL ⊢
  clear hg ht hl hel
  go_enter Tryz.func72, Tryz.ntmps72
  go_wp2_with fail
  go_loopg [4, 5] (rs.length) (fun g s4 s5 wx => ∃ (x y : List Rc) (B : Option Addr) (cb : Nat), y.length = g ∧ Hid (x ++ y = rs) ∧ s4 = .slice B x.length cb ∧ s5 = .int .i64 ((flat x).length : Nat) ∧ Hid (OS wx w.heap.size s4 x) ∧ Hid (Below w.heap.size w wx))
  case atStart => exact ⟨[], rs, none, 0, rfl, Lib.hid rfl, rfl, rfl, Lib.hid (World.ownsRow_nil _ _ _ _), Lib.hid (Below.refl _ _)⟩
  case round =>
    obtain ⟨x, y, B, cb, hy, HX, rfl, rfl, HO, HB⟩ := hrel
    have hxl : (flat x).length ≤ l.length := by rw [← HE.out, ← HX.out, flat_app, List.append_assoc, List.length_append]; omega
    have hx1 := flat_countR x
    have hle := HL.out
    obtain ⟨cap, w1, hcv, hrd, hb1⟩ := str_rowR wr l (by omega)
    obtain ⟨N, hN⟩ : ∃ N, (flat x).length = N := ⟨_, rfl⟩
    have RF : Rfr (w1.alloc (.cells #[.slice (some ⟨wr.heap.size, 0, none⟩) l.length cap, .int .i64 (N : Nat), .bool false, .int .i64 0] 161)) w1.heap.size (some ⟨wr.heap.size, 0, none⟩) cap l N false 0 :=
      ⟨heap_alloc_new w1 _, hrd.alloc _, fun ad ha hne e => by
        cases ha
        have := rd_firstR hrd _ rfl hne
        simp only at e this
        omega, by omega⟩
    have C1 := refReadText _ w1.heap.size (some ⟨wr.heap.size, 0, none⟩) cap l ⟨N, false⟩ 4096 N 0 RF ⟨rfl, fun _ => rfl, fun e => by cases e⟩ (by omega) (by show N ≤ _; omega) (by omega) (by omega)
    unfold Textf at C1
    have HO2 : Hid (∀ w3, (w1.alloc (.cells #[.slice (some ⟨wr.heap.size, 0, none⟩) l.length cap, .int .i64 (N : Nat), .bool false, .int .i64 0] 161)).grownBy w3 (some w1.heap.size) → OS w3 w.heap.size (.slice B x.length cb) x ∧ Below w.heap.size w w3) := Lib.hid (fun w3 hg3 => by
      have hb2 : Below wr.heap.size wr (w1.alloc (.cells #[.slice (some ⟨wr.heap.size, 0, none⟩) l.length cap, .int .i64 (N : Nat), .bool false, .int .i64 0] 161)) := hb1.alloc hb1.size _
      have hb3 : Below wr.heap.size wr w3 := hb2.grown hg3 (Nat.le_trans hb1.size (by simp)) (fun k e => by cases e; exact hb1.size)
      exact ⟨owns_keeps HO.out (Keeps.of_below hb3 (Nat.le_refl _) (fun _ => False)) (fun _ _ e => e), HB.out.trans (hb3.mono HB.out.size)⟩)
    cases y with
    | nil =>
      have hz := read_torn x t HT.out
      have hxr : x = rs := by have := HX.out; simpa using this
      rw [hxr, HE.out, ← hxr, hN] at hz
      rw [hz] at C1
      have C1 := Lib.hid C1
      have FIN : Hid (∀ w3, (w1.alloc (.cells #[.slice (some ⟨wr.heap.size, 0, none⟩) l.length cap, .int .i64 (N : Nat), .bool false, .int .i64 0] 161)).grownBy w3 (some w1.heap.size) → RecsP w rs (.returned (.tuple #[.slice B x.length cb, .int .i64 (N : Nat)])) w3) := Lib.hid (fun w3 hg3 => by
        obtain ⟨h1, h2⟩ := HO2.out w3 hg3
        rw [← hxr]
        exact ⟨B, cb, by rw [hN], h1, h2⟩)
      rw [hN]
      clear hz hxr HX hxl RF HO HB HO2 hb1 hrd hx1
      generalize x.length = M at *
      go_wp2_with fail
      refine C1.out.mono ?_
      rintro e w3 ⟨rfl, hg3, k3, p3, _, hr3⟩
      have F3 := Lib.hid (FIN.out w3 hg3)
      have c2 := hr3.c2
      clear C1 FIN hg3 hr3
      cases hbad : (rsText l 4096 ⟨N, false⟩).2.bad with
      | true =>
        rw [hbad] at c2
        go_wp2_with fail
        go_ret2
        exact F3.out
      | false =>
        rw [hbad] at c2
        go_wp2_with fail
        go_ret2
        exact F3.out
    | cons r y =>
      obtain ⟨g, rfl⟩ : ∃ g, gk = g + 1 := ⟨y.length, by simpa using hy.symm⟩
      have hrg : GoodR r := HG.out r (by rw [← HX.out]; simp)
      have hz := read_next x r (flat y ++ t) hrg
      have hl' : flat x ++ (encR r ++ (flat y ++ t)) = l := by rw [← HE.out, ← HX.out, flat_app, flat, List.append_assoc, List.append_assoc]
      rw [hl', hN] at hz
      rw [hz] at C1
      simp only at C1
      have hnx : (flat (x ++ [r])).length = N + (encR r).length := by rw [flat_snoc, List.length_append, hN]
      have hne := text_neR hrg
      have HX2 : Hid ((x ++ [r]) ++ y = rs) := Lib.hid (by rw [← HX.out]; simp)
      have C1 := Lib.hid C1
      have HN := Lib.hid hnx
      have HM : Hid ((x ++ [r]).length = x.length + 1) := Lib.hid (by simp)
      have hxc : x.length ≤ 100000 := by omega
      have HBS := Lib.hid HB.out.size
      rw [hN]
      clear hz hl' hnx HX hrg hxl RF HO HB hb1 hrd hx1
      go_wp2_with fail
      refine C1.out.mono ?_
      rintro e w3 ⟨rfl, hg3, k3, p3, tl3, hr3⟩
      obtain ⟨h1, h2⟩ := HO2.out w3 hg3
      have c1 := hr3.c1
      have c2 := hr3.c2
      have hk := tl3.good rfl
      simp only at hk c2
      rw [HN.out] at hk
      subst hk
      obtain ⟨v4, w4, h4, h5, h6, _⟩ := add_str h1 r hxc h2.size
      obtain ⟨A4, cap4, e4, _⟩ := os_shape h5
      rw [HM.out] at e4
      subst e4
      have hb4 : Below w.heap.size w w4 := h2.trans (((Below.refl w.heap.size w3).alloc h2.size _).trans (below_grR (Nat.le_trans h2.size (by simp)) h6 (fun q hq => (owns_block h1 hq).1)))
      have c1' : w4.cell? ⟨w1.heap.size, 1, none⟩ = some (.int .i64 ((N + (encR r).length : Nat) : Int)) := by
        refine (h6.cell (v := .int .i64 ((N + (encR r).length : Nat) : Int)) ?_ ?_)
        · exact (World.grownBy_alloc w3 _ none).cell c1 (by simp)
        · exact fun e => owns_off (World.ownsRow.alloc h1 (.cells #[encS r] 9)) (by rw [heap_alloc_old w3 _ _ hr3.lt]; exact hr3.blk) (by decide) e.symm
      have R4 := Lib.hid h4
      have H5 := Lib.hid h5
      have B4 := Lib.hid hb4
      clear h1 h2 h4 h5 h6 hb4 hr3 hg3 tl3 C1 HO2
      unfold encS at R4
      generalize hM : x.length = M at *
      generalize hK : N + (encR r).length = K at *
      go_wp2_with (first
        | (at_builtin; refine wpList_append_two rfl (.tmp 25) (.tmp 27) 107 107 rfl _ _ _ rfl rfl R4.out ?_)
        | fail)
      go_roundg g
      case rel => exact ⟨x ++ [r], y, A4, cap4, by simpa using hy, HX2, by rw [HM.out], by rw [HN.out], by first | exact H5 | (rw [HM.out]; exact H5), B4⟩
      case measure => simp at hy; omega
end Go.Proofs.YtgeahpfdaehjaaaGreatDoor
