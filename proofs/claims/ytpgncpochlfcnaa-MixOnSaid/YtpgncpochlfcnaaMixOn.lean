/-
  The law MixOn (layer 3), walked: it returns true at every list of bytes and every one byte more.
-/
import Derived.Test.YtpgncpochlfcnaaMixLaws
import Derived.Laws.AppendOwn
import Derived.Laws.OwnMore
namespace Go.Proofs.Ytpgncpochlfcnaa
open Go.ChangeShapes Go.WideShapes Go.ChangeAt Go.RowKit
set_option linter.unusedVariables false

theorem infoB : (Try.prog.info? 5).map (fun i => (i.zero, i.size, i.bytes)) = some (some (.int .u8 0), 1, 1) := by kernel_rfl
theorem info_parts {e : TypeId} {z : Value} {b : Nat} (h : (Try.prog.info? e).map (fun i => (i.zero, i.size, i.bytes)) = some (some z, 1, b)) :
    ∃ i, Try.prog.info? e = some i ∧ i.zero = some z ∧ i.size = 1 ∧ i.bytes = b := by
  cases hi : Try.prog.info? e with
  | none => rw [hi] at h; cases h
  | some i =>
    rw [hi] at h
    simp at h
    exact ⟨i, rfl, h.1, h.2.1, h.2.2⟩

/-- A row of bytes of one's own, not nil. -/
def OwnB (w : World) (base g cap : Nat) (zs : List Int) : Prop :=
  w.ownsRow base 5 1 (.slice (some ⟨g, 0, none⟩) zs.length cap) zs.length (zs.map (Value.int .u8))

theorem add_zero_off (b i : Nat) : (⟨b, 0, none⟩ : Addr).add i = ⟨b, i, none⟩ := by
  unfold Addr.add
  split
  · subst_vars; rfl
  · simp
theorem OwnB.rd {w : World} {base g cap : Nat} {zs : List Int} (h : OwnB w base g cap zs) : RdInts .u8 w (some ⟨g, 0, none⟩) zs := by
  intro i hi
  refine ⟨_, zs[i], rfl, List.getElem?_eq_getElem hi, ?_⟩
  exact World.ownsRow.cells h (g := g) rfl i _ (by rw [List.getElem?_map, List.getElem?_eq_getElem hi]; rfl)
theorem RdInts.cells {w : World} {ad : Addr} {zs : List Int} (h : RdInts .u8 w (some ad) zs) : ∀ j u, (zs.map (Value.int .u8))[j]? = some u → w.cell? (ad.add j) = some u := by
  intro j u hu
  rw [List.getElem?_map] at hu
  by_cases hj : j < zs.length
  · obtain ⟨ad', n, e, hz, hc⟩ := h j hj
    cases e
    rw [hz] at hu
    cases hu
    exact hc
  · rw [List.getElem?_eq_none (by omega)] at hu; cases hu

/-- Bytes appended to a row of one's own. -/
theorem append_bytes {w : World} {base g cap : Nat} {zs ys : List Int} {B : Option Addr} {c : Nat} (h : OwnB w base g cap zs) (hr : RdInts .u8 w B ys) (hn : B = none → ys = [] ∧ c = 0)
    (hl : zs.length + ys.length ≤ 1000000) (hb : base ≤ w.heap.size) :
    ∃ g' cap' w', (Builtin.append_ #[22, 22] 22 #[.slice (some ⟨g, 0, none⟩) zs.length cap, .slice B ys.length c]).run Try.prog w = .ok (.slice (some ⟨g', 0, none⟩) (zs.length + ys.length) cap') w' ∧
      OwnB w' base g' cap' (zs ++ ys) ∧ Below base w w' ∧ base ≤ g' := by
  obtain ⟨i, hi, hz0, hz1, hz2⟩ := info_parts infoB
  have hg := World.ownsRow.lt h g rfl
  cases B with
  | none =>
    obtain ⟨rfl, rfl⟩ := hn rfl
    have hrun := run_append_owned_none (P := Try.prog) (w := w) base 22 22 5 i 1 Try.underlying22 hi _ _ _ h
    exact ⟨g, cap, w, hrun, by simpa using h, Below.refl _ _, hg.1⟩
  | some ad =>
    obtain ⟨v', w', hrun, hown, hgr, hnil⟩ := run_append_own (P := Try.prog) w base 22 22 5 i (.int .u8 0) 1 1 Try.underlying22 hi hz0 hz1 hz2 rfl (by omega) _ _ _ h ad ys.length c (ys.map (Value.int .u8)) (by simp) hr.cells
      (fun u hu => by obtain ⟨x, _, rfl⟩ := List.mem_map.1 hu; rfl) (by unfold maxLen; omega) (by omega) hb
    have hne : v' ≠ .slice none 0 0 := fun e => by have := hnil.1 e; simp at this
    rcases hown.2 with ⟨e, _⟩ | ⟨g', cap', cur, rfl, hbg, r⟩
    · exact absurd e hne
    · refine ⟨g', cap', w', hrun, ?_, ⟨hgr.os, hgr.tape, hgr.output, hgr.size, fun k hk => hgr.block k (by omega) (fun e => ?_)⟩, hbg⟩
      · unfold OwnB
        rw [List.length_append, List.map_append]
        exact hown
      · simp [Value.ownBlock] at e; omega

theorem wpList_append_if {P : Program} {w w' : World} {ops : Array Oper} {rest : List Oper} {o : Oper} {a : Act} {Q : Exit → Act → World → Prop} (hgd : Region.wanted o (yielded ops a.tmps) = true) (s x : Operand) (t : TypeId)
    (ho : o.op = .call { callee := .builtin .append, args := #[s, x], argTypes := #[t, t] }) (vs vx v' : Value) (hs : a.eval s = vs) (hx : a.eval x = vx)
    (hrun : (Builtin.append_ #[t, t] o.type #[vs, vx]).run P w = .ok v' w') (h : wpList P ops Q rest (a.put o.dst v') w') : wpList P ops Q (o :: rest) a w := by
  refine wpList_step fun K hK => ?_
  rw [if_pos hgd]
  unfold Oper.wp
  simp [execOp, ho, resolve, invoke, builtin, hs, hx, hrun, Result.andThen]
  exact hK _ _ h

theorem on_made (A : Option Addr) (zs : List Int) (cap : Nat) (x : Int) (w1 : World) (hr : RdInts .u8 w1 A zs) (hn : A = none → zs = [] ∧ cap = 0) (hl : zs.length ≤ 5000) :
    ∃ g cap1 w2 g2 cap2 w3,
      (Builtin.append_ #[22, 22] 22 #[.slice (some ⟨w1.heap.size, 0, none⟩) 0 0, .slice A zs.length cap]).run Try.prog (w1.alloc (.cells #[] 5)) = .ok (.slice (some ⟨g, 0, none⟩) zs.length cap1) w2 ∧
      (Builtin.append_ #[22, 22] 22 #[.slice (some ⟨g, 0, none⟩) zs.length cap1, .slice (some ⟨w2.heap.size, 0, none⟩) 1 1]).run Try.prog (w2.alloc (.cells #[.int .u8 x] 5)) = .ok (.slice (some ⟨g2, 0, none⟩) (zs.length + 1) cap2) w3 ∧
      RdInts .u8 w3 (some ⟨g2, 0, none⟩) (zs ++ [x]) ∧ Below w1.heap.size w1 w3 := by
  have b1 : Below w1.heap.size w1 (w1.alloc (.cells #[] 5)) := (Below.refl _ _).alloc (Nat.le_refl _) _
  have o1 : OwnB (w1.alloc (.cells #[] 5)) w1.heap.size w1.heap.size 0 [] := World.ownsRow_made w1 #[] 0 (Nat.le_refl _) (by simp) (by simp)
  obtain ⟨g, cap1, w2, r1, o2, b2, hg⟩ := append_bytes o1 (hr.below b1) hn (by simp; omega) b1.size
  simp only [List.length_nil, Nat.zero_add, List.nil_append] at r1 o2
  have b3 : Below w1.heap.size w1 (w2.alloc (.cells #[.int .u8 x] 5)) := (b1.trans b2).alloc (b1.trans b2).size _
  have o3 : OwnB (w2.alloc (.cells #[.int .u8 x] 5)) w1.heap.size g cap1 zs := World.ownsRow.alloc o2 _
  have hx : RdInts .u8 (w2.alloc (.cells #[.int .u8 x] 5)) (some ⟨w2.heap.size, 0, none⟩) [x] := by
    intro i hi
    have hi : i < 1 := hi
    obtain rfl : i = 0 := by omega
    exact ⟨_, x, rfl, rfl, by rw [add_zero_off, World.cell?_alloc_new]; rfl⟩
  obtain ⟨g2, cap2, w3, r2, o4, b4, hg2⟩ := append_bytes (c := 1) o3 hx (fun h => by cases h) (by simp; omega) b3.size
  exact ⟨g, cap1, w2, g2, cap2, w3, r1, r2, o4.rd, b3.trans b4⟩

theorem mixOn_walk (A : Option Addr) (zs : List Int) (cap : Nat) (x : Int) (w : World) (hl : zs.length ≤ 9223372036854775807) (hr : RdInts .u8 w A zs) (hz : Byte zs) (hn : A = none → zs = [] ∧ cap = 0)
    (x0 : 0 ≤ x) (x1 : x ≤ 255) :
    Calls Try.prog 5 #[.slice A zs.length cap, .int .u8 x] w (Holds w) := by
  have HR := Lib.hid hr
  have HZ := Lib.hid hz
  have HN := Lib.hid hn
  clear hr hz hn
  obtain ⟨b0, b1⟩ := mixOf_bd zs
  by_cases h5 : 5000 < zs.length
  · go_enter Try.func5, Try.ntmps5
    go_wp2_with ((go_at_call 6; refine (up_any _).mono ?_); rintro e w' ⟨rfl, hb⟩)
    go_ret
    exact ⟨rfl, hb⟩
  · have HX := Lib.hid (u32_xor (mixOf zs) x b0 (by omega) x0 (by omega))
    go_enter Try.func5, Try.ntmps5
    go_wp2_with fail
    refine (up_any _).mono ?_
    rintro e w1 ⟨rfl, hb⟩
    have HB := Lib.hid hb
    clear hb
    obtain ⟨g, cap1, w2, g2, cap2, w3, r1, r2, hrd, hb3⟩ := on_made A zs cap x w1 (HR.out.below HB.out) HN.out (by omega)
    have c1 := mixHash (some ⟨g2, 0, none⟩) (zs ++ [x]) cap2 w3 (by simp; omega) hrd (fun n hn => by
      rcases List.mem_append.1 hn with h | h
      · exact HZ.out n h
      · simp at h; omega)
    unfold Hashes at c1
    rw [mixOf_append, List.length_append, List.length_singleton] at c1
    have C1 := Lib.hid c1
    have C2 := Lib.hid (mixHash A zs cap w3 hl ((HR.out.below HB.out).below hb3) HZ.out)
    have HB3 := Lib.hid (HB.out.trans (hb3.mono HB.out.size))
    have R1 := Lib.hid r1
    have R2 := Lib.hid r2
    clear r1 r2 hrd hb3 c1
    go_wp2_with (first
      | (at_builtin; refine wpList_append_if rfl (.tmp 13) (.tmp 14) 22 rfl _ _ _ rfl rfl R1.out ?_)
      | (at_builtin; refine wpList_append_if rfl (.tmp 15) (.tmp 17) 22 rfl _ _ _ rfl rfl R2.out ?_)
      | ((go_at_call 8; with_reducible refine C1.out.mono ?_); rintro e w' ⟨rfl, rfl⟩)
      | ((go_at_call 8; with_reducible refine C2.out.mono ?_); rintro e w' ⟨rfl, rfl⟩))
    go_ret
    exact ⟨ret_bool (by rw [HX.out]; exact beq_self_eq_true (mixStep (mixOf zs) x)), HB3.out⟩
end Go.Proofs.Ytpgncpochlfcnaa
