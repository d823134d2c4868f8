/-
  Layer 5 (series): series.copyTags: the tags in a row of their own, their words too.
-/
import Derived.Test.YtfbccngbgkddlaaDoorSeriesBase
import Derived.Test.YtfbccngbgkddlaaDoorLineOwn
import Derived.Deep.RegionHeld3
namespace Go.Proofs.YtfbccngbgkddlaaDoor
open Go.ChangeShapes Go.WideShapes Go.ChangeAt Go.RowKit
set_option linter.unusedVariables false

theorem OwnT.below {w w' : World} {base : Nat} {A : Option Addr} {cap : Nat} {ts : Tags} (h : OwnT w base A cap ts) (hg : Below w.heap.size w w') : OwnT w' base A cap ts := by
  refine World.ownsRow.kept h (grown_of (r := none) hg) ?_
  cases hv : (Value.slice A ts.length cap).ownBlock with
  | none => exact .inl rfl
  | some g => exact .inr (by simp)
/-- Where the copying of tags stands. -/
structure AtC (w : World) (ts : Tags) (i : Nat) (A : Option Addr) (cap : Nat) (wr : World) : Prop where
  below : Below w.heap.size w wr
  own : OwnT wr w.heap.size A cap (ts.take i)
theorem AtC.on {w : World} {ts : Tags} {i : Nat} {A : Option Addr} {cap : Nat} {wr w' : World} (h : AtC w ts i A cap wr) (b : Below wr.heap.size wr w') : AtC w ts i A cap w' :=
  ⟨h.below.trans (b.mono h.below.size), h.own.below b⟩
theorem below_drew (w : World) (n : Nat) : Below w.heap.size w (w.drewN n) := below_of_grown (grown_drew (grown_refl _ _) n)
theorem below_drew1 (w : World) : Below w.heap.size w w.drew := ⟨rfl, rfl, rfl, Nat.le_refl _, fun _ _ => rfl⟩
theorem below_new (w : World) (o : Obj) : Below w.heap.size w (w.alloc o) := (Below.refl _ _).alloc (Nat.le_refl _) _
/-- What a region of copyTags keeps. -/
theorem keepS {N : Nat} {x y : ByteArray} {w1 w2 : World}
    (h : w1.cell? ⟨N, 0, none⟩ = some (.string x) ∧ w1.cell? ⟨N, 1, none⟩ = some (.string y)) (b : Below w1.heap.size w1 w2) :
    w2.cell? ⟨N, 0, none⟩ = some (.string x) ∧ w2.cell? ⟨N, 1, none⟩ = some (.string y) :=
  ⟨by rw [b.cell (World.block_lt_of_cell? w1 _ h.1)]; exact h.1, by rw [b.cell (World.block_lt_of_cell? w1 _ h.2)]; exact h.2⟩
theorem cell_grown {w1 w2 : World} {r : Option Nat} (g : w1.grownBy w2 r) {N o : Nat} {v : Value} (h : w1.cell? ⟨N, o, none⟩ = some v) (hr : r ≠ some N) : w2.cell? ⟨N, o, none⟩ = some v := by
  rw [World.cell?_of_block (g.block N (World.block_lt_of_cell? w1 _ h) (fun e => hr e.symm))]
  exact h
theorem keepG {N : Nat} {x y : ByteArray} {w1 w2 : World} {r : Option Nat}
    (h : w1.cell? ⟨N, 0, none⟩ = some (.string x) ∧ w1.cell? ⟨N, 1, none⟩ = some (.string y)) (g : w1.grownBy w2 r) (hr : r ≠ some N) :
    w2.cell? ⟨N, 0, none⟩ = some (.string x) ∧ w2.cell? ⟨N, 1, none⟩ = some (.string y) := ⟨cell_grown g h.1 hr, cell_grown g h.2 hr⟩

theorem append_tag_far {w : World} {base : Nat} {A : Option Addr} {cap : Nat} {ts : Tags} (x y : ByteArray) (h : OwnT w base A cap ts) (hb : base ≤ w.heap.size) (hl : ts.length ≤ 100) :
    ∃ A' cap' w', (Builtin.append_ #[23, 23] 23 #[.slice A ts.length cap, .slice (some ⟨w.heap.size, 0, none⟩) 1 1]).run Tryd.prog (w.alloc (.cells #[.string x, .string y] 44)) = .ok (.slice A' (ts.length + 1) cap') w' ∧
      OwnT w' base A' cap' (ts ++ [(x, y)]) ∧ Below base w w' ∧ (w.alloc (.cells #[.string x, .string y] 44)).grownBy w' (Value.slice A ts.length cap).ownBlock := by
  cases hi : Tryd.prog.info? 44 with
  | none => have := infoT; rw [hi] at this; cases this
  | some i =>
    have hI := infoT
    rw [hi] at hI
    simp only [Option.map_some, Option.some.injEq, Prod.mk.injEq] at hI
    obtain ⟨hz, hz1, hz2⟩ := hI
    obtain ⟨v', w', hrun, hown, hgr, hnil⟩ := run_append_own (P := Tryd.prog) (w.alloc (.cells #[.string x, .string y] 44)) base 23 23 44 i _ 2 32 Tryd.underlying23 hi hz hz1 hz2 rfl (by omega) _ _ _ (h.alloc _) ⟨w.heap.size, 0, none⟩ 1 1 [.string x, .string y] rfl
      (fun j u hu => by
        match j, hu with
        | 0, hu => cases hu; simp [Addr.add]
        | 1, hu => cases hu; simp [Addr.add])
      (fun u hu => by
        simp only [List.mem_cons, List.not_mem_nil, or_false] at hu
        rcases hu with rfl | rfl <;> rfl)
      (by unfold maxLen; omega) (by omega) (by simp; omega)
    have hb0 : Below base w (w.alloc (.cells #[.string x, .string y] 44)) := (Below.refl _ _).alloc hb _
    have hb1 : Below base w w' := hb0.trans ⟨hgr.os, hgr.tape, hgr.output, hgr.size, fun k hk => hgr.block k (by simp; omega) (fun e => by
      have := (World.ownsRow.lt h k e.symm).1
      omega)⟩
    rcases hown.2 with ⟨e, hn0⟩ | ⟨g', cap', cur, rfl, r⟩
    · omega
    · refine ⟨_, _, w', hrun, ?_, hb1, hgr⟩
      unfold OwnT
      rw [List.length_append, tagCells_snoc]
      exact hown

/-- An append of one tag, as a step of a region that draws. -/
theorem step_append_tag {ops : Array Oper} {o : Oper} {a : Act} {w0 : World} {K : Act → World → Prop} {Q : Exit → Act → World → Prop} {E : Prop}
    (hgd : o.guard = none) (s z : Operand) (hop : o.op = Op.call { callee := Callee.builtin Builtin.append, args := #[s, z], argTypes := #[23, 23] }) (hty : o.type = 23)
    {base n : Nat} {A : Option Addr} {cap : Nat} {ts : Tags} {x y : ByteArray} (hs : a.eval s = .slice A n cap) (hn : n = ts.length) (hz : a.eval z = .slice (some ⟨w0.heap.size, 0, none⟩) 1 1)
    (h : OwnT w0 base A cap ts) (hb : base ≤ w0.heap.size) (hl : ts.length ≤ 100)
    (hK : ∀ A' cap' w', OwnT w' base A' cap' (ts ++ [(x, y)]) → Below base w0 w' → (w0.alloc (.cells #[.string x, .string y] 44)).grownBy w' (Value.slice A n cap).ownBlock → K (a.put o.dst (.slice A' (n + 1) cap')) w') :
    if Region.wanted o (yielded ops a.tmps) = true then Oper.wp Tryd.prog o a (w0.alloc (.cells #[.string x, .string y] 44)) K Q else E := by
  subst hn
  obtain ⟨A', cap', w', hrun, ho, hbe, hgr⟩ := append_tag_far x y h hb hl
  have hw : Region.wanted o (yielded ops a.tmps) = true := by simp [Region.wanted, hgd]
  rw [if_pos hw]
  unfold Oper.wp
  rw [← hty] at hrun
  simp [execOp, hop, resolve, invoke, builtin, hs, hz, hty] at hrun ⊢
  simp [hrun, Result.andThen]
  exact hK _ _ _ ho hbe hgr

theorem AtC.append {w : World} {ts : Tags} {i : Nat} {B : Option Addr} {cap : Nat} {w0 : World} (h : AtC w ts i B cap w0) {x y : ByteArray} (hx : ts[i]? = some (x, y)) (hl : ts.length ≤ 6)
    {ops : Array Oper} {o : Oper} {a : Act} {K : Act → World → Prop} {Q : Exit → Act → World → Prop} {E : Prop} (hgd : o.guard = none) (s z : Operand)
    (hop : o.op = Op.call { callee := Callee.builtin Builtin.append, args := #[s, z], argTypes := #[23, 23] }) (hty : o.type = 23)
    (hs : a.eval s = .slice B i cap) (hz : a.eval z = .slice (some ⟨w0.heap.size, 0, none⟩) 1 1)
    (hK : ∀ A' cap' w', Hid (AtC w ts (i + 1) A' cap' w') → (w0.alloc (.cells #[.string x, .string y] 44)).grownBy w' (Value.slice B i cap).ownBlock → K (a.put o.dst (.slice A' (i + 1) cap')) w') :
    if Region.wanted o (yielded ops a.tmps) = true then Oper.wp Tryd.prog o a (w0.alloc (.cells #[.string x, .string y] 44)) K Q else E := by
  obtain ⟨hi, e⟩ := List.getElem?_eq_some_iff.1 hx
  have hlen : i = (ts.take i).length := by rw [List.length_take]; omega
  refine step_append_tag hgd s z hop hty hs hlen hz h.own h.below.size (by omega) fun A' cap' w' ho hb hg => hK A' cap' w' (Lib.hid ⟨h.below.trans hb, ?_⟩) hg
  rw [List.take_succ_eq_append_getElem hi, e]
  exact ho

def CopyPost (w : World) (ts : Tags) (e : Ending) (w' : World) : Prop := ∃ A cap, e = .returned (.slice A ts.length cap) ∧ OwnT w' w.heap.size A cap ts ∧ Below w.heap.size w w'

set_option maxHeartbeats 1000000 in
set_option maxRecDepth 100000 in
theorem seriesCopy (A : Option Addr) (c : Nat) (ts : Tags) (w : World) (hr : RdT w A ts) (hl : ts.length ≤ 6) (hx : ∀ x y, (x, y) ∈ ts → x.size ≤ 100 ∧ y.size ≤ 100) :
    Calls Tryd.prog 25 #[.slice A ts.length c] w (CopyPost w ts) := by
  have HR := Lib.hid hr
  have HX := Lib.hid hx
  clear hr hx
  go_enter Tryd.func25, Tryd.ntmps25
  go_wp2_with fail
  go_loopg [3, 8] (ts.length) (fun g s3 s8 wx => ∃ (i : Nat) (B : Option Addr) (cap : Nat), i + g = ts.length ∧ s3 = .slice B i cap ∧ s8 = .int .i64 i ∧ Hid (AtC w ts i B cap wx))
  case atStart => exact ⟨0, none, 0, by omega, rfl, rfl, Lib.hid ⟨Below.refl _ _, OwnT.nil _ _⟩⟩
  case round =>
    obtain ⟨i, B, cap, hig, rfl, rfl, HG⟩ := hrel
    cases gk with
    | zero =>
      have e1 : decide ((i : Int) < (ts.length : Int)) = false := decide_eq_false (by omega)
      have e2 : decide (i < ts.length) = false := decide_eq_false (by omega)
      go_wp2_with fail
      go_ret
      have hi : i = ts.length := by omega
      subst hi
      exact ⟨B, cap, rfl, by have := HG.out.own; rwa [List.take_of_length_le (Nat.le_refl _)] at this, HG.out.below⟩
    | succ g =>
      have hlt : i < ts.length := by omega
      have hltz : (i : Int) < (ts.length : Int) := by omega
      obtain ⟨x, y, hxy⟩ : ∃ x y, ts[i]? = some (x, y) := ⟨_, _, List.getElem?_eq_getElem hlt⟩
      have hRr := HR.out.below HG.out.below
      rcases hRr with h | ⟨b, o, rfl, hc⟩
      · rw [h] at hlt; simp at hlt
      obtain ⟨p0, p1⟩ := hc i x y hxy
      obtain ⟨sx, sy⟩ := HX.out x y (List.mem_of_getElem? hxy)
      have HXY := Lib.hid hxy
      clear hc hxy
      have CC := Lib.hid (fun (s : ByteArray) (hs : s.size ≤ 100) w' => strClone s w' (by omega))
      go_wp2_with fail
      have hT : (wr.alloc (.cells #[.string x, .string y] 44)).heap[wr.heap.size]? = some (.cells #[.string x, .string y] 44 (0, 0)) := heap_alloc_new wr _
      have q0 : (wr.alloc (.cells #[.string x, .string y] 44)).cell? ⟨wr.heap.size, 0, none⟩ = some (.string x) := cell_of_block hT
      have q1 : (wr.alloc (.cells #[.string x, .string y] 44)).cell? ⟨wr.heap.size, 1, none⟩ = some (.string y) := cell_of_block hT
      have HG1 := Lib.hid (HG.out.on (below_new wr (.cells #[.string x, .string y] 44)))
      obtain ⟨W, hW⟩ : ∃ W, wr.alloc (.cells #[.string x, .string y] 44) = W := ⟨_, rfl⟩
      rw [hW] at q0 q1 HG1 ⊢
      have HW := Lib.hid hW
      clear hW hT p0 p1
      have hfar : (Value.slice B i cap).ownBlock ≠ some wr.heap.size := fun e => by
        have hl : i = (ts.take i).length := by rw [List.length_take]; omega
        have := (World.ownsRow.lt HG.out.own wr.heap.size (by rw [← hl]; exact e)).2
        omega
      generalize wr.heap.size = N at *
      go_region_held3 (fun w' => w'.cell? ⟨N, 0, none⟩ = some (.string x) ∧ w'.cell? ⟨N, 1, none⟩ = some (.string y))
        (first | exact keepS ⟨q0, q1⟩ (below_drew1 _) | exact keepG (by assumption) (by assumption) hfar | exact keepS (by assumption) (by assumption) | exact keepS (by assumption) (below_new _ _))
        (first
          | ((go_at_call 24; refine (CC.out _ (by assumption) _).mono ?_; rintro e w' ⟨rfl, hb⟩))
          | ((refine AtC.append (((HG1.out.on (below_drew1 _)).on (by assumption)).on (by assumption)) HXY.out hl rfl (.tmp 12) (.tmp 20) rfl rfl (by rfl) (by rfl) ?_; intro A9 c9 w9 h9 g9)))
      go_wp2_with fail
      go_roundg g
      case rel => exact ⟨i + 1, A9, c9, by omega, rfl, by go_num, h9⟩
      case measure => omega
end Go.Proofs.YtfbccngbgkddlaaDoor
