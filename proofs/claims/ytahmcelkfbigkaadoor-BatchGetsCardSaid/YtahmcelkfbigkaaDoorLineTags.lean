/-
  Layer 4 (line): the reader's method tags: all tags up to the space behind them.
-/
import Derived.Test.YtahmcelkfbigkaaDoorLineTag
import Derived.Deep.LoopGhost
import Derived.Laws.OwnMore
namespace Go.Proofs.YtahmcelkfbigkaaDoor
open Go.ChangeShapes Go.WideShapes Go.ChangeAt Go.RowKit
set_option linter.unusedVariables false

def tagCells (ts : Tags) : List Value := ts.flatMap fun t => [.string t.1, .string t.2]
theorem tagCells_length (ts : Tags) : (tagCells ts).length = ts.length * 2 := by
  induction ts with
  | nil => rfl
  | cons t r ih => simp only [tagCells, List.flatMap_cons, List.length_append, List.length_cons, List.length_nil] at ih ⊢; omega
theorem tagCells_snoc (ts : Tags) (x y : ByteArray) : tagCells (ts ++ [(x, y)]) = tagCells ts ++ [.string x, .string y] := by
  simp [tagCells]

/-- Tags in a row of one's own, behind so many blocks. -/
def OwnT (w : World) (base : Nat) (A : Option Addr) (cap : Nat) (ts : Tags) : Prop :=
  w.ownsRow base 94 2 (.slice A ts.length cap) ts.length (tagCells ts)
theorem OwnT.nil (w : World) (base : Nat) : OwnT w base none 0 [] := World.ownsRow_nil w base _ 2
theorem OwnT.kept {w w' : World} {base : Nat} {A : Option Addr} {cap : Nat} {ts : Tags} {b : Nat} (h : OwnT w base A cap ts) (hg : w.grownBy w' (some b)) (hb : b < base) : OwnT w' base A cap ts := by
  refine World.ownsRow.kept h hg ?_
  cases hv : (Value.slice A ts.length cap).ownBlock with
  | none => exact .inl rfl
  | some g =>
    have := (World.ownsRow.lt h g hv).1
    exact .inr (fun e => by cases e; omega)
theorem OwnT.alloc {w : World} {base : Nat} {A : Option Addr} {cap : Nat} {ts : Tags} (h : OwnT w base A cap ts) (o : Obj) : OwnT (w.alloc o) base A cap ts := World.ownsRow.alloc h o
theorem OwnT.mono {w : World} {base base' : Nat} {A : Option Addr} {cap : Nat} {ts : Tags} (h : OwnT w base A cap ts) (hb : base' ≤ base) : OwnT w base' A cap ts := by
  refine ⟨h.1, ?_⟩
  rcases h.2 with hn | ⟨g, cap, cur, hv, hg, r⟩
  · exact .inl hn
  · exact .inr ⟨g, cap, cur, hv, Nat.le_trans hb hg, r⟩

theorem infoT : (Tryd.prog.info? 94).map (fun i => (i.zero, i.size, i.bytes)) = some (some (.agg #[.string ⟨#[]⟩, .string ⟨#[]⟩]), 2, 32) := by kernel_rfl

theorem append_tag {w : World} {base : Nat} {A : Option Addr} {cap : Nat} {ts : Tags} (x y : ByteArray) (h : OwnT w base A cap ts) (hb : base ≤ w.heap.size) (hl : ts.length ≤ 100) :
    ∃ A' cap' w', (Builtin.append_ #[69, 69] 69 #[.slice A ts.length cap, .slice (some ⟨w.heap.size, 0, none⟩) 1 1]).run Tryd.prog (w.alloc (.cells #[.string x, .string y] 94)) = .ok (.slice A' (ts.length + 1) cap') w' ∧
      OwnT w' base A' cap' (ts ++ [(x, y)]) ∧ Below base w w' := by
  cases hi : Tryd.prog.info? 94 with
  | none => have := infoT; rw [hi] at this; cases this
  | some i =>
    have hI := infoT
    rw [hi] at hI
    simp only [Option.map_some, Option.some.injEq, Prod.mk.injEq] at hI
    obtain ⟨hz, hz1, hz2⟩ := hI
    obtain ⟨v', w', hrun, hown, hgr, hnil⟩ := run_append_own (P := Tryd.prog) (w.alloc (.cells #[.string x, .string y] 94)) base 69 69 94 i _ 2 32 Tryd.underlying69 hi hz hz1 hz2 rfl (by omega) _ _ _ (h.alloc _) ⟨w.heap.size, 0, none⟩ 1 1 [.string x, .string y] rfl
      (fun j u hu => by
        match j, hu with
        | 0, hu => cases hu; simp [Addr.add]
        | 1, hu => cases hu; simp [Addr.add])
      (fun u hu => by
        simp only [List.mem_cons, List.not_mem_nil, or_false] at hu
        rcases hu with rfl | rfl <;> rfl)
      (by unfold maxLen; omega) (by omega) (by simp; omega)
    have hb0 : Below base w (w.alloc (.cells #[.string x, .string y] 94)) := (Below.refl _ _).alloc hb _
    have hb1 : Below base w w' := hb0.trans ⟨hgr.os, hgr.tape, hgr.output, hgr.size, fun k hk => hgr.block k (by simp; omega) (fun e => by
      have := (World.ownsRow.lt h k e.symm).1
      omega)⟩
    rcases hown.2 with ⟨e, hn0⟩ | ⟨g', cap', cur, rfl, r⟩
    · omega
    · refine ⟨_, _, w', hrun, ?_, hb1⟩
      unfold OwnT
      rw [List.length_append, tagCells_snoc]
      exact hown

def TagsOk (w : World) (b : Nat) (s : ByteArray) (k : Nat) (ts : Tags) (e : Ending) (w' : World) : Prop :=
  ∃ A cap, e = .returned (.tuple #[.slice A ts.length cap, .bool true]) ∧ Mv w b s k w' ∧ OwnT w' w.heap.size A cap ts
def TagsBad (w : World) (b : Nat) (s : ByteArray) (k : Nat) (e : Ending) (w' : World) : Prop :=
  e = .returned (.tuple #[.slice none 0 0, .bool false]) ∧ Mv w b s k w'
def TagsPost (w : World) (b : Nat) (s : ByteArray) (r : TRes) (e : Ending) (w' : World) : Prop :=
  match r with
  | .bad k => TagsBad w b s k e w'
  | .good k ts => if chr s k = 32 then TagsOk w b s k ts e w' else TagsBad w b s k e w'

theorem wpList_append_if {P : Program} {w w' : World} {ops : Array Oper} {rest : List Oper} {o : Oper} {a : Act} {Q : Exit → Act → World → Prop} (hgd : Region.wanted o (yielded ops a.tmps) = true) (s x : Operand) (t : TypeId)
    (ho : o.op = .call { callee := .builtin .append, args := #[s, x], argTypes := #[t, t] }) (vs vx v' : Value) (hs : a.eval s = vs) (hx : a.eval x = vx)
    (hrun : (Builtin.append_ #[t, t] o.type #[vs, vx]).run P w = .ok v' w') (h : wpList P ops Q rest (a.put o.dst v') w') : wpList P ops Q (o :: rest) a w := by
  refine wpList_step fun K hK => ?_
  rw [if_pos hgd]
  unfold Oper.wp
  simp [execOp, ho, resolve, invoke, builtin, hs, hx, hrun, Result.andThen]
  exact hK _ _ h

/-- Where the reading of tags stands. -/
structure AtTags (w : World) (b : Nat) (s : ByteArray) (k0 g k : Nat) (acc : Tags) (A : Option Addr) (cap : Nat) (wr : World) : Prop where
  len : acc.length + g = 6
  eq : tagsFrom s 6 k0 [] = tagsFrom s g k acc
  own : OwnT wr w.heap.size A cap acc
  mv : Mv w b s k wr
  le : k ≤ s.size

theorem chr_ne {s : ByteArray} {k : Nat} {c : Nat} (h : chr s k ≠ c) (d : Int) (hd : d = (c : Int)) : ((chr s k : Int) == d) = false := by
  rw [beq_eq_false_iff_ne]; omega
theorem chr_eq {s : ByteArray} {k : Nat} {c : Nat} (h : chr s k = c) (d : Int) (hd : d = (c : Int)) : ((chr s k : Int) == d) = true := by
  rw [beq_iff_eq]; omega

set_option maxHeartbeats 1000000 in
theorem readTags (w : World) (b : Nat) (s : ByteArray) (k0 : Nat) (h : Rd w b s k0) (hs : s.size ≤ 300) (hk : k0 ≤ s.size) :
    Calls Tryd.prog 64 #[.pointer (some ⟨b, 0, none⟩)] w (TagsPost w b s (tagsFrom s 6 k0 [])) := by
  have hbw := h.lt
  have A0 := Lib.hid (show AtTags w b s k0 6 k0 [] none 0 w from ⟨rfl, rfl, OwnT.nil _ _, ⟨grown_refl _ _, h⟩, hk⟩)
  clear h
  go_enter Tryd.func64, Tryd.ntmps64
  go_wp2
  go_step3
  go_wp2
  go_step3
  go_wp2
  go_loopg [4] 6 (fun g s4 wx => ∃ k acc A cap, s4 = .slice A (List.length acc) cap ∧ Hid (AtTags w b s k0 g k acc A cap wx))
  case atStart => exact ⟨k0, [], none, 0, rfl, A0⟩
  case round =>
    clear A0
    obtain ⟨k, acc, A, cap, rfl, HA⟩ := hrel
    have hks := HA.out.le
    have hlen := HA.out.len
    have C := Lib.hid (readNext wr b s k HA.out.mv.rd hs hks)
    by_cases h32 : chr s k = 32
    · have HP : Hid (∀ e w', TagsOk w b s k acc e w' → TagsPost w b s (tagsFrom s 6 k0 []) e w') := Lib.hid (fun e w' hp => by
        rw [HA.out.eq]
        have e1 : tagsFrom s gk k acc = .good k acc := by cases gk <;> simp [tagsFrom, h32]
        rw [e1]
        unfold TagsPost
        simp only [h32, if_true]
        exact hp)
      have e32 := chr_eq h32 32 rfl
      have e44 := chr_ne (show chr s k ≠ 44 by omega) 44 rfl
      clear h32
      go_wp2_with ((go_at_call 72; refine C.out.mono ?_); rintro e w' ⟨rfl, n, rfl⟩)
      rw [Exit.noGoto_ret]
      go_ret2
      exact HP.out _ _ ⟨A, cap, rfl, HA.out.mv.drew n, HA.out.own⟩
    by_cases h44 : chr s k = 44
    · have e32 := chr_ne h32 32 rfl
      have e44 := chr_eq h44 44 rfl
      clear h32
      have H44 := Lib.hid h44
      clear h44
      cases gk with
      | zero =>
        have HP : Hid (∀ e w', TagsBad w b s k e w' → TagsPost w b s (tagsFrom s 6 k0 []) e w') := Lib.hid (fun e w' hp => by
          rw [HA.out.eq]
          have e1 : tagsFrom s 0 k acc = .bad k := by simp [tagsFrom, H44.out]
          rw [e1]
          exact hp)
        have e6 : ((acc.length : Int) == 6) = true := by rw [beq_iff_eq]; omega
        go_wp2_with ((go_at_call 72; refine C.out.mono ?_); rintro e w' ⟨rfl, n, rfl⟩)
        rw [Exit.noGoto_ret]
        go_ret2
        exact HP.out _ _ ⟨rfl, HA.out.mv.drew n⟩
      | succ g =>
        have e6 : ((acc.length : Int) == 6) = false := by rw [beq_eq_false_iff_ne]; omega
        have HT : Hid (∀ X : TRes, (match wordAt s (k + 1) with | none => .bad (k + 1) | some i => if chr s i = 61 then (match wordAt s (i + 1) with | none => .bad (i + 1) | some j => tagsFrom s g j (acc ++ [(s.extract (k + 1) i, s.extract (i + 1) j)])) else .bad i) = X → tagsFrom s 6 k0 [] = X) := Lib.hid (fun X hX => by
          rw [HA.out.eq, ← hX]
          simp only [tagsFrom, H44.out, if_true]
          rfl)
        go_wp2_with ((go_at_call 72; refine C.out.mono ?_); rintro e w' ⟨rfl, n, rfl⟩)
        have R1 := Lib.hid (HA.out.mv.rd.drew n)
        have M1 := Lib.hid (HA.out.mv.drew n)
        rcases hi : wordAt s (k + 1) with _ | i
        · rw [hi] at HT
          have hX := HT.out _ rfl
          have HX := Lib.hid hX
          have HI := Lib.hid hi
          clear hX hi HT
          refine (tagNo1 _ b s k R1.out hs hks H44.out HI.out).mono ?_
          rintro e w2 ⟨x, y, rfl, m2⟩
          have M2 := Lib.hid m2
          clear m2
          go_wp2_with fail
          rw [Exit.noGoto_ret]
          go_ret2
          rw [HX.out]
          exact ⟨rfl, (M1.out.trans M2.out).alloc _⟩
        rw [hi] at HT
        have HI := Lib.hid hi
        clear hi
        by_cases h61 : chr s i = 61
        · rcases hj : wordAt s (i + 1) with _ | j
          · have hX := HT.out (.bad (i + 1)) (by simp only [h61, if_true, hj])
            have HX := Lib.hid hX
            have HJ := Lib.hid hj
            have H61 := Lib.hid h61
            clear hX hj h61 HT
            refine (tagNo3 _ b s k i R1.out hs hks H44.out HI.out H61.out HJ.out).mono ?_
            rintro e w2 ⟨x, y, rfl, m2⟩
            have M2 := Lib.hid m2
            clear m2
            go_wp2_with fail
            rw [Exit.noGoto_ret]
            go_ret2
            rw [HX.out]
            exact ⟨rfl, (M1.out.trans M2.out).alloc _⟩
          · have hX := HT.out (tagsFrom s g j (acc ++ [(s.extract (k + 1) i, s.extract (i + 1) j)])) (by simp only [h61, if_true, hj])
            have HX := Lib.hid hX
            have HJ := Lib.hid hj
            have H61 := Lib.hid h61
            have hjs : j ≤ s.size := (wordAt_le (by have := chr_lt_size (s := s) (k := i) (by omega); omega) hj).2
            clear hX hj h61 HT
            refine (tagYes _ b s k i j R1.out hs hks H44.out HI.out H61.out HJ.out).mono ?_
            rintro e w2 ⟨rfl, m2⟩
            have M2 := Lib.hid (M1.out.trans m2)
            have O2 := Lib.hid ((HA.out.own.kept (w' := w2) (b := b) (grown_trans (grown_drew (grown_refl _ _) n) m2.grown) hbw).alloc (.cells #[.string (s.extract (k + 1) i), .string (s.extract (i + 1) j)] 94))
            clear m2
            have hw2 : w.heap.size ≤ w2.heap.size := M2.out.grown.size
            obtain ⟨A', cap', w3, r3, o3, b3⟩ := append_tag (s.extract (k + 1) i) (s.extract (i + 1) j) O2.out (by simp; omega) (by omega)
            simp only [World.size_alloc] at r3
            have HR3 := Lib.hid r3
            have HO3 := Lib.hid o3
            have HB3 := Lib.hid b3
            clear r3 o3 b3
            go_wp2_with (at_builtin; refine wpList_append_if rfl (.tmp 23) (.tmp 25) 69 rfl _ _ _ rfl rfl HR3.out ?_)
            go_roundg g
            case rel =>
              refine ⟨j, acc ++ [(s.extract (k + 1) i, s.extract (i + 1) j)], A', cap', by rw [List.length_append]; rfl, Lib.hid ⟨by rw [List.length_append]; simp; omega, HX.out, HO3.out, ?_, hjs⟩⟩
              exact (M2.out.alloc _).below HB3.out hbw
            case measure => omega
        · have hX := HT.out (.bad i) (by simp only [h61, if_false])
          have HX := Lib.hid hX
          have H61 := Lib.hid h61
          clear hX h61 HT
          refine (tagNo2 _ b s k i R1.out hs hks H44.out HI.out H61.out).mono ?_
          rintro e w2 ⟨x, y, rfl, m2⟩
          have M2 := Lib.hid m2
          clear m2
          go_wp2_with fail
          rw [Exit.noGoto_ret]
          go_ret2
          rw [HX.out]
          exact ⟨rfl, (M1.out.trans M2.out).alloc _⟩
    · have HP : Hid (∀ e w', TagsBad w b s k e w' → TagsPost w b s (tagsFrom s 6 k0 []) e w') := Lib.hid (fun e w' hp => by
        rw [HA.out.eq]
        have e1 : tagsFrom s gk k acc = .good k acc := by cases gk <;> simp [tagsFrom, h44]
        rw [e1]
        unfold TagsPost
        simp only [h32, if_false]
        exact hp)
      have e32 := chr_ne h32 32 rfl
      have e44 := chr_ne h44 44 rfl
      clear h32 h44
      go_wp2_with ((go_at_call 72; refine C.out.mono ?_); rintro e w' ⟨rfl, n, rfl⟩)
      rw [Exit.noGoto_ret]
      go_ret2
      exact HP.out _ _ ⟨rfl, HA.out.mv.drew n⟩
end Go.Proofs.YtahmcelkfbigkaaDoor
