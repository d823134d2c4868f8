/-
  The document's disk, on: Read, Remove.
-/
import Derived.Test.YtgeahpfdaehjaaaGreatDoorQDiskRef
import Derived.Deep.RegionLaw
namespace Go.Proofs.YtgeahpfdaehjaaaGreatDoor
open Go.ChangeShapes Go.WideShapes Go.ChangeAt Go.RowKit
set_option linter.unusedVariables false

theorem step_append_at8 {P : Program} {ops : Array Oper} {o : Oper} {a : Act} {w w' : World} {K : Act → World → Prop} {Q : Exit → Act → World → Prop} {E : Prop}
    (hg : o.guard = none) (s x : Operand) (t : TypeId) (hop : o.op = Op.call { callee := Callee.builtin Builtin.append, args := #[s, x], argTypes := #[t, t] })
    (vs vx v' : Value) (hs : a.eval s = vs) (hx : a.eval x = vx) (hrun : (Builtin.append_ #[t, t] o.type #[vs, vx]).run P w = .ok v' w') (hK : K (a.put o.dst v') w') :
    if Region.wanted o (yielded ops a.tmps) = true then Oper.wp P o a w K Q else E := by
  have hw : Region.wanted o (yielded ops a.tmps) = true := by simp [Region.wanted, hg]
  rw [if_pos hw]
  unfold Oper.wp
  simp [execOp, hop, resolve, invoke, builtin, hs, hx, hrun, Result.andThen]
  exact hK
def RefReads (w : World) (r : Nat × List UInt8) (e : Ending) (w' : World) : Prop := e = .returned (.tuple #[.string ⟨r.2.toArray⟩, .int .i64 (r.1 : Nat)]) ∧ w' = w
/-- A row that nothing lies in. -/
theorem ownP_made (w : World) : OwnP (w.alloc (.cells #[] 132)) w.heap.size (.slice (some ⟨w.heap.size, 0, none⟩) 0 0) [] := World.ownsRow_made w #[] 0 (Nat.le_refl _) (by simp) (by simp)
theorem OwnP.mono {w : World} {base base' : Nat} {v : Value} {L : List Pt} (h : OwnP w base v L) (hb : base' ≤ base) : OwnP w base' v L := owns_mono h hb
theorem SrcP.below {w w' : World} {A : Option Addr} {cap : Nat} {L : List Pt} (h : SrcP w A cap L) (hb : Below w.heap.size w w') : SrcP w' A cap L :=
  h.keeps (Keeps.of_below hb (Nat.le_refl _) (fun _ => False)) (fun _ _ e => e)
set_option maxRecDepth 100000 in
set_option maxHeartbeats 4000000 in
theorem remove_walk (w : World) (G : Nat → Prop) (m rm : Nat) (x y : List Pt) (q : Pt) (A : Option Addr) (cap : Nat) (n : Int) (hd : RfB w m rm false A cap (x ++ q :: y)) (hG : ∀ g, G g ↔ footR m A g) (hl : (x ++ q :: y).length ≤ 1000)
    (hC : Calls Tryz.prog 89 #[.pointer (some ⟨m, 0, none⟩), .int .i64 n] w (fun e w' => e = .returned (.tuple #[.int .i64 (x.length : Nat), .int .i64 0]) ∧ w' = w)) :
    Calls Tryz.prog 92 #[.pointer (some ⟨m, 0, none⟩), .int .i64 n] w (RefOps w G m rm false (0, x ++ y)) := by
  obtain ⟨src, hoff⟩ := hd.src
  have hlen : (x ++ q :: y).length = x.length + 1 + y.length := by simp; omega
  -- the two cuts
  have sx : SrcP w A cap x := by have := src.take x.length; rw [List.take_left] at this; exact this
  have s1 := fun w => sliceP_to A (x ++ q :: y).length cap x.length (by have := src.le; omega) src.nn w
  obtain ⟨A', s2, hsy, hblk⟩ := sliceP_from A cap (x ++ q :: y) (x.length + 1) (by omega) src.le src.nn
  have hdr : (x ++ q :: y).drop (x.length + 1) = y := by rw [List.drop_append, List.drop_of_length_le (by omega), List.nil_append, show x.length + 1 - x.length = 1 by omega]; rfl
  rw [hdr] at hsy s2
  -- the two appends
  have b0 : Below w.heap.size w (w.drew.alloc (.cells #[] 132)) := (Below.refl w.heap.size w).drew.alloc (Nat.le_refl _) _
  obtain ⟨v1, w1, R1, o1, g1, l1⟩ := ownP_app (ownP_made w.drew) (sx.below b0) (by simp; omega) (by simp)
  rw [List.nil_append] at o1
  have v1lt : ∀ g, v1.ownBlock = some g → w.heap.size ≤ g := fun g hg => (World.ownsRow.lt o1 g hg).1
  have b1 : Below w.heap.size w w1 := b0.grown g1 b0.size (fun k hk => by cases hk; simp)
  obtain ⟨v2, w2, R2, o2, g2, l2⟩ := ownP_app o1 ((hsy w src).below b1) (by omega) (by have := b1.size; simpa using this)
  have b2 : Below w.heap.size w w2 := b1.grown g2 b1.size (fun k hk => v1lt k hk)
  obtain ⟨A2, cap2, ev2, _, _⟩ := o2.src
  subst ev2
  have c1 := hd.c1
  have c11 := (hd.below b1).c1
  have c12 := (hd.below b2).c1
  have f12 := (hd.below b2).f 1
  have lm := hd.lt
  have FIN : Hid (RefOps w G m rm false (0, x ++ y) (.returned (.int .i64 0)) (w2.setCell ⟨m, 1, none⟩ (.slice A2 (x ++ y).length cap2))) := Lib.hid (by
    refine ⟨rfl, footR m A2, ⟨A2, cap2, RfB.setL (hd.below b2).blk (o2.mono (Nat.zero_le _)), fun g => Iff.rfl⟩, ?_, fun g hg => ?_⟩
    · exact ((Keeps.of_below b2 (Nat.le_refl _) G).set _ _ (.inl ((hG m).2 (.inl rfl))))
    · rcases hg with e | ⟨ad, ha, e⟩
      · exact .inl ((hG g).2 (.inl e))
      · exact .inr (by subst ha; rw [← e]; exact (World.ownsRow.lt o2 ad.block rfl).1))
  have hnl : (x ++ y).length ≤ 1000 := by rw [List.length_append]; omega
  have hxN : x.length + 1 ≤ (x ++ q :: y).length := by omega
  obtain ⟨N, hN⟩ : ∃ N, (x ++ q :: y).length = N := ⟨_, rfl⟩
  obtain ⟨M, hM⟩ : ∃ M, (x ++ y).length = M := ⟨_, rfl⟩
  rw [hN] at c1 c11 c12 s1 s2 hxN hl
  rw [hM] at FIN R2 hnl
  have s2' : ∀ w, (Instr.slice 45 (.slice A N cap) (some (.int .i64 ((x.length : Int) + 1))) none none).run Tryz.prog w = .ok (.slice A' y.length (cap - (x.length + 1))) w := s2
  have s2w : ∀ w, (Instr.slice 45 (.slice A N cap) (some (.int .i64 (IntKind.i64.wrap ((x.length : Int) + 1)))) none none).run Tryz.prog w = .ok (.slice A' y.length (cap - (x.length + 1))) w := by
    rw [show IntKind.i64.wrap ((x.length : Int) + 1) = (x.length : Int) + 1 by rw [IntKind.wrap_i64]; omega]
    exact s2
  have R1 := Lib.hid R1
  have R2 := Lib.hid R2
  have HC := Lib.hid hC
  clear hd hG hC src hoff hlen sx hsy hblk hdr b0 o1 g1 l1 v1lt b1 o2 g2 l2 b2 hN hM s2
  go_enter Tryz.func92, Tryz.ntmps92
  go_wp2_with fail
  refine HC.out.mono ?_
  rintro e w' ⟨rfl, rfl⟩
  go_wp2_with fail
  go_region_law (first
    | (refine step_append_at8 rfl (.tmp 16) (.tmp 22) 45 rfl _ _ _ rfl rfl R1.out ?_)
    | (refine step_append_at8 rfl (.tmp 23) (.tmp 30) 45 rfl _ _ _ rfl rfl R2.out ?_)
    | fail)
  all_goals
    go_wp2_with fail
    go_ret
    exact FIN.out
theorem refRemove (w : World) (G : Nat → Prop) (m rm : Nat) (dn : Bool) (L : List Pt) (n : Int) (h : Rfd w G m rm dn L) (hi : Inv rm L) (hl : L.length ≤ 1000) :
    Calls Tryz.prog 92 #[.pointer (some ⟨m, 0, none⟩), .int .i64 n] w (RefOps w G m rm dn (opRemove dn L n)) := by
  obtain ⟨A, cap, hd, hG⟩ := h
  rcases refThere w m rm dn A cap L n hd hl hi.rise with ⟨hc, hC⟩ | ⟨rfl, x, q, y, rfl, hq, hx, hy, hC⟩
  · unfold opRemove
    rw [if_neg hc]
    have HD : Hid (Rfd w G m rm dn L) := Lib.hid ⟨A, cap, hd, hG⟩
    have HC := Lib.hid hC
    have x1 : (((missC dn L n : Nat) : Int) == 0) = false := beq_eq_false_iff_ne.2 (by omega)
    have x2 : ¬ ((missC dn L n : Nat) : Int) = 0 := by omega
    generalize missC dn L n = c at *
    clear hd hG hi hC
    go_enter Tryz.func92, Tryz.ntmps92
    go_wp2_with fail
    refine HC.out.mono ?_
    rintro e w' ⟨rfl, rfl⟩
    go_wp2_with fail
    go_ret
    exact ⟨rfl, G, HD.out, Mv8.still (Below.refl _ _)⟩
  · unfold opRemove
    have hfx := find_has (y := y) hq hx
    rw [if_pos (miss_some hfx), del_has hq hx]
    exact remove_walk w G m rm x y q A cap n hd hG hl hC
end Go.Proofs.YtgeahpfdaehjaaaGreatDoor
