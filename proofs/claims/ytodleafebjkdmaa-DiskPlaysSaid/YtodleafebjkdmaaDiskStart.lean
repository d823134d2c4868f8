/-
  Layer 8: the law DiskPlays: where it lets go; where it begins; each deed, on either disk.
-/
import Derived.Test.YtodleafebjkdmaaDiskBoth
import Derived.Test.YtodleafebjkdmaaDiskDeeds
import Derived.Deep.CutBlock
import Derived.Deep.DeepCutAuto
namespace Go.Proofs.Ytodleafebjkdmaa
open Go.ChangeShapes Go.WideShapes Go.ChangeAt Go.RowKit
set_option linter.unusedVariables false

set_option maxRecDepth 100000 in
theorem plays_bad (room : Int) (A : Option Addr) (c n : Nat) (W : World) (h : room < 1 ∨ 65536 < room) :
    Calls Try.prog 3 #[.int .i64 room, .slice A n c] W (Holds W) := by
  have CU := Lib.hid (up_disk W)
  have CN := Lib.hid (fun w => new_bad w room h)
  unfold errV at CN
  have eqc := eql_codes
  rcases h with h | h
  · go_enter Try.func3, Try.ntmps3
    go_wp2_with fail
    refine CU.out.mono ?_
    rintro e w1 ⟨rfl, b1⟩
    have B1 := Lib.hid b1
    clear b1 CU
    go_wp2_with fail
    refine (CN.out _).mono ?_
    rintro e w2 ⟨rfl, rfl⟩
    go_wp2_with fail
    go_ret
    exact ⟨rfl, B1.out⟩
  · have h1 : ¬ room < 1 := by omega
    go_enter Try.func3, Try.ntmps3
    go_wp2_with fail
    refine CU.out.mono ?_
    rintro e w1 ⟨rfl, b1⟩
    have B1 := Lib.hid b1
    clear b1 CU
    go_wp2_with fail
    refine (CN.out _).mono ?_
    rintro e w2 ⟨rfl, rfl⟩
    go_wp2_with fail
    go_ret
    exact ⟨rfl, B1.out⟩
set_option maxRecDepth 100000 in
theorem plays_many (rm : Nat) (A : Option Addr) (c n : Nat) (W : World) (h0 : 1 ≤ rm) (h1 : rm ≤ 65536) (hn : 100 < n) (hn1 : n ≤ 9223372036854775807) :
    Calls Try.prog 3 #[.int .i64 (rm : Nat), .slice A n c] W (Holds W) := by
  have CU := Lib.hid (up_disk W)
  have CN := Lib.hid (fun w => new_good w rm h0 h1)
  have i1 : ¬ ((rm : Int) < 1) := by omega
  have i2 : ¬ ((65536 : Int) < rm) := by omega
  have i3 : (100 : Int) < n := by omega
  go_enter Try.func3, Try.ntmps3
  go_wp2_with fail
  refine CU.out.mono ?_
  rintro e w1 ⟨rfl, b1⟩
  have B1 := Lib.hid b1
  clear b1 CU
  go_wp2_with fail
  refine (CN.out _).mono ?_
  rintro e w2 ⟨a, F, rfl, _, b2, _⟩
  have B2 := Lib.hid (B1.out.trans (b2.mono B1.out.size))
  clear b2
  go_wp2_with fail
  go_ret
  exact ⟨rfl, B2.out⟩
/-- Where it begins. -/
theorem bo_start {W w : World} {F : Nat → Prop} {a rm : Nat} (hd : Dsk w F a rm false []) (hF : ∀ g, F g → W.heap.size ≤ g) (hb : Below W.heap.size W w) :
    Bo W (w.alloc (.cells #[.int .i64 (rm : Nat), .slice none 0 0, .bool false] 33)) [] a w.heap.size rm false [] false [] := by
  have hb' : Below w.heap.size w (w.alloc (.cells #[.int .i64 (rm : Nat), .slice none 0 0, .bool false] 33)) := (Below.refl _ _).alloc (Nat.le_refl _) _
  refine ⟨F, footR w.heap.size none, hd.below hb', ⟨none, 0, ⟨heap_alloc_new w _, World.ownsRow_nil _ _ _ _⟩, fun g => Iff.rfl⟩, hF, fun g hg => ?_, fun g hg hG => ?_, hb.trans (hb'.mono hb.size), fun k hk => by cases hk⟩
  · rcases hg with rfl | ⟨ad, ha, _⟩
    · exact hb.size
    · cases ha
  · rcases hG with rfl | ⟨ad, ha, _⟩
    · have := hd.lt hg; omega
    · cases ha

theorem append_code (rm : Nat) (dn : Bool) (L : List Pt) (n : Int) (bs : List UInt8) : (opAppend rm dn L n bs).1 ≤ 10 := by
  unfold opAppend
  split
  · simp
  · split
    · simp
    · split <;> simp
theorem miss_code (dn : Bool) (L : List Pt) (n : Int) : missC dn L n ≤ 10 := by
  unfold missC
  split
  · simp
  · split <;> simp
theorem sync_code (dn : Bool) (L : List Pt) (n : Int) : (opSync dn L n).1 ≤ 10 := by
  unfold opSync
  split
  · simp
  · exact miss_code _ _ _
theorem cut_code (dn : Bool) (L : List Pt) (n z : Int) : (opCut dn L n z).1 ≤ 10 := by
  unfold opCut
  split
  · split <;> simp
  · exact miss_code _ _ _
theorem remove_code (dn : Bool) (L : List Pt) (n : Int) : (opRemove dn L n).1 ≤ 10 := by
  unfold opRemove
  split
  · simp
  · exact miss_code _ _ _
theorem read_code (dn : Bool) (L : List Pt) (n : Int) : (opRead dn L n).1 ≤ 10 := by
  unfold opRead
  split
  · simp
  · exact miss_code _ _ _
theorem read_len {rm : Nat} {L : List Pt} (h : Inv rm L) (dn : Bool) (n : Int) : (opRead dn L n).2.length ≤ 65536 := by
  unfold opRead
  split
  · show (bytesOf n L).length ≤ 65536
    unfold bytesOf
    have hs := split n L h.rise
    cases hs with
    | has x q y hq hx hy =>
      rw [find_has hq hx]
      have := used_mem (p := q) (l := x ++ q :: y) (by simp)
      have := h.fits
      have := h.room
      simp only
      omega
    | no x y hx hy => rw [find_no hx hy]; simp
  · simp
def deObj (d : De) (B : Option Addr) (cb : Nat) : Obj := .cells #[.int .i64 d.t, .int .i64 d.n, .int .i64 d.z, .slice B d.b.length cb] 36
/-- The deed's copy, and a copy of its bytes. -/
theorem own_start {W wr : World} {a m rm : Nat} {dn dn2 : Bool} {L L2 : List Pt} (hB : Bo W wr [] a m rm dn L dn2 L2) {d : De} {B : Option Addr} {cb : Nat} (hr : RdS W B cb d.b) (hl : d.b.length ≤ 500) :
    ∃ g cp w4, (Builtin.append_ #[34, 34] 34 #[.slice (some ⟨wr.heap.size + 1, 0, none⟩) 0 0, .slice B d.b.length cb]).run Try.prog ((wr.alloc (deObj d B cb)).alloc (.cells #[] 5)) = .ok (.slice (some ⟨g, 0, none⟩) d.b.length cp) w4 ∧
      OB w4 0 (.slice (some ⟨g, 0, none⟩) d.b.length cp) d.b ∧ Bo W w4 [g, wr.heap.size] a m rm dn L dn2 L2 ∧ w4.heap[wr.heap.size]? = some (deObj d B cb) := by
  have hx : (wr.alloc (deObj d B cb)).heap.size = wr.heap.size + 1 := by simp
  have bX : Below wr.heap.size wr (wr.alloc (deObj d B cb)) := (Below.refl _ _).alloc (Nat.le_refl _) _
  have bY : Below (wr.alloc (deObj d B cb)).heap.size (wr.alloc (deObj d B cb)) ((wr.alloc (deObj d B cb)).alloc (.cells #[] 5)) := (Below.refl _ _).alloc (Nat.le_refl _) _
  have hbW := (hB.below.trans (bX.mono hB.below.size)).trans (bY.mono (Nat.le_trans hB.below.size bX.size))
  have o0 : OB ((wr.alloc (deObj d B cb)).alloc (.cells #[] 5)) 0 (.slice (some ⟨wr.heap.size + 1, 0, none⟩) 0 0) [] := by
    rw [← hx]; exact World.ownsRow_made (wr.alloc (deObj d B cb)) #[] 0 (Nat.zero_le _) (by simp) (by simp)
  obtain ⟨v', w4, R, o4, g4, at4⟩ := ob_grow o0 (hr.below hbW (Nat.le_refl _)) (by simp; omega)
  rw [List.nil_append] at o4
  have hob : ∃ g, v'.ownBlock = some g ∧ wr.heap.size + 1 ≤ g := by
    rcases at4 with e | e
    · exact ⟨wr.heap.size + 1, e, Nat.le_refl _⟩
    · exact ⟨_, e, by simp⟩
  obtain ⟨g, hg, hgl⟩ := hob
  have hbX4 : Below (wr.alloc (deObj d B cb)).heap.size (wr.alloc (deObj d B cb)) w4 := bY.grown g4 bY.size (fun k hk => by cases hk; rw [hx]; exact Nat.le_refl _)
  have hgs : g < w4.heap.size := (World.ownsRow.lt o4 g hg).2
  rcases o4.2 with ⟨rfl, _⟩ | ⟨g', cp, cur, rfl, _⟩
  · cases hg
  · obtain rfl : g' = g := Option.some.inj hg
    refine ⟨g', cp, w4, R, o4, (hB.more bX (Nat.le_refl _) (by rw [hx]; omega)).more hbX4 (by rw [hx]; exact hgl) hgs, ?_⟩
    rw [hbX4.block _ (by rw [hx]; omega)]
    exact heap_alloc_new wr _
section
variable {W w : World} {E : List Nat} {a m rm : Nat} {dn dn2 : Bool} {L L2 : List Pt}
theorem Bo.appendP (h : Bo W w E a m rm dn L dn2 L2) (n : Int) {B : Option Addr} {cb : Nat} {bs : List UInt8} (hr : RdS w B cb bs) (hi : Inv rm L) (hl : L.length ≤ 1000) (hn : n ≤ 9223372036854775807) (hb : bs.length ≤ 1000000) :
    Calls Try.prog 8 #[.pointer (some ⟨a, 0, none⟩), .int .i64 n, .slice B bs.length cb] w fun e w' => e = .returned (ErrV (opAppend rm dn L n bs).1) ∧ Bo W w' E a m rm dn (opAppend rm dn L n bs).2 dn2 L2 ∧ Same E w w' :=
  h.callP (Q := fun e => e = .returned (ErrV (opAppend rm dn L n bs).1)) fun F hF => appendD w F a rm dn L n B cb bs hF hr hi hl hn hb
theorem Bo.appendR (h : Bo W w E a m rm dn L dn2 L2) (n : Int) (bs : List UInt8) (hi : Inv rm L2) (hl : L2.length ≤ 1000) (hn : n ≤ 9223372036854775807) (hb : bs.length ≤ 1000000) :
    Calls Try.prog 9 #[.pointer (some ⟨m, 0, none⟩), .int .i64 n, .string ⟨bs.toArray⟩] w fun e w' => e = .returned (.int .i64 ((opAppend rm dn2 L2 n bs).1 : Nat)) ∧ Bo W w' E a m rm dn L dn2 (opAppend rm dn2 L2 n bs).2 ∧ Same E w w' :=
  h.callR (Q := fun e => e = .returned (.int .i64 ((opAppend rm dn2 L2 n bs).1 : Nat))) fun G hG => refAppend w G m rm dn2 L2 n bs hG hi hl hn hb
theorem Bo.syncP (h : Bo W w E a m rm dn L dn2 L2) (n : Int) (hi : Inv rm L) (hl : L.length ≤ 1000) (h0 : -9223372036854775808 ≤ n) (h1 : n ≤ 9223372036854775807) :
    Calls Try.prog 10 #[.pointer (some ⟨a, 0, none⟩), .int .i64 n] w fun e w' => e = .returned (ErrV (opSync dn L n).1) ∧ Bo W w' E a m rm dn (opSync dn L n).2 dn2 L2 ∧ Same E w w' :=
  h.callP (Q := fun e => e = .returned (ErrV (opSync dn L n).1)) fun F hF => syncD w F a rm dn L n hF hi hl h0 h1
theorem Bo.syncR (h : Bo W w E a m rm dn L dn2 L2) (n : Int) (hi : Inv rm L2) (hl : L2.length ≤ 1000) :
    Calls Try.prog 11 #[.pointer (some ⟨m, 0, none⟩), .int .i64 n] w fun e w' => e = .returned (.int .i64 ((opSync dn2 L2 n).1 : Nat)) ∧ Bo W w' E a m rm dn L dn2 (opSync dn2 L2 n).2 ∧ Same E w w' :=
  h.callR (Q := fun e => e = .returned (.int .i64 ((opSync dn2 L2 n).1 : Nat))) fun G hG => refSync w G m rm dn2 L2 n hG hi hl
theorem Bo.cutP (h : Bo W w E a m rm dn L dn2 L2) (n z : Int) (hi : Inv rm L) (hl : L.length ≤ 1000) (h0 : -9223372036854775808 ≤ n) (h1 : n ≤ 9223372036854775807) :
    Calls Try.prog 12 #[.pointer (some ⟨a, 0, none⟩), .int .i64 n, .int .i64 z] w fun e w' => e = .returned (ErrV (opCut dn L n z).1) ∧ Bo W w' E a m rm dn (opCut dn L n z).2 dn2 L2 ∧ Same E w w' :=
  h.callP (Q := fun e => e = .returned (ErrV (opCut dn L n z).1)) fun F hF => cutD w F a rm dn L n z hF hi hl h0 h1
theorem Bo.cutR (h : Bo W w E a m rm dn L dn2 L2) (n z : Int) (hi : Inv rm L2) (hl : L2.length ≤ 1000) :
    Calls Try.prog 13 #[.pointer (some ⟨m, 0, none⟩), .int .i64 n, .int .i64 z] w fun e w' => e = .returned (.int .i64 ((opCut dn2 L2 n z).1 : Nat)) ∧ Bo W w' E a m rm dn L dn2 (opCut dn2 L2 n z).2 ∧ Same E w w' :=
  h.callR (Q := fun e => e = .returned (.int .i64 ((opCut dn2 L2 n z).1 : Nat))) fun G hG => refCut w G m rm dn2 L2 n z hG hi hl
theorem Bo.removeP (h : Bo W w E a m rm dn L dn2 L2) (n : Int) (hi : Inv rm L) (hl : L.length ≤ 1000) (h0 : -9223372036854775808 ≤ n) (h1 : n ≤ 9223372036854775807) :
    Calls Try.prog 14 #[.pointer (some ⟨a, 0, none⟩), .int .i64 n] w fun e w' => e = .returned (ErrV (opRemove dn L n).1) ∧ Bo W w' E a m rm dn (opRemove dn L n).2 dn2 L2 ∧ Same E w w' :=
  h.callP (Q := fun e => e = .returned (ErrV (opRemove dn L n).1)) fun F hF => removeD w F a rm dn L n hF hi hl h0 h1
theorem Bo.removeR (h : Bo W w E a m rm dn L dn2 L2) (n : Int) (hi : Inv rm L2) (hl : L2.length ≤ 1000) :
    Calls Try.prog 15 #[.pointer (some ⟨m, 0, none⟩), .int .i64 n] w fun e w' => e = .returned (.int .i64 ((opRemove dn2 L2 n).1 : Nat)) ∧ Bo W w' E a m rm dn L dn2 (opRemove dn2 L2 n).2 ∧ Same E w w' :=
  h.callR (Q := fun e => e = .returned (.int .i64 ((opRemove dn2 L2 n).1 : Nat))) fun G hG => refRemove w G m rm dn2 L2 n hG hi hl
theorem Bo.crashP (h : Bo W w E a m rm dn L dn2 L2) (z : Int) (hi : Inv rm L) (hl : L.length ≤ 1000) (h1 : z ≤ 9223372036854775807) :
    Calls Try.prog 18 #[.pointer (some ⟨a, 0, none⟩), .int .i64 z] w fun e w' => e = .returned (.tuple #[]) ∧ Bo W w' E a m rm true (opCrash dn L z) dn2 L2 ∧ Same E w w' :=
  h.callP (Q := fun e => e = .returned (.tuple #[])) fun F hF => crashD w F a rm dn L z hF hi hl h1
theorem Bo.crashR (h : Bo W w E a m rm dn L dn2 L2) (z : Int) (hi : Inv rm L2) (hl : L2.length ≤ 1000) (h1 : z ≤ 9223372036854775807) :
    Calls Try.prog 19 #[.pointer (some ⟨m, 0, none⟩), .int .i64 z] w fun e w' => e = .returned (.tuple #[]) ∧ Bo W w' E a m rm dn L true (opCrash dn2 L2 z) ∧ Same E w w' :=
  h.callR (Q := fun e => e = .returned (.tuple #[])) fun G hG => refCrash w G m rm dn2 L2 z hG hi hl h1
theorem Bo.upP (h : Bo W w E a m rm dn L dn2 L2) :
    Calls Try.prog 20 #[.pointer (some ⟨a, 0, none⟩)] w fun e w' => e = .returned (.tuple #[]) ∧ Bo W w' E a m rm false L dn2 L2 ∧ Same E w w' :=
  h.callP (Q := fun e => e = .returned (.tuple #[])) fun F hF => (up_walk w F a rm dn L hF).mono (by rintro e w' ⟨rfl, d, mv⟩; exact ⟨rfl, F, d, mv⟩)
end
end Go.Proofs.Ytodleafebjkdmaa
