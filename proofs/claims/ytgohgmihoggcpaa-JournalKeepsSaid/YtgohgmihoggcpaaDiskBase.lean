/-
  Layer 8 (disk): bytes.Clone; New; find; Used; Up; what a disk comes to (Dsk), and what becomes of the world.
-/
import Derived.Test.YtgohgmihoggcpaaDiskMem
import Derived.Deep.QuietTactic
import Derived.BigQuiet
import Derived.Carry
import Derived.RegionTactic
import Derived.ChangeAlike
import Derived.BigRegion
import Derived.Handy
import Derived.Lib.SliceRun
namespace Go.Proofs.Ytgohgmihoggcpaa
open Go.ChangeShapes Go.WideShapes Go.ChangeAt Go.RowKit
set_option linter.unusedVariables false

/-- A disk: its own blocks, its room, whether it is down, its parts. -/
def Dsk (w : World) (F : Nat → Prop) (a rm : Nat) (dn : Bool) (L : List Pt) : Prop :=
  ∃ b xs, DkB w a b rm dn xs ∧ pts xs = L ∧ ∀ g, F g ↔ foot a b xs g
/-- What becomes of the world, and of the disk's own blocks. -/
structure Mv8 (w : World) (F : Nat → Prop) (w' : World) (F' : Nat → Prop) : Prop where
  keeps : Keeps F w w'
  own : ∀ g, F' g → F g ∨ w.heap.size ≤ g
theorem Mv8.trans {w w1 w2 : World} {F F1 F2 : Nat → Prop} (h : Mv8 w F w1 F1) (k : Mv8 w1 F1 w2 F2) : Mv8 w F w2 F2 :=
  ⟨h.keeps.trans k.keeps h.own, fun g hg => by
    rcases k.own g hg with e | e
    · exact h.own g e
    · have := h.keeps.size; exact .inr (by omega)⟩
theorem Mv8.still {w w1 : World} {F : Nat → Prop} (h : Below w.heap.size w w1) : Mv8 w F w1 F := ⟨Keeps.of_below h (Nat.le_refl _) F, fun _ h => .inl h⟩
theorem Dsk.keeps {w w' : World} {F G : Nat → Prop} {a rm : Nat} {dn : Bool} {L : List Pt} (h : Dsk w F a rm dn L) (k : Keeps G w w') (hG : ∀ g, F g → ¬ G g) : Dsk w' F a rm dn L := by
  obtain ⟨b, xs, h1, h2, h3⟩ := h
  exact ⟨b, xs, h1.keeps k (fun g hg => hG g ((h3 g).2 hg)), h2, h3⟩
theorem Dsk.below {w w' : World} {F : Nat → Prop} {a rm : Nat} {dn : Bool} {L : List Pt} (h : Dsk w F a rm dn L) (k : Below w.heap.size w w') : Dsk w' F a rm dn L :=
  h.keeps (Keeps.of_below k (Nat.le_refl _) (fun _ => False)) (fun _ _ e => e)
theorem Dsk.lt {w : World} {F : Nat → Prop} {a rm : Nat} {dn : Bool} {L : List Pt} (h : Dsk w F a rm dn L) {g : Nat} (hg : F g) : g < w.heap.size := by
  obtain ⟨b, xs, h1, h2, h3⟩ := h
  exact h1.footlt ((h3 g).1 hg)
theorem ret_nil : Ending.returned Value.nilIface = .returned Value.nilIface := rfl
def errV (c : Nat) : Value := .iface 40 (.int .i64 (c : Nat))
theorem zeroC (w : World) : (zeroValue 55).run Try.prog w = .ok (.agg #[.slice none 0 0, .int .i64 0]) w := by kernel_rfl

theorem clone (w : World) (A : Option Addr) (cap : Nat) (l : List UInt8) (hr : RdS w A cap l) (hl : l.length ≤ 1000000) :
    Calls Try.prog 29 #[.slice A l.length cap] w fun e w' => ∃ v, e = .returned v ∧ OB w' w.heap.size v l ∧ Below w.heap.size w w' := by
  have q : ∀ (w : World) (a : Option Addr) (n c n' c' : Nat), (binOp .eql 32 (.slice a n c) (.slice none n' c')).run Try.prog w = .ok (.bool a.isNone) w := fun w a n c n' c' => Lib.run_eql_slice_nil w _ _ a n c n' c' Try.underlying32
  cases A with
  | none =>
    obtain rfl := hr.nn rfl
    have h0 : l = [] := List.length_eq_zero_iff.1 (by have := hr.le; omega)
    subst h0
    clear hr hl
    go_enter Try.func29, Try.ntmps29
    go_wp2
    go_ret
    exact ⟨_, rfl, OB.nil _ _, Below.refl _ _⟩
  | some ad =>
    obtain ⟨v', w', hrun, ho, hg⟩ := ob_row (w := w.alloc (.cells #[] 5)) (B := w.heap.size) (v := .slice (some ⟨w.heap.size, 0, none⟩) 0 0) (l := []) (World.ownsRow_made w #[] 0 (Nat.le_refl _) (by simp) (by simp)) (hr.alloc _) (by simpa using hl) (by simp)
    have R := Lib.hid hrun
    have O := Lib.hid ho
    have G := Lib.hid hg
    clear hrun ho hg hr
    go_enter Try.func29, Try.ntmps29
    go_wp2_with (first | (at_builtin; refine wpList_append_two rfl (.tmp 5) (.tmp 6) 32 32 rfl _ _ _ rfl rfl R.out ?_) | fail)
    go_ret
    exact ⟨_, rfl, O.out, ((Below.refl w.heap.size w).alloc (Nat.le_refl _) _).trans G.out.below⟩

def diskObj (rm us : Nat) (dn : Bool) (b : Nat) : Obj := .cells (diskCells rm us dn b) 43 (0, 0)
theorem new_disk (w : World) (rm : Nat) : Dsk ((w.alloc (.map #[] 0)).alloc (diskObj rm 0 false w.heap.size)) (foot (w.heap.size + 1) w.heap.size []) (w.heap.size + 1) rm false [] := by
  refine ⟨w.heap.size, [], ⟨?_, ?_, by simp, List.Pairwise.nil⟩, rfl, fun g => Iff.rfl⟩
  · have := heap_alloc_new (w.alloc (.map #[] 0)) (diskObj rm 0 false w.heap.size)
    rw [World.size_alloc] at this
    exact this
  · exact (World.ownsMap_made w Try.prog 3 RV).alloc _
theorem new_good (w : World) (rm : Nat) (h0 : 1 ≤ rm) (h1 : rm ≤ 65536) :
    Calls Try.prog 5 #[.int .i64 (rm : Nat)] w fun e w' => ∃ a F, e = .returned (.tuple #[.pointer (some ⟨a, 0, none⟩), .nilIface]) ∧ Dsk w' F a rm false [] ∧ Below w.heap.size w w' ∧ ∀ g, F g → w.heap.size ≤ g := by
  have hmm := @run_makeMap Try.prog
  go_enter Try.func5, Try.ntmps5
  go_wp2
  go_ret2
  refine ⟨w.heap.size + 1, _, rfl, new_disk w rm, ((Below.refl w.heap.size w).alloc (Nat.le_refl _) _).alloc (by simp) _, fun g hg => ?_⟩
  rcases hg with rfl | rfl | ⟨x, hx, _⟩
  · omega
  · omega
  · cases hx
theorem new_bad (w : World) (rm : Int) (h : rm < 1 ∨ 65536 < rm) :
    Calls Try.prog 5 #[.int .i64 rm] w fun e w' => e = .returned (.tuple #[.pointer none, errV 1]) ∧ w' = w := by
  rcases h with h | h
  · go_enter Try.func5, Try.ntmps5
    go_wp2
    go_ret2
    exact ⟨rfl, rfl⟩
  · have h1 : ¬ rm < 1 := by omega
    go_enter Try.func5, Try.ntmps5
    go_wp2
    go_ret2
    exact ⟨rfl, rfl⟩

section
variable {w : World} {b m : Nat} {k : Int} {xs ys : List (Pt × Value)} {q : Pt × Value}
def zeroCV : Value := .agg #[.slice none 0 0, .int .i64 0]
theorem held_inv {v u : Value} {ps : List MemPlace} (h : RV v = some (.held u, ps)) : v = u := by
  unfold RV at h
  cases h
  rfl
theorem look_has (h : w.ownsMap Try.prog 3 RV b m (ents (xs ++ q :: ys))) (h0 : -9223372036854775808 ≤ k) (h1 : k ≤ 9223372036854775807) (hq : q.1.n = k) (hx : ∀ x ∈ xs, x.1.n < k) :
    (Instr.lookup 41 (.map (some b)) (.int .i64 k) false).run Try.prog w = .ok (.agg #[q.2, .int .i64 (q.1.s : Nat)]) w := by
  obtain ⟨v, ps, hrun, hv⟩ := h.lookup keyed Try.underlying41 (zeroC w) (zd := .held zeroCV) (zp := []) rfl (key_of k h0 h1)
  rw [at_mid hq hx] at hv
  rw [hrun, held_inv hv]; rfl
theorem look_no (h : w.ownsMap Try.prog 3 RV b m (ents xs)) (h0 : -9223372036854775808 ≤ k) (h1 : k ≤ 9223372036854775807) (hx : ∀ x ∈ xs, x.1.n ≠ k) :
    (Instr.lookup 41 (.map (some b)) (.int .i64 k) false).run Try.prog w = .ok (.agg #[.slice none 0 0, .int .i64 0]) w := by
  obtain ⟨v, ps, hrun, hv⟩ := h.lookup keyed Try.underlying41 (zeroC w) (zd := .held zeroCV) (zp := []) rfl (key_of k h0 h1)
  rw [at_no hx] at hv
  rw [hrun, held_inv hv]; rfl
theorem lookok_has (h : w.ownsMap Try.prog 3 RV b m (ents (xs ++ q :: ys))) (h0 : -9223372036854775808 ≤ k) (h1 : k ≤ 9223372036854775807) (hq : q.1.n = k) (hx : ∀ x ∈ xs, x.1.n < k) :
    (Instr.lookup 41 (.map (some b)) (.int .i64 k) true).run Try.prog w = .ok (.tuple #[.agg #[q.2, .int .i64 (q.1.s : Nat)], .bool true]) w := by
  obtain ⟨v, ps, hrun, hv⟩ := h.look_ok keyed Try.underlying41 (zeroC w) (zd := .held zeroCV) (zp := []) rfl (key_of k h0 h1)
  rw [at_mid hq hx] at hv
  rw [hrun, held_inv hv, has_mid hq]; rfl
theorem lookok_no (h : w.ownsMap Try.prog 3 RV b m (ents xs)) (h0 : -9223372036854775808 ≤ k) (h1 : k ≤ 9223372036854775807) (hx : ∀ x ∈ xs, x.1.n ≠ k) :
    (Instr.lookup 41 (.map (some b)) (.int .i64 k) true).run Try.prog w = .ok (.tuple #[.agg #[.slice none 0 0, .int .i64 0], .bool false]) w := by
  obtain ⟨v, ps, hrun, hv⟩ := h.look_ok keyed Try.underlying41 (zeroC w) (zd := .held zeroCV) (zp := []) rfl (key_of k h0 h1)
  rw [at_no hx] at hv
  rw [hrun, held_inv hv, has_no hx]; rfl
end
theorem pts_n {xs : List (Pt × Value)} {T : Int → Prop} (h : ∀ p ∈ pts xs, T p.n) : ∀ x ∈ xs, T x.1.n := fun x hx => h x.1 (List.mem_map.2 ⟨x, hx, rfl⟩)
theorem owns_shape {w : World} {B : Nat} {v : Value} {l : List UInt8} (h : OB w B v l) : ∃ A cap, v = .slice A l.length cap := by
  obtain ⟨A, cap, e, _⟩ := h.rd
  exact ⟨A, cap, e⟩

set_option maxRecDepth 100000 in
theorem find_gone (w : World) (a b rm us n : Nat) (D : DataW Value) (zs : List (Pt × Value)) (k : Int) (h : DkG w a b rm us true n D zs) :
    Calls Try.prog 28 #[.pointer (some ⟨a, 0, none⟩), .int .i64 k] w fun e w' => e = .returned (.tuple #[.agg #[.slice none 0 0, .int .i64 0], errV 10]) ∧ Below w.heap.size w w' := by
  have lt := h.lt
  have c2 := (h.alloc (.cells #[.slice none 0 0, .int .i64 0] 55)).c2
  clear h
  go_enter Try.func28, Try.ntmps28
  go_wp2
  (try simp only [Exit.inBlock, Exit.then])
  go_returns
  exact ⟨rfl, (Below.refl w.heap.size w).alloc (Nat.le_refl _) _⟩
set_option maxRecDepth 100000 in
theorem find_none (w : World) (a b rm us : Nat) (xs : List (Pt × Value)) (n : Nat) (k : Int) (h : DkG w a b rm us false n (ents xs) xs) (h0 : -9223372036854775808 ≤ k) (h1 : k ≤ 9223372036854775807) (hx : ∀ x ∈ xs, x.1.n ≠ k) :
    Calls Try.prog 28 #[.pointer (some ⟨a, 0, none⟩), .int .i64 k] w fun e w' => e = .returned (.tuple #[.agg #[.slice none 0 0, .int .i64 0], errV 4]) ∧ Below w.heap.size w w' := by
  have lt := h.lt
  have H := h.alloc (.cells #[.slice none 0 0, .int .i64 0] 55)
  have c2 := H.c2
  have c3 := H.c3
  have lk := lookok_no H.map h0 h1 hx
  clear h H hx
  go_enter Try.func28, Try.ntmps28
  go_wp2
  (try simp only [Exit.inBlock, Exit.then])
  go_returns
  exact ⟨rfl, ((Below.refl w.heap.size w).alloc (Nat.le_refl _) _).alloc (by simp) _⟩
set_option maxRecDepth 100000 in
theorem find_some (w : World) (a b rm us : Nat) (x y zs : List (Pt × Value)) (p : Pt) (A : Option Addr) (cap : Nat) (n : Nat) (h : DkG w a b rm us false n (ents (x ++ (p, .slice A p.b.length cap) :: y)) zs) (h0 : -9223372036854775808 ≤ p.n) (h1 : p.n ≤ 9223372036854775807) (hx : ∀ z ∈ x, z.1.n < p.n) :
    Calls Try.prog 28 #[.pointer (some ⟨a, 0, none⟩), .int .i64 p.n] w fun e w' => e = .returned (.tuple #[.agg #[.slice A p.b.length cap, .int .i64 (p.s : Nat)], .nilIface]) ∧ Below w.heap.size w w' := by
  have lt := h.lt
  have H := h.alloc (.cells #[.slice none 0 0, .int .i64 0] 55)
  have c2 := H.c2
  have c3 := H.c3
  have lk := lookok_has H.map h0 h1 rfl hx
  clear h H hx
  go_enter Try.func28, Try.ntmps28
  go_wp2
  (try simp only [Exit.inBlock, Exit.then])
  go_returns
  exact ⟨rfl, ((Below.refl w.heap.size w).alloc (Nat.le_refl _) _).alloc (by simp) _⟩
theorem DkG.store {w : World} {a b rm us n : Nat} {dn : Bool} {D : DataW Value} {zs : List (Pt × Value)} (h : DkG w a b rm us dn n D zs) (hn : n ≤ 10000) (k : Int) (h0 : -9223372036854775808 ≤ k) (h1 : k ≤ 9223372036854775807) (val : Value) :
    ∃ w', (Instr.mapUpdate 41 (.map (some b)) (.int .i64 k) val).run Try.prog w = .ok () w' ∧ DkG w' a b rm us dn (n + 1) (D.put (.int .i64 k) (.held val)) zs ∧ w.mapTurned w' b := by
  obtain ⟨w', hr, hm, ht⟩ := h.map.store keyed Try.underlying41 (by unfold maxLen; omega) (key_of k h0 h1) (d := .held val) (ps := []) rfl
  exact ⟨w', hr, h.turned hm ht, ht⟩
theorem DkG.put_done {w : World} {a b rm us n : Nat} {dn : Bool} {x y : List (Pt × Value)} {q p : Pt × Value} {k : Int} {val : Value} (h : DkG w a b rm us dn n ((ents (x ++ q :: y)).put (.int .i64 k) (.held val)) (x ++ y))
    (hq : q.1.n = k) (hp : p.1.n = k) (hv : val = entV p.1 p.2) (hx : ∀ z ∈ x, z.1.n < k) (hy : ∀ z ∈ y, k < z.1.n) (ho : OB w 0 p.2 p.1.b) (hf : ∀ g, p.2.ownBlock = some g → ¬ foot a b (x ++ y) g) (hu : us = used (pts (x ++ p :: y))) :
    DkB w a b rm dn (x ++ p :: y) := by
  subst hv
  rw [put_has hq hp hx hy] at h
  exact h.more ho hf hu
theorem DkG.put_new {w : World} {a b rm us n : Nat} {dn : Bool} {x y : List (Pt × Value)} {p : Pt × Value} {k : Int} {val : Value} (h : DkG w a b rm us dn n ((ents (x ++ y)).put (.int .i64 k) (.held val)) (x ++ y))
    (hp : p.1.n = k) (hv : val = entV p.1 p.2) (hx : ∀ z ∈ x, z.1.n < k) (hy : ∀ z ∈ y, k < z.1.n) (ho : OB w 0 p.2 p.1.b) (hf : ∀ g, p.2.ownBlock = some g → ¬ foot a b (x ++ y) g) (hu : us = used (pts (x ++ p :: y))) :
    DkB w a b rm dn (x ++ p :: y) := by
  subst hv
  rw [put_no hp hx hy] at h
  exact h.more ho hf hu
theorem used_mid (x y : List (Pt × Value)) (p : Pt × Value) : used (pts (x ++ p :: y)) = used (pts (x ++ y)) + p.1.b.length := by
  unfold pts
  rw [List.map_append, List.map_append, List.map_cons, used_app, used_app, used_cons]; omega
theorem owns_mono {w : World} {base base' : Nat} {e : TypeId} {sz : Nat} {v : Value} {n : Nat} {l : List Value} (h : w.ownsRow base e sz v n l) (hb : base' ≤ base) : w.ownsRow base' e sz v n l := by
  refine ⟨h.1, ?_⟩
  rcases h.2 with hn | ⟨g, cap, cur, hv, hg, r⟩
  · exact .inl hn
  · exact .inr ⟨g, cap, cur, hv, Nat.le_trans hb hg, r⟩
theorem RdS.drew1 {w : World} {A : Option Addr} {cap : Nat} {l : List UInt8} (h : RdS w A cap l) : RdS w.drew A cap l := ⟨h.le, h.nn, h.rd⟩
theorem RdS.take {w : World} {A : Option Addr} {cap : Nat} {l : List UInt8} (h : RdS w A cap l) (m : Nat) : RdS w A cap (l.take m) :=
  ⟨by have := h.le; rw [List.length_take]; omega, h.nn, fun ad ha i c hc => h.rd ad ha i c (by
    rw [List.getElem?_take] at hc
    split at hc
    · exact hc
    · cases hc)⟩
/-- What 'last' comes to. -/
def Lasts (w : World) (a b rm : Nat) (dn : Bool) (x y : List (Pt × Value)) (p : Pt) (v : Value) (m : Nat) (e : Ending) (w' : World) : Prop :=
  e = .returned (.tuple #[]) ∧ ∃ v', DkB w' a b rm dn (x ++ (⟨p.n, p.b.take m, m⟩, v') :: y) ∧ Keeps (foot a b (x ++ (p, v) :: y)) w w' ∧ ∀ g, v'.ownBlock = some g → v.ownBlock = some g ∨ w.heap.size ≤ g
set_option maxRecDepth 100000 in
theorem last_same (w : World) (a b rm : Nat) (dn : Bool) (x y : List (Pt × Value)) (p : Pt) (A : Option Addr) (cap : Nat) (h : DkB w a b rm dn (x ++ (p, .slice A p.b.length cap) :: y)) (h0 : -9223372036854775808 ≤ p.n) (h1 : p.n ≤ 9223372036854775807) (hx : ∀ z ∈ x, z.1.n < p.n) (hy : ∀ z ∈ y, p.n < z.1.n) (hn : (x ++ (p, Value.slice A p.b.length cap) :: y).length ≤ 1000) (hl : p.b.length ≤ 1000000) :
    Calls Try.prog 22 #[.pointer (some ⟨a, 0, none⟩), .int .i64 p.n, .int .i64 (p.b.length : Nat)] w (Lasts w a b rm dn x y p (.slice A p.b.length cap) p.b.length) := by
  have lt := h.lt
  have c3 := h.c3
  have lk := look_has h.map h0 h1 rfl hx
  have HL := Lib.hid h
  have h2 := (h.alloc (.cells #[.slice A p.b.length cap, .int .i64 (p.b.length : Nat)] 55)).drew
  have d3 := (h.alloc (.cells #[.slice A p.b.length cap, .int .i64 (p.b.length : Nat)] 55)).c3
  obtain ⟨w2, mu, g2, t2⟩ := h2.store (by omega) p.n h0 h1 (.agg #[.slice A p.b.length cap, .int .i64 (p.b.length : Nat)])
  have HG := Lib.hid g2
  have HT := Lib.hid t2
  have HX := Lib.hid hx
  have HY := Lib.hid hy
  clear h hx hy h2 g2 t2 hn
  go_enter Try.func22, Try.ntmps22
  go_wp2
  have cN := cell_of_block (o := 0) (heap_alloc_new w (.cells #[.slice A p.b.length cap, .int .i64 (p.b.length : Nat)] 55))
  have cN1 := cell_of_block (o := 1) (heap_alloc_new w (.cells #[.slice A p.b.length cap, .int .i64 (p.b.length : Nat)] 55))
  go_region
  all_goals go_wp2
  all_goals go_end0
  obtain ⟨g1, o1, f1⟩ := HG.out.less
  have K1 := ((Keeps.refl (foot a b (x ++ (p, .slice A p.b.length cap) :: y)) w).alloc (.cells #[.slice A p.b.length cap, .int .i64 (p.b.length : Nat)] 55)).drew.trans (map_turned HT.out (fun g => g = b) rfl) (fun g e => .inl (.inr (.inl e)))
  refine ⟨rfl, .slice A p.b.length cap, g1.put_done rfl rfl rfl HX.out HY.out ?_ f1 ?_, K1, fun g hg => .inl hg⟩
  · rw [List.take_length]; exact o1
  · rw [used_mid, used_mid, List.take_length]
set_option maxRecDepth 100000 in
theorem last_less (w : World) (a b rm : Nat) (dn : Bool) (x y : List (Pt × Value)) (p : Pt) (A : Option Addr) (cap m us : Nat) (UE : Hid (used (pts (x ++ (p, Value.slice A p.b.length cap) :: y)) = us)) (h : DkG w a b rm us dn (x ++ (p, Value.slice A p.b.length cap) :: y).length (ents (x ++ (p, .slice A p.b.length cap) :: y)) (x ++ (p, .slice A p.b.length cap) :: y)) (h0 : -9223372036854775808 ≤ p.n) (h1 : p.n ≤ 9223372036854775807) (hx : ∀ z ∈ x, z.1.n < p.n) (hy : ∀ z ∈ y, p.n < z.1.n) (hn : (x ++ (p, Value.slice A p.b.length cap) :: y).length ≤ 1000) (hl : p.b.length ≤ 1000000) (hu : us ≤ 1000000) (hm : m < p.b.length) :
    Calls Try.prog 22 #[.pointer (some ⟨a, 0, none⟩), .int .i64 p.n, .int .i64 (m : Nat)] w (Lasts w a b rm dn x y p (.slice A p.b.length cap) m) := by
  have lt := h.lt
  have c3 := h.c3
  have lk := look_has h.map h0 h1 rfl hx
  have HL := Lib.hid h
  have hA := (h.own (p, .slice A p.b.length cap) (by simp)).rd
  obtain ⟨A', cap', e', hr⟩ := hA
  cases e'
  have hle : p.b.length ≤ cap := hr.le
  have hr : RdS w A cap p.b := hr
  have HR := Lib.hid hr
  have sl := fun w => slice_to A p.b.length cap m (by omega) hr.nn w
  have h2 := h.alloc (.cells #[.slice A p.b.length cap, .int .i64 (p.s : Nat)] 55)
  have d1 := h2.c1
  have g1 := h2.f 1
  have hu1 : p.b.length ≤ us := by rw [← UE.out, used_mid]; simp
  have HX := Lib.hid hx
  have HY := Lib.hid hy
  have HN := Lib.hid hn
  clear h hx hy h2 hn hr
  go_enter Try.func22, Try.ntmps22
  go_wp2
  have cN := cell_of_block (o := 0) (heap_alloc_new w (.cells #[.slice A p.b.length cap, .int .i64 (p.s : Nat)] 55))
  have eu : (us : Int) - ((p.b.length : Int) - (m : Int)) = ((us - (p.b.length - m) : Nat) : Int) := by omega
  have D1 := ((HL.out.setU (us - (p.b.length - m))).alloc (.cells #[.slice A p.b.length cap, .int .i64 (p.s : Nat)] 55)).drew
  have K1 := (((Keeps.refl (foot a b (x ++ (p, .slice A p.b.length cap) :: y)) w).set ⟨a, 1, none⟩ (.int .i64 ((us - (p.b.length - m) : Nat) : Int)) (.inl (.inl rfl))).alloc (.cells #[.slice A p.b.length cap, .int .i64 (p.s : Nat)] 55)).drew
  have R1 := (((HR.out.keeps ((Keeps.refl (fun g => g = a) w).set ⟨a, 1, none⟩ (.int .i64 ((us - (p.b.length - m) : Nat) : Int)) (.inl rfl)) (fun ad ha e => (HL.out.row (x := (p, .slice A p.b.length cap)) (by simp) (g := ad.block) (by rw [ha]; rfl)).1 e)).alloc (.cells #[.slice A p.b.length cap, .int .i64 (p.s : Nat)] 55)).drew1)
  have z1 : ((w.setCell ⟨a, 1, none⟩ (.int .i64 ((us - (p.b.length - m) : Nat) : Int))).alloc (.cells #[.slice A p.b.length cap, .int .i64 (p.s : Nat)] 55)).drew.heap.size = w.heap.size + 1 := by simp
  have b1 : ((w.setCell ⟨a, 1, none⟩ (.int .i64 ((us - (p.b.length - m) : Nat) : Int))).alloc (.cells #[.slice A p.b.length cap, .int .i64 (p.s : Nat)] 55)).drew.heap[w.heap.size]? = some (.cells #[.slice A p.b.length cap, .int .i64 (p.s : Nat)] 55 (0, 0)) := by
    have := heap_alloc_new (w.setCell ⟨a, 1, none⟩ (.int .i64 ((us - (p.b.length - m) : Nat) : Int))) (.cells #[.slice A p.b.length cap, .int .i64 (p.s : Nat)] 55)
    rw [World.size_setCell] at this
    exact this
  have EU := Lib.hid eu
  have D1 := Lib.hid D1
  have K1 := Lib.hid K1
  have R1 := Lib.hid R1
  have z1 := Lib.hid z1
  have b1 := Lib.hid b1
  clear eu
  go_region
  all_goals go_wp2_with fail
  rw [EU.out]
  generalize ((w.setCell ⟨a, 1, none⟩ (.int .i64 ((us - (p.b.length - m) : Nat) : Int))).alloc (.cells #[.slice A p.b.length cap, .int .i64 (p.s : Nat)] 55)).drew = w1 at D1 K1 R1 z1 b1 ⊢
  have C1 := clone w1 A cap (p.b.take m) (R1.out.take m) (by rw [List.length_take]; omega)
  rw [show (p.b.take m).length = m by rw [List.length_take]; omega] at C1
  refine C1.mono ?_
  rintro e w2 ⟨v, rfl, o2, b2⟩
  have n1 : w.heap.size < w1.heap.size := by rw [z1.out]; omega
  have e2 : w2.heap[w.heap.size]? = some (.cells #[.slice A p.b.length cap, .int .i64 (p.s : Nat)] 55 (0, 0)) := by rw [b2.block _ n1]; exact b1.out
  have q0 : w2.cell? ⟨w.heap.size, 0, none⟩ = some (.slice A p.b.length cap) := cell_of_block e2
  have q1 : w2.cell? ⟨w.heap.size, 1, none⟩ = some (.int .i64 (p.s : Nat)) := cell_of_block e2
  have f0 : w2.frozen? ⟨w.heap.size, 0, none⟩ = false := frozen_of_block e2
  have f1 : w2.frozen? ⟨w.heap.size, 1, none⟩ = false := frozen_of_block e2
  have O2 := Lib.hid o2
  have B2 := Lib.hid b2
  have E2 := Lib.hid e2
  obtain ⟨B, cb, ev⟩ := owns_shape o2
  rw [List.length_take, show min m p.b.length = m by omega] at ev
  subst ev
  have nfo : ¬ foot a b (x ++ (p, .slice A p.b.length cap) :: y) w.heap.size := fun hf => by have := HL.out.footlt hf; omega
  have D3 := ((D1.out.below b2 (Nat.le_refl _)).set ⟨w.heap.size, 0, none⟩ (.slice B m cb) nfo).set ⟨w.heap.size, 1, none⟩ (.int .i64 (m : Nat)) nfo
  have K3 := ((K1.out.trans (Keeps.of_below b2 (Nat.le_refl _) (fun _ => False)) (fun _ e => e.elim)).set ⟨w.heap.size, 0, none⟩ (.slice B m cb) (.inr (Nat.le_refl _))).set ⟨w.heap.size, 1, none⟩ (.int .i64 (m : Nat)) (.inr (Nat.le_refl _))
  have h3 : ((w2.setCell ⟨w.heap.size, 0, none⟩ (.slice B m cb)).setCell ⟨w.heap.size, 1, none⟩ (.int .i64 (m : Nat))).heap[w.heap.size]? = some (.cells #[.slice B m cb, .int .i64 (m : Nat)] 55 (0, 0)) := by
    rw [heap_set_same (heap_set_same e2)]; rfl
  have vlt : ∀ g, (Value.slice B m cb).ownBlock = some g → w1.heap.size ≤ g := fun g hg => (World.ownsRow.lt o2 g hg).1
  have o3 : OB ((w2.setCell ⟨w.heap.size, 0, none⟩ (.slice B m cb)).setCell ⟨w.heap.size, 1, none⟩ (.int .i64 (m : Nat))) 0 (.slice B m cb) (p.b.take m) :=
    owns_keeps (F := fun g => g = w.heap.size) (owns_mono o2 (Nat.zero_le _)) (((Keeps.refl (fun g => g = w.heap.size) w2).set ⟨w.heap.size, 0, none⟩ (.slice B m cb) (.inl rfl)).set ⟨w.heap.size, 1, none⟩ (.int .i64 (m : Nat)) (.inl rfl)) (fun g hg e => by have := vlt g hg; omega)
  obtain ⟨w4, mu, g4, t4⟩ := D3.drew.store (by have := HN.out; omega) p.n h0 h1 (.agg #[.slice B m cb, .int .i64 (m : Nat)])
  have D3 := Lib.hid D3
  have K3 := Lib.hid K3
  have O3 := Lib.hid o3
  have H3 := Lib.hid h3
  have VL := Lib.hid vlt
  have G4 := Lib.hid g4
  have T4 := Lib.hid t4
  clear o2 b2 e2 C1 nfo h3 vlt o3 g4 t4 HR
  go_wp2
  generalize (w2.setCell ⟨w.heap.size, 0, none⟩ (.slice B m cb)).setCell ⟨w.heap.size, 1, none⟩ (.int .i64 (m : Nat)) = w3 at D3 K3 O3 H3 T4 mu ⊢
  have s0 : w3.cell? ⟨w.heap.size, 0, none⟩ = some (.slice B m cb) := cell_of_block H3.out
  have s1 : w3.cell? ⟨w.heap.size, 1, none⟩ = some (.int .i64 (m : Nat)) := cell_of_block H3.out
  have d3 := D3.out.c3
  go_region
  all_goals go_wp2
  all_goals go_end0
  obtain ⟨g5, o5, f5⟩ := G4.out.less
  have ht : Keeps (fun g => g = b) w3 w4 := (Keeps.refl _ w3).drew.trans (map_turned T4.out (fun g => g = b) rfl) (fun g e => .inl e)
  have lb := HL.out.blt
  refine ⟨rfl, .slice B m cb, g5.put_done rfl rfl rfl HX.out HY.out (owns_keeps O3.out ht (fun g hg e => by have := VL.out g hg; omega)) (fun g hg hf => ?_) ?_, K3.out.trans ht (fun g e => .inl (.inr (.inl e))), fun g hg => .inr (by have := VL.out g hg; omega)⟩
  · have h7 := VL.out g hg
    have h8 := HL.out.footlt (foot_mono (y := x ++ (p, .slice A p.b.length cap) :: y) (fun z hz => by
      rcases List.mem_append.1 hz with hz | hz
      · exact List.mem_append.2 (.inl hz)
      · exact List.mem_append.2 (.inr (by simp [hz]))) hf)
    omega
  · have := UE.out
    rw [used_mid] at this ⊢
    simp only [List.length_take]
    simp only at this
    omega
theorem last_any (w : World) (a b rm : Nat) (dn : Bool) (x y : List (Pt × Value)) (p : Pt) (v : Value) (m : Nat) (h : DkB w a b rm dn (x ++ (p, v) :: y)) (h0 : -9223372036854775808 ≤ p.n) (h1 : p.n ≤ 9223372036854775807) (hx : ∀ z ∈ x, z.1.n < p.n) (hy : ∀ z ∈ y, p.n < z.1.n) (hn : (x ++ (p, v) :: y).length ≤ 1000) (hu : used (pts (x ++ (p, v) :: y)) ≤ 1000000) (hm : m ≤ p.b.length) :
    Calls Try.prog 22 #[.pointer (some ⟨a, 0, none⟩), .int .i64 p.n, .int .i64 (m : Nat)] w (Lasts w a b rm dn x y p v m) := by
  obtain ⟨A, cap, e⟩ := owns_shape (h.own (p, v) (by simp))
  simp only at e
  subst e
  have hl : p.b.length ≤ 1000000 := by rw [used_mid] at hu; simp only at hu; omega
  rcases Nat.lt_or_ge m p.b.length with hm' | hm'
  · exact last_less w a b rm dn x y p A cap m _ (Lib.hid rfl) h h0 h1 hx hy hn hl hu hm'
  · obtain rfl : m = p.b.length := by omega
    exact last_same w a b rm dn x y p A cap h h0 h1 hx hy hn hl
end Go.Proofs.Ytgohgmihoggcpaa
