/-
  Layer 8 (disk): bytes.Clone; New; find; Used; Up; what a disk comes to (Dsk), and what becomes of the world.
  Layer 8 (disk): Append, Sync, Cut, Remove, Read, Used, Up, as what they make of the parts.
  Layer 8 (disk): Parts: the map's keys, sorted (maps.Keys and slices.Sorted by the library's contracts).
  Layer 8 (disk): Crash.
  Layer 8: the parts stay in order and within the room; the head of its laws: the document's example.
-/
import Derived.Test.YtgeahpfdaehjaaaGreatDoorGrpA
import Derived.Deep.QuietTactic
import Derived.BigQuiet
import Derived.Carry
import Derived.RegionTactic
import Derived.ChangeAlike
import Derived.BigRegion
import Derived.Handy
import Derived.Lib.SliceRun
import Derived.Test.YtgeahpfdaehjaaaGreatDoorShelf
import Derived.Deep.LoopGhost
import Derived.Lib.SlBytesConst
namespace Go.Proofs.YtgeahpfdaehjaaaGreatDoor
open Go.ChangeShapes Go.WideShapes Go.ChangeAt Go.RowKit
set_option linter.unusedVariables false

/-- A disk: its own blocks, its room, whether it is down, its parts. -/
def Dsk (w : World) (F : Nat → Prop) (a rm : Nat) (dn : Bool) (L : List Pt) : Prop :=
  ∃ b xs, DkB w a b rm dn xs ∧ pts xs = L ∧ ∀ g, F g ↔ foot a b xs g
theorem Dsk.keeps {w w' : World} {F G : Nat → Prop} {a rm : Nat} {dn : Bool} {L : List Pt} (h : Dsk w F a rm dn L) (k : Keeps G w w') (hG : ∀ g, F g → ¬ G g) : Dsk w' F a rm dn L := by
  obtain ⟨b, xs, h1, h2, h3⟩ := h
  exact ⟨b, xs, h1.keeps k (fun g hg => hG g ((h3 g).2 hg)), h2, h3⟩
theorem Dsk.below {w w' : World} {F : Nat → Prop} {a rm : Nat} {dn : Bool} {L : List Pt} (h : Dsk w F a rm dn L) (k : Below w.heap.size w w') : Dsk w' F a rm dn L :=
  h.keeps (Keeps.of_below k (Nat.le_refl _) (fun _ => False)) (fun _ _ e => e)
theorem Dsk.lt {w : World} {F : Nat → Prop} {a rm : Nat} {dn : Bool} {L : List Pt} (h : Dsk w F a rm dn L) {g : Nat} (hg : F g) : g < w.heap.size := by
  obtain ⟨b, xs, h1, h2, h3⟩ := h
  exact h1.footlt ((h3 g).1 hg)
theorem ret_nil : Ending.returned Value.nilIface = .returned Value.nilIface := rfl
def errV (c : Nat) : Value := .iface 41 (.int .i64 (c : Nat))
theorem zeroC (w : World) : (zeroValue 141).run Tryz.prog w = .ok (.agg #[.slice none 0 0, .int .i64 0]) w := by kernel_rfl

theorem clone (w : World) (A : Option Addr) (cap : Nat) (l : List UInt8) (hr : RdS w A cap l) (hl : l.length ≤ 1000000) :
    Calls Tryz.prog 109 #[.slice A l.length cap] w fun e w' => ∃ v, e = .returned v ∧ OB w' w.heap.size v l ∧ Below w.heap.size w w' := by
  have q : ∀ (w : World) (a : Option Addr) (n c n' c' : Nat), (binOp .eql 64 (.slice a n c) (.slice none n' c')).run Tryz.prog w = .ok (.bool a.isNone) w := fun w a n c n' c' => Lib.run_eql_slice_nil w _ _ a n c n' c' Tryz.underlying64
  cases A with
  | none =>
    obtain rfl := hr.nn rfl
    have h0 : l = [] := List.length_eq_zero_iff.1 (by have := hr.le; omega)
    subst h0
    clear hr hl
    go_enter Tryz.func109, Tryz.ntmps109
    go_wp2
    go_ret
    exact ⟨_, rfl, OB.nil _ _, Below.refl _ _⟩
  | some ad =>
    obtain ⟨v', w', hrun, ho, hg⟩ := ob_row (w := w.alloc (.cells #[] 5)) (B := w.heap.size) (v := .slice (some ⟨w.heap.size, 0, none⟩) 0 0) (l := []) (World.ownsRow_made w #[] 0 (Nat.le_refl _) (by simp) (by simp)) (hr.alloc _) (by simpa using hl) (by simp)
    have R := Lib.hid hrun
    have O := Lib.hid ho
    have G := Lib.hid hg
    clear hrun ho hg hr
    go_enter Tryz.func109, Tryz.ntmps109
    go_wp2_with (first | (at_builtin; refine wpList_append_two rfl (.tmp 5) (.tmp 6) 64 64 rfl _ _ _ rfl rfl R.out ?_) | fail)
    go_ret
    exact ⟨_, rfl, O.out, ((Below.refl w.heap.size w).alloc (Nat.le_refl _) _).trans G.out.below⟩

def diskObj (rm us : Nat) (dn : Bool) (b : Nat) : Obj := .cells (diskCells rm us dn b) 74 (0, 0)
theorem new_disk (w : World) (rm : Nat) : Dsk ((w.alloc (.map #[] 0)).alloc (diskObj rm 0 false w.heap.size)) (foot (w.heap.size + 1) w.heap.size []) (w.heap.size + 1) rm false [] := by
  refine ⟨w.heap.size, [], ⟨?_, ?_, by simp, List.Pairwise.nil⟩, rfl, fun g => Iff.rfl⟩
  · have := heap_alloc_new (w.alloc (.map #[] 0)) (diskObj rm 0 false w.heap.size)
    rw [World.size_alloc] at this
    exact this
  · exact (World.ownsMap_made w Tryz.prog 3 RV).alloc _
theorem new_good (w : World) (rm : Nat) (h0 : 1 ≤ rm) (h1 : rm ≤ 65536) :
    Calls Tryz.prog 6 #[.int .i64 (rm : Nat)] w fun e w' => ∃ a F, e = .returned (.tuple #[.pointer (some ⟨a, 0, none⟩), .nilIface]) ∧ Dsk w' F a rm false [] ∧ Below w.heap.size w w' ∧ ∀ g, F g → w.heap.size ≤ g := by
  have hmm := @run_makeMap Tryz.prog
  go_enter Tryz.func6, Tryz.ntmps6
  go_wp2
  go_ret2
  refine ⟨w.heap.size + 1, _, rfl, new_disk w rm, ((Below.refl w.heap.size w).alloc (Nat.le_refl _) _).alloc (by simp) _, fun g hg => ?_⟩
  rcases hg with rfl | rfl | ⟨x, hx, _⟩
  · omega
  · omega
  · cases hx
theorem new_bad (w : World) (rm : Int) (h : rm < 1 ∨ 65536 < rm) :
    Calls Tryz.prog 6 #[.int .i64 rm] w fun e w' => e = .returned (.tuple #[.pointer none, errV 1]) ∧ w' = w := by
  rcases h with h | h
  · go_enter Tryz.func6, Tryz.ntmps6
    go_wp2
    go_ret2
    exact ⟨rfl, rfl⟩
  · have h1 : ¬ rm < 1 := by omega
    go_enter Tryz.func6, Tryz.ntmps6
    go_wp2
    go_ret2
    exact ⟨rfl, rfl⟩

section
variable {w : World} {b m : Nat} {k : Int} {xs ys : List (Pt × Value)} {q : Pt × Value}
def zeroCV : Value := .agg #[.slice none 0 0, .int .i64 0]
theorem held_inv {v u : Value} {ps : List MemPlace} (h : RV v = some (.held u, ps)) : v = u := by
  unfold RV at h
  cases h
  rfl
theorem look_has (h : w.ownsMap Tryz.prog 3 RV b m (ents (xs ++ q :: ys))) (h0 : -9223372036854775808 ≤ k) (h1 : k ≤ 9223372036854775807) (hq : q.1.n = k) (hx : ∀ x ∈ xs, x.1.n < k) :
    (Instr.lookup 72 (.map (some b)) (.int .i64 k) false).run Tryz.prog w = .ok (.agg #[q.2, .int .i64 (q.1.s : Nat)]) w := by
  obtain ⟨v, ps, hrun, hv⟩ := h.lookup keyed Tryz.underlying72 (zeroC w) (zd := .held zeroCV) (zp := []) rfl (key_of k h0 h1)
  rw [at_mid hq hx] at hv
  rw [hrun, held_inv hv]; rfl
theorem look_no (h : w.ownsMap Tryz.prog 3 RV b m (ents xs)) (h0 : -9223372036854775808 ≤ k) (h1 : k ≤ 9223372036854775807) (hx : ∀ x ∈ xs, x.1.n ≠ k) :
    (Instr.lookup 72 (.map (some b)) (.int .i64 k) false).run Tryz.prog w = .ok (.agg #[.slice none 0 0, .int .i64 0]) w := by
  obtain ⟨v, ps, hrun, hv⟩ := h.lookup keyed Tryz.underlying72 (zeroC w) (zd := .held zeroCV) (zp := []) rfl (key_of k h0 h1)
  rw [at_no hx] at hv
  rw [hrun, held_inv hv]; rfl
theorem lookok_has (h : w.ownsMap Tryz.prog 3 RV b m (ents (xs ++ q :: ys))) (h0 : -9223372036854775808 ≤ k) (h1 : k ≤ 9223372036854775807) (hq : q.1.n = k) (hx : ∀ x ∈ xs, x.1.n < k) :
    (Instr.lookup 72 (.map (some b)) (.int .i64 k) true).run Tryz.prog w = .ok (.tuple #[.agg #[q.2, .int .i64 (q.1.s : Nat)], .bool true]) w := by
  obtain ⟨v, ps, hrun, hv⟩ := h.look_ok keyed Tryz.underlying72 (zeroC w) (zd := .held zeroCV) (zp := []) rfl (key_of k h0 h1)
  rw [at_mid hq hx] at hv
  rw [hrun, held_inv hv, has_mid hq]; rfl
theorem lookok_no (h : w.ownsMap Tryz.prog 3 RV b m (ents xs)) (h0 : -9223372036854775808 ≤ k) (h1 : k ≤ 9223372036854775807) (hx : ∀ x ∈ xs, x.1.n ≠ k) :
    (Instr.lookup 72 (.map (some b)) (.int .i64 k) true).run Tryz.prog w = .ok (.tuple #[.agg #[.slice none 0 0, .int .i64 0], .bool false]) w := by
  obtain ⟨v, ps, hrun, hv⟩ := h.look_ok keyed Tryz.underlying72 (zeroC w) (zd := .held zeroCV) (zp := []) rfl (key_of k h0 h1)
  rw [at_no hx] at hv
  rw [hrun, held_inv hv, has_no hx]; rfl
end
theorem pts_n {xs : List (Pt × Value)} {T : Int → Prop} (h : ∀ p ∈ pts xs, T p.n) : ∀ x ∈ xs, T x.1.n := fun x hx => h x.1 (List.mem_map.2 ⟨x, hx, rfl⟩)
theorem owns_shape {w : World} {B : Nat} {v : Value} {l : List UInt8} (h : OB w B v l) : ∃ A cap, v = .slice A l.length cap := by
  obtain ⟨A, cap, e, _⟩ := h.rd
  exact ⟨A, cap, e⟩

set_option maxRecDepth 100000 in
theorem find_gone (w : World) (a b rm us n : Nat) (D : DataW Value) (zs : List (Pt × Value)) (k : Int) (h : DkG w a b rm us true n D zs) :
    Calls Tryz.prog 84 #[.pointer (some ⟨a, 0, none⟩), .int .i64 k] w fun e w' => e = .returned (.tuple #[.agg #[.slice none 0 0, .int .i64 0], errV 10]) ∧ Below w.heap.size w w' := by
  have lt := h.lt
  have c2 := (h.alloc (.cells #[.slice none 0 0, .int .i64 0] 141)).c2
  clear h
  go_enter Tryz.func84, Tryz.ntmps84
  go_wp2
  (try simp only [Exit.inBlock, Exit.then])
  go_returns
  exact ⟨rfl, (Below.refl w.heap.size w).alloc (Nat.le_refl _) _⟩
set_option maxRecDepth 100000 in
theorem find_none (w : World) (a b rm us : Nat) (xs : List (Pt × Value)) (n : Nat) (k : Int) (h : DkG w a b rm us false n (ents xs) xs) (h0 : -9223372036854775808 ≤ k) (h1 : k ≤ 9223372036854775807) (hx : ∀ x ∈ xs, x.1.n ≠ k) :
    Calls Tryz.prog 84 #[.pointer (some ⟨a, 0, none⟩), .int .i64 k] w fun e w' => e = .returned (.tuple #[.agg #[.slice none 0 0, .int .i64 0], errV 4]) ∧ Below w.heap.size w w' := by
  have lt := h.lt
  have H := h.alloc (.cells #[.slice none 0 0, .int .i64 0] 141)
  have c2 := H.c2
  have c3 := H.c3
  have lk := lookok_no H.map h0 h1 hx
  clear h H hx
  go_enter Tryz.func84, Tryz.ntmps84
  go_wp2
  (try simp only [Exit.inBlock, Exit.then])
  go_returns
  exact ⟨rfl, ((Below.refl w.heap.size w).alloc (Nat.le_refl _) _).alloc (by simp) _⟩
set_option maxRecDepth 100000 in
theorem find_some (w : World) (a b rm us : Nat) (x y zs : List (Pt × Value)) (p : Pt) (A : Option Addr) (cap : Nat) (n : Nat) (h : DkG w a b rm us false n (ents (x ++ (p, .slice A p.b.length cap) :: y)) zs) (h0 : -9223372036854775808 ≤ p.n) (h1 : p.n ≤ 9223372036854775807) (hx : ∀ z ∈ x, z.1.n < p.n) :
    Calls Tryz.prog 84 #[.pointer (some ⟨a, 0, none⟩), .int .i64 p.n] w fun e w' => e = .returned (.tuple #[.agg #[.slice A p.b.length cap, .int .i64 (p.s : Nat)], .nilIface]) ∧ Below w.heap.size w w' := by
  have lt := h.lt
  have H := h.alloc (.cells #[.slice none 0 0, .int .i64 0] 141)
  have c2 := H.c2
  have c3 := H.c3
  have lk := lookok_has H.map h0 h1 rfl hx
  clear h H hx
  go_enter Tryz.func84, Tryz.ntmps84
  go_wp2
  (try simp only [Exit.inBlock, Exit.then])
  go_returns
  exact ⟨rfl, ((Below.refl w.heap.size w).alloc (Nat.le_refl _) _).alloc (by simp) _⟩
theorem DkG.store {w : World} {a b rm us n : Nat} {dn : Bool} {D : DataW Value} {zs : List (Pt × Value)} (h : DkG w a b rm us dn n D zs) (hn : n ≤ 10000) (k : Int) (h0 : -9223372036854775808 ≤ k) (h1 : k ≤ 9223372036854775807) (val : Value) :
    ∃ w', (Instr.mapUpdate 72 (.map (some b)) (.int .i64 k) val).run Tryz.prog w = .ok () w' ∧ DkG w' a b rm us dn (n + 1) (D.put (.int .i64 k) (.held val)) zs ∧ w.mapTurned w' b := by
  obtain ⟨w', hr, hm, ht⟩ := h.map.store keyed Tryz.underlying72 (by unfold maxLen; omega) (key_of k h0 h1) (d := .held val) (ps := []) rfl
  exact ⟨w', hr, h.turned hm ht, ht⟩
theorem DkG.put_done {w : World} {a b rm us n : Nat} {dn : Bool} {x y : List (Pt × Value)} {q p : Pt × Value} {k : Int} {val : Value} (h : DkG w a b rm us dn n ((ents (x ++ q :: y)).put (.int .i64 k) (.held val)) (x ++ y))
    (hq : q.1.n = k) (hp : p.1.n = k) (hv : val = entV p.1 p.2) (hx : ∀ z ∈ x, z.1.n < k) (hy : ∀ z ∈ y, k < z.1.n) (ho : OB w 0 p.2 p.1.b) (hf : ∀ g, p.2.ownBlock = some g → ¬ foot a b (x ++ y) g) (hu : us = used (pts (x ++ p :: y))) :
    DkB w a b rm dn (x ++ p :: y) := by
  subst hv
  rw [put_has hq hp hx hy] at h
  exact h.more ho hf hu
theorem DkG.put_new {w : World} {a b rm us n : Nat} {dn : Bool} {x y : List (Pt × Value)} {p : Pt × Value} {k : Int} {val : Value} (h : DkG w a b rm us dn n ((ents (x ++ y)).put (.int .i64 k) (.held val)) (x ++ y))
    (hp : p.1.n = k) (hv : val = entV p.1 p.2) (hx : ∀ z ∈ x, z.1.n < k) (hy : ∀ z ∈ y, k < z.1.n) (ho : OB w 0 p.2 p.1.b) (hf : ∀ g, p.2.ownBlock = some g → ¬ foot a b (x ++ y) g) (hu : us = used (pts (x ++ p :: y))) :
    DkB w a b rm dn (x ++ p :: y) := by
  subst hv
  rw [put_no hp hx hy] at h
  exact h.more ho hf hu
theorem used_mid (x y : List (Pt × Value)) (p : Pt × Value) : used (pts (x ++ p :: y)) = used (pts (x ++ y)) + p.1.b.length := by
  unfold pts
  rw [List.map_append, List.map_append, List.map_cons, used_app, used_app, used_cons]; omega
theorem owns_mono {w : World} {base base' : Nat} {e : TypeId} {sz : Nat} {v : Value} {n : Nat} {l : List Value} (h : w.ownsRow base e sz v n l) (hb : base' ≤ base) : w.ownsRow base' e sz v n l := by
  refine ⟨h.1, ?_⟩
  rcases h.2 with hn | ⟨g, cap, cur, hv, hg, r⟩
  · exact .inl hn
  · exact .inr ⟨g, cap, cur, hv, Nat.le_trans hb hg, r⟩
theorem RdS.drew1 {w : World} {A : Option Addr} {cap : Nat} {l : List UInt8} (h : RdS w A cap l) : RdS w.drew A cap l := ⟨h.le, h.nn, h.rd⟩
theorem RdS.take {w : World} {A : Option Addr} {cap : Nat} {l : List UInt8} (h : RdS w A cap l) (m : Nat) : RdS w A cap (l.take m) :=
  ⟨by have := h.le; rw [List.length_take]; omega, h.nn, fun ad ha i c hc => h.rd ad ha i c (by
    rw [List.getElem?_take] at hc
    split at hc
    · exact hc
    · cases hc)⟩
/-- What 'last' comes to. -/
def Lasts (w : World) (a b rm : Nat) (dn : Bool) (x y : List (Pt × Value)) (p : Pt) (v : Value) (m : Nat) (e : Ending) (w' : World) : Prop :=
  e = .returned (.tuple #[]) ∧ ∃ v', DkB w' a b rm dn (x ++ (⟨p.n, p.b.take m, m⟩, v') :: y) ∧ Keeps (foot a b (x ++ (p, v) :: y)) w w' ∧ ∀ g, v'.ownBlock = some g → v.ownBlock = some g ∨ w.heap.size ≤ g
set_option maxRecDepth 100000 in
theorem last_same (w : World) (a b rm : Nat) (dn : Bool) (x y : List (Pt × Value)) (p : Pt) (A : Option Addr) (cap : Nat) (h : DkB w a b rm dn (x ++ (p, .slice A p.b.length cap) :: y)) (h0 : -9223372036854775808 ≤ p.n) (h1 : p.n ≤ 9223372036854775807) (hx : ∀ z ∈ x, z.1.n < p.n) (hy : ∀ z ∈ y, p.n < z.1.n) (hn : (x ++ (p, Value.slice A p.b.length cap) :: y).length ≤ 1000) (hl : p.b.length ≤ 1000000) :
    Calls Tryz.prog 85 #[.pointer (some ⟨a, 0, none⟩), .int .i64 p.n, .int .i64 (p.b.length : Nat)] w (Lasts w a b rm dn x y p (.slice A p.b.length cap) p.b.length) := by
  have lt := h.lt
  have c3 := h.c3
  have lk := look_has h.map h0 h1 rfl hx
  have HL := Lib.hid h
  have h2 := (h.alloc (.cells #[.slice A p.b.length cap, .int .i64 (p.b.length : Nat)] 141)).drew
  have d3 := (h.alloc (.cells #[.slice A p.b.length cap, .int .i64 (p.b.length : Nat)] 141)).c3
  obtain ⟨w2, mu, g2, t2⟩ := h2.store (by omega) p.n h0 h1 (.agg #[.slice A p.b.length cap, .int .i64 (p.b.length : Nat)])
  have HG := Lib.hid g2
  have HT := Lib.hid t2
  have HX := Lib.hid hx
  have HY := Lib.hid hy
  clear h hx hy h2 g2 t2 hn
  go_enter Tryz.func85, Tryz.ntmps85
  go_wp2
  have cN := cell_of_block (o := 0) (heap_alloc_new w (.cells #[.slice A p.b.length cap, .int .i64 (p.b.length : Nat)] 141))
  have cN1 := cell_of_block (o := 1) (heap_alloc_new w (.cells #[.slice A p.b.length cap, .int .i64 (p.b.length : Nat)] 141))
  go_region
  all_goals go_wp2
  all_goals go_end0
  obtain ⟨g1, o1, f1⟩ := HG.out.less
  have K1 := ((Keeps.refl (foot a b (x ++ (p, .slice A p.b.length cap) :: y)) w).alloc (.cells #[.slice A p.b.length cap, .int .i64 (p.b.length : Nat)] 141)).drew.trans (map_turned HT.out (fun g => g = b) rfl) (fun g e => .inl (.inr (.inl e)))
  refine ⟨rfl, .slice A p.b.length cap, g1.put_done rfl rfl rfl HX.out HY.out ?_ f1 ?_, K1, fun g hg => .inl hg⟩
  · rw [List.take_length]; exact o1
  · rw [used_mid, used_mid, List.take_length]
set_option maxRecDepth 100000 in
theorem last_less (w : World) (a b rm : Nat) (dn : Bool) (x y : List (Pt × Value)) (p : Pt) (A : Option Addr) (cap m us : Nat) (UE : Hid (used (pts (x ++ (p, Value.slice A p.b.length cap) :: y)) = us)) (h : DkG w a b rm us dn (x ++ (p, Value.slice A p.b.length cap) :: y).length (ents (x ++ (p, .slice A p.b.length cap) :: y)) (x ++ (p, .slice A p.b.length cap) :: y)) (h0 : -9223372036854775808 ≤ p.n) (h1 : p.n ≤ 9223372036854775807) (hx : ∀ z ∈ x, z.1.n < p.n) (hy : ∀ z ∈ y, p.n < z.1.n) (hn : (x ++ (p, Value.slice A p.b.length cap) :: y).length ≤ 1000) (hl : p.b.length ≤ 1000000) (hu : us ≤ 1000000) (hm : m < p.b.length) :
    Calls Tryz.prog 85 #[.pointer (some ⟨a, 0, none⟩), .int .i64 p.n, .int .i64 (m : Nat)] w (Lasts w a b rm dn x y p (.slice A p.b.length cap) m) := by
  have lt := h.lt
  have c3 := h.c3
  have lk := look_has h.map h0 h1 rfl hx
  have HL := Lib.hid h
  have hA := (h.own (p, .slice A p.b.length cap) (by simp)).rd
  obtain ⟨A', cap', e', hr⟩ := hA
  cases e'
  have hle : p.b.length ≤ cap := hr.le
  have hr : RdS w A cap p.b := hr
  have HR := Lib.hid hr
  have sl := fun w => slice_to A p.b.length cap m (by omega) hr.nn w
  have h2 := h.alloc (.cells #[.slice A p.b.length cap, .int .i64 (p.s : Nat)] 141)
  have d1 := h2.c1
  have g1 := h2.f 1
  have hu1 : p.b.length ≤ us := by rw [← UE.out, used_mid]; simp
  have HX := Lib.hid hx
  have HY := Lib.hid hy
  have HN := Lib.hid hn
  clear h hx hy h2 hn hr
  go_enter Tryz.func85, Tryz.ntmps85
  go_wp2
  have cN := cell_of_block (o := 0) (heap_alloc_new w (.cells #[.slice A p.b.length cap, .int .i64 (p.s : Nat)] 141))
  have eu : (us : Int) - ((p.b.length : Int) - (m : Int)) = ((us - (p.b.length - m) : Nat) : Int) := by omega
  have D1 := ((HL.out.setU (us - (p.b.length - m))).alloc (.cells #[.slice A p.b.length cap, .int .i64 (p.s : Nat)] 141)).drew
  have K1 := (((Keeps.refl (foot a b (x ++ (p, .slice A p.b.length cap) :: y)) w).set ⟨a, 1, none⟩ (.int .i64 ((us - (p.b.length - m) : Nat) : Int)) (.inl (.inl rfl))).alloc (.cells #[.slice A p.b.length cap, .int .i64 (p.s : Nat)] 141)).drew
  have R1 := (((HR.out.keeps ((Keeps.refl (fun g => g = a) w).set ⟨a, 1, none⟩ (.int .i64 ((us - (p.b.length - m) : Nat) : Int)) (.inl rfl)) (fun ad ha e => (HL.out.row (x := (p, .slice A p.b.length cap)) (by simp) (g := ad.block) (by rw [ha]; rfl)).1 e)).alloc (.cells #[.slice A p.b.length cap, .int .i64 (p.s : Nat)] 141)).drew1)
  have z1 : ((w.setCell ⟨a, 1, none⟩ (.int .i64 ((us - (p.b.length - m) : Nat) : Int))).alloc (.cells #[.slice A p.b.length cap, .int .i64 (p.s : Nat)] 141)).drew.heap.size = w.heap.size + 1 := by simp
  have b1 : ((w.setCell ⟨a, 1, none⟩ (.int .i64 ((us - (p.b.length - m) : Nat) : Int))).alloc (.cells #[.slice A p.b.length cap, .int .i64 (p.s : Nat)] 141)).drew.heap[w.heap.size]? = some (.cells #[.slice A p.b.length cap, .int .i64 (p.s : Nat)] 141 (0, 0)) := by
    have := heap_alloc_new (w.setCell ⟨a, 1, none⟩ (.int .i64 ((us - (p.b.length - m) : Nat) : Int))) (.cells #[.slice A p.b.length cap, .int .i64 (p.s : Nat)] 141)
    rw [World.size_setCell] at this
    exact this
  have EU := Lib.hid eu
  have D1 := Lib.hid D1
  have K1 := Lib.hid K1
  have R1 := Lib.hid R1
  have z1 := Lib.hid z1
  have b1 := Lib.hid b1
  clear eu
  go_region
  all_goals go_wp2_with fail
  rw [EU.out]
  generalize ((w.setCell ⟨a, 1, none⟩ (.int .i64 ((us - (p.b.length - m) : Nat) : Int))).alloc (.cells #[.slice A p.b.length cap, .int .i64 (p.s : Nat)] 141)).drew = w1 at D1 K1 R1 z1 b1 ⊢
  have C1 := clone w1 A cap (p.b.take m) (R1.out.take m) (by rw [List.length_take]; omega)
  rw [show (p.b.take m).length = m by rw [List.length_take]; omega] at C1
  refine C1.mono ?_
  rintro e w2 ⟨v, rfl, o2, b2⟩
  have n1 : w.heap.size < w1.heap.size := by rw [z1.out]; omega
  have e2 : w2.heap[w.heap.size]? = some (.cells #[.slice A p.b.length cap, .int .i64 (p.s : Nat)] 141 (0, 0)) := by rw [b2.block _ n1]; exact b1.out
  have q0 : w2.cell? ⟨w.heap.size, 0, none⟩ = some (.slice A p.b.length cap) := cell_of_block e2
  have q1 : w2.cell? ⟨w.heap.size, 1, none⟩ = some (.int .i64 (p.s : Nat)) := cell_of_block e2
  have f0 : w2.frozen? ⟨w.heap.size, 0, none⟩ = false := frozen_of_block e2
  have f1 : w2.frozen? ⟨w.heap.size, 1, none⟩ = false := frozen_of_block e2
  have O2 := Lib.hid o2
  have B2 := Lib.hid b2
  have E2 := Lib.hid e2
  obtain ⟨B, cb, ev⟩ := owns_shape o2
  rw [List.length_take, show min m p.b.length = m by omega] at ev
  subst ev
  have nfo : ¬ foot a b (x ++ (p, .slice A p.b.length cap) :: y) w.heap.size := fun hf => by have := HL.out.footlt hf; omega
  have D3 := ((D1.out.below b2 (Nat.le_refl _)).set ⟨w.heap.size, 0, none⟩ (.slice B m cb) nfo).set ⟨w.heap.size, 1, none⟩ (.int .i64 (m : Nat)) nfo
  have K3 := ((K1.out.trans (Keeps.of_below b2 (Nat.le_refl _) (fun _ => False)) (fun _ e => e.elim)).set ⟨w.heap.size, 0, none⟩ (.slice B m cb) (.inr (Nat.le_refl _))).set ⟨w.heap.size, 1, none⟩ (.int .i64 (m : Nat)) (.inr (Nat.le_refl _))
  have h3 : ((w2.setCell ⟨w.heap.size, 0, none⟩ (.slice B m cb)).setCell ⟨w.heap.size, 1, none⟩ (.int .i64 (m : Nat))).heap[w.heap.size]? = some (.cells #[.slice B m cb, .int .i64 (m : Nat)] 141 (0, 0)) := by
    rw [heap_set_same (heap_set_same e2)]; rfl
  have vlt : ∀ g, (Value.slice B m cb).ownBlock = some g → w1.heap.size ≤ g := fun g hg => (World.ownsRow.lt o2 g hg).1
  have o3 : OB ((w2.setCell ⟨w.heap.size, 0, none⟩ (.slice B m cb)).setCell ⟨w.heap.size, 1, none⟩ (.int .i64 (m : Nat))) 0 (.slice B m cb) (p.b.take m) :=
    owns_keeps (F := fun g => g = w.heap.size) (owns_mono o2 (Nat.zero_le _)) (((Keeps.refl (fun g => g = w.heap.size) w2).set ⟨w.heap.size, 0, none⟩ (.slice B m cb) (.inl rfl)).set ⟨w.heap.size, 1, none⟩ (.int .i64 (m : Nat)) (.inl rfl)) (fun g hg e => by have := vlt g hg; omega)
  obtain ⟨w4, mu, g4, t4⟩ := D3.drew.store (by have := HN.out; omega) p.n h0 h1 (.agg #[.slice B m cb, .int .i64 (m : Nat)])
  have D3 := Lib.hid D3
  have K3 := Lib.hid K3
  have O3 := Lib.hid o3
  have H3 := Lib.hid h3
  have VL := Lib.hid vlt
  have G4 := Lib.hid g4
  have T4 := Lib.hid t4
  clear o2 b2 e2 C1 nfo h3 vlt o3 g4 t4 HR
  go_wp2
  generalize (w2.setCell ⟨w.heap.size, 0, none⟩ (.slice B m cb)).setCell ⟨w.heap.size, 1, none⟩ (.int .i64 (m : Nat)) = w3 at D3 K3 O3 H3 T4 mu ⊢
  have s0 : w3.cell? ⟨w.heap.size, 0, none⟩ = some (.slice B m cb) := cell_of_block H3.out
  have s1 : w3.cell? ⟨w.heap.size, 1, none⟩ = some (.int .i64 (m : Nat)) := cell_of_block H3.out
  have d3 := D3.out.c3
  go_region
  all_goals go_wp2
  all_goals go_end0
  obtain ⟨g5, o5, f5⟩ := G4.out.less
  have ht : Keeps (fun g => g = b) w3 w4 := (Keeps.refl _ w3).drew.trans (map_turned T4.out (fun g => g = b) rfl) (fun g e => .inl e)
  have lb := HL.out.blt
  refine ⟨rfl, .slice B m cb, g5.put_done rfl rfl rfl HX.out HY.out (owns_keeps O3.out ht (fun g hg e => by have := VL.out g hg; omega)) (fun g hg hf => ?_) ?_, K3.out.trans ht (fun g e => .inl (.inr (.inl e))), fun g hg => .inr (by have := VL.out g hg; omega)⟩
  · have h7 := VL.out g hg
    have h8 := HL.out.footlt (foot_mono (y := x ++ (p, .slice A p.b.length cap) :: y) (fun z hz => by
      rcases List.mem_append.1 hz with hz | hz
      · exact List.mem_append.2 (.inl hz)
      · exact List.mem_append.2 (.inr (by simp [hz]))) hf)
    omega
  · have := UE.out
    rw [used_mid] at this ⊢
    simp only [List.length_take]
    simp only at this
    omega
theorem last_any (w : World) (a b rm : Nat) (dn : Bool) (x y : List (Pt × Value)) (p : Pt) (v : Value) (m : Nat) (h : DkB w a b rm dn (x ++ (p, v) :: y)) (h0 : -9223372036854775808 ≤ p.n) (h1 : p.n ≤ 9223372036854775807) (hx : ∀ z ∈ x, z.1.n < p.n) (hy : ∀ z ∈ y, p.n < z.1.n) (hn : (x ++ (p, v) :: y).length ≤ 1000) (hu : used (pts (x ++ (p, v) :: y)) ≤ 1000000) (hm : m ≤ p.b.length) :
    Calls Tryz.prog 85 #[.pointer (some ⟨a, 0, none⟩), .int .i64 p.n, .int .i64 (m : Nat)] w (Lasts w a b rm dn x y p v m) := by
  obtain ⟨A, cap, e⟩ := owns_shape (h.own (p, v) (by simp))
  simp only at e
  subst e
  have hl : p.b.length ≤ 1000000 := by rw [used_mid] at hu; simp only at hu; omega
  rcases Nat.lt_or_ge m p.b.length with hm' | hm'
  · exact last_less w a b rm dn x y p A cap m _ (Lib.hid rfl) h h0 h1 hx hy hn hl hu hm'
  · obtain rfl : m = p.b.length := by omega
    exact last_same w a b rm dn x y p A cap h h0 h1 hx hy hn hl
end Go.Proofs.YtgeahpfdaehjaaaGreatDoor
namespace Go.Proofs.YtgeahpfdaehjaaaGreatDoor
open Go.ChangeShapes Go.WideShapes Go.ChangeAt Go.RowKit
set_option linter.unusedVariables false

/-! ### what each comes to: an error's number (0: none), and the parts -/
def joinP (n : Int) (bs : List UInt8) : Option Pt → Pt
  | some p => ⟨p.n, p.b ++ bs, p.s⟩
  | none => ⟨n, bs, 0⟩
def syncP (n : Int) : Option Pt → Pt
  | some p => ⟨p.n, p.b, p.b.length⟩
  | none => ⟨n, [], 0⟩
def cutP (n : Int) (m : Nat) : Option Pt → Pt
  | some p => ⟨p.n, p.b.take m, m⟩
  | none => ⟨n, [], 0⟩
def opAppend (rm : Nat) (dn : Bool) (L : List Pt) (n : Int) (bs : List UInt8) : Nat × List Pt :=
  if dn then (10, L) else if n < 0 then (1, L) else if rm - used L < bs.length then (6, L) else (0, upd n (joinP n bs) L)
/-- Is there a part of this number, and is the disk up? An error's number, or 0. -/
def missC (dn : Bool) (L : List Pt) (n : Int) : Nat := if dn then 10 else if (find n L).isNone then 4 else 0
def opSync (dn : Bool) (L : List Pt) (n : Int) : Nat × List Pt := if missC dn L n = 0 then (0, upd n (syncP n) L) else (missC dn L n, L)
def lenOf (n : Int) (L : List Pt) : Nat := match find n L with | some p => p.b.length | none => 0
def opCut (dn : Bool) (L : List Pt) (n m : Int) : Nat × List Pt :=
  if missC dn L n = 0 then (if m < 0 ∨ (lenOf n L : Int) < m then (1, L) else (0, upd n (cutP n m.toNat) L)) else (missC dn L n, L)
def opRemove (dn : Bool) (L : List Pt) (n : Int) : Nat × List Pt := if missC dn L n = 0 then (0, del n L) else (missC dn L n, L)
def bytesOf (n : Int) (L : List Pt) : List UInt8 := match find n L with | some p => p.b | none => []
def opRead (dn : Bool) (L : List Pt) (n : Int) : Nat × List UInt8 := if missC dn L n = 0 then (0, bytesOf n L) else (missC dn L n, [])
theorem miss_some {L : List Pt} {n : Int} {q : Pt} (h : find n L = some q) : missC false L n = 0 := by unfold missC; rw [h]; rfl
theorem miss_none {L : List Pt} {n : Int} (h : find n L = none) : missC false L n = 4 := by unfold missC; rw [h]; rfl
theorem len_some {L : List Pt} {n : Int} {q : Pt} (h : find n L = some q) : lenOf n L = q.b.length := by unfold lenOf; rw [h]
theorem bytes_some {L : List Pt} {n : Int} {q : Pt} (h : find n L = some q) : bytesOf n L = q.b := by unfold bytesOf; rw [h]
/-- An error's number, as an error. -/
def ErrV (c : Nat) : Value := if c = 0 then .nilIface else errV c

/-! ### lists of parts with their rows -/
theorem splitX (n : Int) (xs : List (Pt × Value)) (h : Rises (pts xs)) :
    (∃ x q v y, xs = x ++ (q, v) :: y ∧ q.n = n ∧ (∀ z ∈ x, z.1.n < n) ∧ ∀ z ∈ y, n < z.1.n) ∨ (∃ x y, xs = x ++ y ∧ (∀ z ∈ x, z.1.n < n) ∧ ∀ z ∈ y, n < z.1.n) := by
  have hs := split n (pts xs) h
  generalize hL : pts xs = L at hs
  cases hs with
  | has X q Y hn hX hY =>
    obtain ⟨x, r, rfl, rfl, hr⟩ := List.map_eq_append_iff.1 hL
    obtain ⟨z, y, rfl, rfl, rfl⟩ := List.map_eq_cons_iff.1 hr
    exact .inl ⟨x, z.1, z.2, y, rfl, hn, pts_n (T := fun k => k < n) hX, pts_n (T := fun k => n < k) hY⟩
  | no X Y hX hY =>
    obtain ⟨x, y, rfl, rfl, rfl⟩ := List.map_eq_append_iff.1 hL
    exact .inr ⟨x, y, rfl, pts_n (T := fun k => k < n) hX, pts_n (T := fun k => n < k) hY⟩
theorem all_pts {xs : List (Pt × Value)} {T : Int → Prop} (h : ∀ z ∈ xs, T z.1.n) : ∀ p ∈ pts xs, T p.n := fun p hp => by
  obtain ⟨z, hz, rfl⟩ := List.mem_map.1 hp
  exact h z hz
theorem pts_app (x y : List (Pt × Value)) : pts (x ++ y) = pts x ++ pts y := List.map_append
theorem pts_mid (x y : List (Pt × Value)) (q : Pt × Value) : pts (x ++ q :: y) = pts x ++ q.1 :: pts y := by unfold pts; rw [List.map_append, List.map_cons]
section
variable {n : Int} {x y : List (Pt × Value)} {q : Pt} {v : Value}
theorem upd_x (f : Option Pt → Pt) (hn : q.n = n) (hx : ∀ z ∈ x, z.1.n < n) (v' : Value) : upd n f (pts (x ++ (q, v) :: y)) = pts (x ++ (f (some q), v') :: y) := by
  rw [pts_mid, pts_mid]; exact upd_has hn (all_pts (T := fun k => k < n) hx)
theorem upd_n (f : Option Pt → Pt) (hx : ∀ z ∈ x, z.1.n < n) (hy : ∀ z ∈ y, n < z.1.n) (v : Value) : upd n f (pts (x ++ y)) = pts (x ++ (f none, v) :: y) := by
  rw [pts_mid, pts_app]; exact upd_no (all_pts (T := fun k => n < k) hy) (all_pts (T := fun k => k < n) hx)
theorem del_x (hn : q.n = n) (hx : ∀ z ∈ x, z.1.n < n) : del n (pts (x ++ (q, v) :: y)) = pts (x ++ y) := by
  rw [pts_mid, pts_app]; exact del_has hn (all_pts (T := fun k => k < n) hx)
theorem find_x (hn : q.n = n) (hx : ∀ z ∈ x, z.1.n < n) : find n (pts (x ++ (q, v) :: y)) = some q := by
  rw [pts_mid]; exact find_has hn (all_pts (T := fun k => k < n) hx)
theorem find_n (hx : ∀ z ∈ x, z.1.n < n) (hy : ∀ z ∈ y, n < z.1.n) : find n (pts (x ++ y)) = none := by
  rw [pts_app]; exact find_no (all_pts (T := fun k => k < n) hx) (all_pts (T := fun k => n < k) hy)
end
theorem ne_of (n : Int) {x y : List (Pt × Value)} (hx : ∀ z ∈ x, z.1.n < n) (hy : ∀ z ∈ y, n < z.1.n) : ∀ z ∈ x ++ y, z.1.n ≠ n := fun z hz => by
  rcases List.mem_append.1 hz with h | h
  · have := hx z h; omega
  · have := hy z h; omega

def Ops (w : World) (F : Nat → Prop) (a rm : Nat) (dn : Bool) (r : Nat × List Pt) (e : Ending) (w' : World) : Prop :=
  e = .returned (ErrV r.1) ∧ ∃ F', Dsk w' F' a rm dn r.2 ∧ Mv8 w F w' F'
theorem Mv8.of {w w' : World} {F : Nat → Prop} {a b : Nat} {xs xs' : List (Pt × Value)} (hF : ∀ g, F g ↔ foot a b xs g) (k : Keeps (foot a b xs) w w') (h : ∀ z ∈ xs', ∀ g, z.2.ownBlock = some g → foot a b xs g ∨ w.heap.size ≤ g) : Mv8 w F w' (foot a b xs') where
  keeps := k.wide (fun g hg _ => (hF g).2 hg)
  own g hg := by
    rcases hg with e | e | ⟨z, hz, e⟩
    · exact .inl ((hF g).2 (.inl e))
    · exact .inl ((hF g).2 (.inr (.inl e)))
    · rcases h z hz g e with e | e
      · exact .inl ((hF g).2 e)
      · exact .inr e
theorem foot_mid {a b : Nat} {w : World} {x y : List (Pt × Value)} {q p : Pt × Value} (h : ∀ g, p.2.ownBlock = some g → q.2.ownBlock = some g ∨ w.heap.size ≤ g) :
    ∀ z ∈ x ++ p :: y, ∀ g, z.2.ownBlock = some g → foot a b (x ++ q :: y) g ∨ w.heap.size ≤ g := fun z hz g hg => by
  rcases List.mem_append.1 hz with hz | hz
  · exact .inl (.inr (.inr ⟨z, by simp [hz], hg⟩))
  · rcases List.mem_cons.1 hz with rfl | hz
    · rcases h g hg with e | e
      · exact .inl (.inr (.inr ⟨q, by simp, e⟩))
      · exact .inr e
    · exact .inl (.inr (.inr ⟨z, by simp [hz], hg⟩))

theorem Dsk.open {w : World} {F : Nat → Prop} {a rm : Nat} {dn : Bool} {L : List Pt} (h : Dsk w F a rm dn L) : ∃ b xs, DkB w a b rm dn xs ∧ pts xs = L ∧ ∀ g, F g ↔ foot a b xs g := h

theorem up_walk (w : World) (F : Nat → Prop) (a rm : Nat) (dn : Bool) (L : List Pt) (h : Dsk w F a rm dn L) :
    Calls Tryz.prog 46 #[.pointer (some ⟨a, 0, none⟩)] w fun e w' => e = .returned (.tuple #[]) ∧ Dsk w' F a rm false L ∧ Mv8 w F w' F := by
  obtain ⟨b, xs, h1, rfl, hF⟩ := h
  have c2 := h1.c2
  have f2 := h1.f 2
  have HL := Lib.hid h1
  have HF := Lib.hid hF
  clear h1 hF
  go_enter Tryz.func46, Tryz.ntmps46
  go_wp2
  go_end0
  exact ⟨rfl, ⟨b, xs, HL.out.setD false, rfl, HF.out⟩, (Keeps.refl F w).set _ _ (.inl ((HF.out a).2 (.inl rfl))), fun g hg => .inl hg⟩

theorem errV_ne {c : Nat} (h : c ≠ 0) : ErrV c = errV c := by unfold ErrV; rw [if_neg h]
theorem append_gone (w : World) (F : Nat → Prop) (a rm : Nat) (L : List Pt) (n : Int) (B : Option Addr) (k cb : Nat) (h : Dsk w F a rm true L) :
    Calls Tryz.prog 55 #[.pointer (some ⟨a, 0, none⟩), .int .i64 n, .slice B k cb] w (Ops w F a rm true (10, L)) := by
  obtain ⟨b, xs, h1, rfl, hF⟩ := h
  have c2 := h1.c2
  have HD : Hid (Dsk w F a rm true (pts xs)) := Lib.hid ⟨b, xs, h1, rfl, hF⟩
  clear h1 hF
  go_enter Tryz.func55, Tryz.ntmps55
  go_wp2
  go_ret
  exact ⟨rfl, F, HD.out, Mv8.still (Below.refl _ _)⟩
theorem append_arg (w : World) (F : Nat → Prop) (a rm : Nat) (L : List Pt) (n : Int) (B : Option Addr) (k cb : Nat) (h : Dsk w F a rm false L) (hn : n < 0) :
    Calls Tryz.prog 55 #[.pointer (some ⟨a, 0, none⟩), .int .i64 n, .slice B k cb] w (Ops w F a rm false (1, L)) := by
  obtain ⟨b, xs, h1, rfl, hF⟩ := h
  have c2 := h1.c2
  have HD : Hid (Dsk w F a rm false (pts xs)) := Lib.hid ⟨b, xs, h1, rfl, hF⟩
  clear h1 hF
  go_enter Tryz.func55, Tryz.ntmps55
  go_wp2
  go_ret
  exact ⟨rfl, F, HD.out, Mv8.still (Below.refl _ _)⟩
theorem append_full (w : World) (a b rm us : Nat) (xs : List (Pt × Value)) (m : Nat) (D : DataW Value) (n : Int) (B : Option Addr) (k cb : Nat) (h : DkG w a b rm us false m D xs) (hn : 0 ≤ n) (h0 : us ≤ rm) (h1 : rm ≤ 65536) (hk : k ≤ 1000000) (hf : rm - us < k) :
    Calls Tryz.prog 55 #[.pointer (some ⟨a, 0, none⟩), .int .i64 n, .slice B k cb] w fun e w' => e = .returned (errV 6) ∧ Below w.heap.size w w' := by
  have c0 := h.c0
  have c1 := h.c1
  have c2 := h.c2
  have hd : decide ((rm : Int) - us < k) = true := decide_eq_true (by omega)
  have hn' : ¬ n < 0 := by omega
  clear h
  go_enter Tryz.func55, Tryz.ntmps55
  go_wp2
  go_region
  all_goals go_wp2
  all_goals go_ret
  exact ⟨rfl, (Below.refl _ _).drew⟩
set_option maxRecDepth 100000 in
theorem append_has (w : World) (a b rm us : Nat) (x y : List (Pt × Value)) (p : Pt) (A : Option Addr) (cap : Nat) (B : Option Addr) (cb : Nat) (bs : List UInt8) (hr : RdS w B cb bs)
    (h : DkG w a b rm us false (x ++ (p, Value.slice A p.b.length cap) :: y).length (ents (x ++ (p, .slice A p.b.length cap) :: y)) (x ++ (p, .slice A p.b.length cap) :: y)) (h0 : 0 ≤ p.n) (h1 : p.n ≤ 9223372036854775807)
    (hx : ∀ z ∈ x, z.1.n < p.n) (hy : ∀ z ∈ y, p.n < z.1.n) (hn : (x ++ (p, Value.slice A p.b.length cap) :: y).length ≤ 1000) (UE : Hid (used (pts (x ++ (p, Value.slice A p.b.length cap) :: y)) = us)) (hu : us ≤ rm) (hrm : rm ≤ 65536) (hf : bs.length ≤ rm - us) :
    Calls Tryz.prog 55 #[.pointer (some ⟨a, 0, none⟩), .int .i64 p.n, .slice B bs.length cb] w fun e w' => e = .returned .nilIface ∧ ∃ v', DkB w' a b rm false (x ++ (⟨p.n, p.b ++ bs, p.s⟩, v') :: y) ∧
      Keeps (foot a b (x ++ (p, .slice A p.b.length cap) :: y)) w w' ∧ ∀ g, v'.ownBlock = some g → (Value.slice A p.b.length cap).ownBlock = some g ∨ w.heap.size ≤ g := by
  have lt := h.lt
  have c0 := h.c0
  have c1 := h.c1
  have c2 := h.c2
  have c3 := h.c3
  have hd : decide ((rm : Int) - us < bs.length) = false := decide_eq_false (by omega)
  have hn' : ¬ p.n < 0 := by omega
  have hu1 : p.b.length ≤ us := by rw [← UE.out, used_mid]; simp
  have lk := look_has h.drew.map (by omega) h1 rfl hx
  have o1 : OB (w.drew.alloc (.cells #[.slice A p.b.length cap, .int .i64 (p.s : Nat)] 141)) 0 (.slice A p.b.length cap) p.b := OB.alloc (h.drew.own (p, .slice A p.b.length cap) (by simp)) _
  obtain ⟨v', w2, hrun, o2, g2, at2⟩ := ob_grow o1 (hr.drew1.alloc _) (by omega)
  have D1 := h.drew.alloc (.cells #[.slice A p.b.length cap, .int .i64 (p.s : Nat)] 141)
  have K1 := (Keeps.refl (foot a b (x ++ (p, .slice A p.b.length cap) :: y)) w).drew.alloc (.cells #[.slice A p.b.length cap, .int .i64 (p.s : Nat)] 141)
  have b1 := heap_alloc_new w.drew (.cells #[.slice A p.b.length cap, .int .i64 (p.s : Nat)] 141)
  have z1 : (w.drew.alloc (.cells #[.slice A p.b.length cap, .int .i64 (p.s : Nat)] 141)).heap.size = w.heap.size + 1 := by simp
  obtain ⟨A', cap', ev⟩ := owns_shape o2
  rw [List.length_append] at ev
  subst ev
  have nfo : ¬ foot a b (x ++ (p, .slice A p.b.length cap) :: y) w.heap.size := fun hf => by have := h.footlt hf; omega
  have olt : ∀ g, (Value.slice A p.b.length cap).ownBlock = some g → g < w.heap.size := fun g hg => (h.row (x := (p, .slice A p.b.length cap)) (by simp) hg).2.2
  have e2 : w2.heap[w.heap.size]? = some (.cells #[.slice A p.b.length cap, .int .i64 (p.s : Nat)] 141 (0, 0)) := by
    rw [g2.block w.heap.size (by rw [z1]; omega) (fun e => by have := olt _ e.symm; omega)]; exact b1
  have q0 : w2.cell? ⟨w.heap.size, 0, none⟩ = some (.slice A p.b.length cap) := cell_of_block e2
  have q1 : w2.cell? ⟨w.heap.size, 1, none⟩ = some (.int .i64 (p.s : Nat)) := cell_of_block e2
  have f0 : w2.frozen? ⟨w.heap.size, 0, none⟩ = false := frozen_of_block e2
  obtain ⟨dl, do1, df⟩ := D1.less
  have K2 : Keeps (foot a b (x ++ (p, .slice A p.b.length cap) :: y)) w w2 := K1.trans (Keeps.of_grown (F := fun g => (Value.slice A p.b.length cap).ownBlock = some g) g2 (fun g e => e)) (fun g e => .inl (.inr (.inr ⟨(p, .slice A p.b.length cap), by simp, e⟩)))
  have D2 := dl.keeps (Keeps.of_grown (F := fun g => (Value.slice A p.b.length cap).ownBlock = some g) g2 (fun g e => e)) (fun g hg e => df g e hg)
  have sub : ∀ g, foot a b (x ++ y) g → g < w.heap.size := fun g hg => h.footlt (foot_mono (fun z hz => by
      rcases List.mem_append.1 hz with hz | hz
      · exact List.mem_append.2 (.inl hz)
      · exact List.mem_append.2 (.inr (by simp [hz]))) hg)
  have D3 := D2.set ⟨w.heap.size, 0, none⟩ (.slice A' (p.b.length + bs.length) cap') (fun hf => by have := sub _ hf; simp at this)
  have K3 := K2.set ⟨w.heap.size, 0, none⟩ (.slice A' (p.b.length + bs.length) cap') (.inr (Nat.le_refl _))
  have vat : ∀ g, (Value.slice A' (p.b.length + bs.length) cap').ownBlock = some g → (Value.slice A p.b.length cap).ownBlock = some g ∨ w.heap.size + 1 ≤ g := fun g hg => by
    rcases at2 with e | e
    · exact .inl (by rw [← e]; exact hg)
    · rw [e] at hg; cases hg; exact .inr (by rw [z1]; omega)
  have o3 : OB (w2.setCell ⟨w.heap.size, 0, none⟩ (.slice A' (p.b.length + bs.length) cap')) 0 (.slice A' (p.b.length + bs.length) cap') (p.b ++ bs) :=
    owns_keeps (F := fun g => g = w.heap.size) o2 ((Keeps.refl (fun g => g = w.heap.size) w2).set _ _ (.inl rfl)) (fun g hg e => by
      rcases vat g hg with h | h
      · have := olt g h; omega
      · omega)
  have h3 : (w2.setCell ⟨w.heap.size, 0, none⟩ (.slice A' (p.b.length + bs.length) cap')).heap[w.heap.size]? = some (.cells #[.slice A' (p.b.length + bs.length) cap', .int .i64 (p.s : Nat)] 141 (0, 0)) := by rw [heap_set_same e2]; rfl
  obtain ⟨w4, mu, g4, t4⟩ := D3.drew.store (by omega) p.n (by omega) h1 (.agg #[.slice A' (p.b.length + bs.length) cap', .int .i64 (p.s : Nat)])
  have c14 := g4.c1
  have f14 := g4.f 1
  have HR := Lib.hid hrun
  have D3 := Lib.hid D3
  have K3 := Lib.hid K3
  have O3 := Lib.hid o3
  have H3 := Lib.hid h3
  have VA := Lib.hid vat
  have G4 := Lib.hid g4
  have T4 := Lib.hid t4
  have SU := Lib.hid sub
  have OL := Lib.hid olt
  have HL := Lib.hid h
  have DF := Lib.hid df
  have HX := Lib.hid hx
  have HY := Lib.hid hy
  clear h hx hy hn hrun o1 o2 g2 at2 b1 z1 hr K1 D1 nfo olt e2 dl do1 df K2 D2 sub vat o3 h3 g4 t4
  go_enter Tryz.func55, Tryz.ntmps55
  go_wp2
  go_region
  all_goals go_wp2_with (first | (at_builtin; refine wpList_append_two rfl (.tmp 39) (.tmp 40) 64 64 rfl _ _ _ rfl rfl HR.out ?_) | fail)
  generalize w2.setCell ⟨w.heap.size, 0, none⟩ (.slice A' (p.b.length + bs.length) cap') = w3 at D3 K3 O3 H3 T4 mu ⊢
  have s0 : w3.cell? ⟨w.heap.size, 0, none⟩ = some (.slice A' (p.b.length + bs.length) cap') := cell_of_block H3.out
  have s1 : w3.cell? ⟨w.heap.size, 1, none⟩ = some (.int .i64 (p.s : Nat)) := cell_of_block H3.out
  have d3 := D3.out.c3
  go_region
  all_goals go_wp2
  all_goals go_ret
  rw [show (us : Int) + (bs.length : Int) = ((us + bs.length : Nat) : Int) by omega]
  have ht : Keeps (fun g => g = b) w3 w4 := (Keeps.refl _ w3).drew.trans (map_turned T4.out (fun g => g = b) rfl) (fun g e => .inl e)
  have hs : Keeps (fun g => g = a ∨ g = b) w3 (w4.setCell ⟨a, 1, none⟩ (.int .i64 ((us + bs.length : Nat) : Int))) := (ht.wide (fun g e _ => .inr e)).set _ _ (.inl (.inl rfl))
  have lb := HL.out.blt
  have nab : ∀ g, (Value.slice A' (p.b.length + bs.length) cap').ownBlock = some g → ¬ (g = a ∨ g = b) := fun g hg e => by
    rcases VA.out g hg with h | h
    · have := HL.out.row (x := (p, .slice A p.b.length cap)) (by simp) h
      omega
    · omega
  refine ⟨rfl, .slice A' (p.b.length + bs.length) cap', (G4.out.setU (us + bs.length)).put_done rfl rfl rfl HX.out HY.out (owns_keeps O3.out hs nab) (fun g hg hf => ?_) ?_, K3.out.trans hs (fun g e => .inl (by rcases e with e | e; exact .inl e; exact .inr (.inl e))), fun g hg => ?_⟩
  · rcases VA.out g hg with h | h
    · exact DF.out g h hf
    · have := SU.out g hf; omega
  · have := UE.out
    rw [used_mid] at this ⊢
    simp only [List.length_append]
    simp only at this
    omega
  · rcases VA.out g hg with h | h
    · exact .inl h
    · exact .inr (by omega)
set_option maxRecDepth 100000 in
theorem append_new (w : World) (a b rm us : Nat) (x y : List (Pt × Value)) (n : Int) (B : Option Addr) (cb : Nat) (bs : List UInt8) (hr : RdS w B cb bs)
    (h : DkG w a b rm us false (x ++ y).length (ents (x ++ y)) (x ++ y)) (h0 : 0 ≤ n) (h1 : n ≤ 9223372036854775807)
    (hx : ∀ z ∈ x, z.1.n < n) (hy : ∀ z ∈ y, n < z.1.n) (hn : (x ++ y).length ≤ 1000) (UE : Hid (used (pts (x ++ y)) = us)) (hu : us ≤ rm) (hrm : rm ≤ 65536) (hf : bs.length ≤ rm - us) :
    Calls Tryz.prog 55 #[.pointer (some ⟨a, 0, none⟩), .int .i64 n, .slice B bs.length cb] w fun e w' => e = .returned .nilIface ∧ ∃ v', DkB w' a b rm false (x ++ (⟨n, bs, 0⟩, v') :: y) ∧
      Keeps (foot a b (x ++ y)) w w' ∧ ∀ g, v'.ownBlock = some g → w.heap.size ≤ g := by
  have lt := h.lt
  have c0 := h.c0
  have c1 := h.c1
  have c2 := h.c2
  have c3 := h.c3
  have hd : decide ((rm : Int) - us < bs.length) = false := decide_eq_false (by omega)
  have hn' : ¬ n < 0 := by omega
  have lk := look_no h.drew.map (by omega) h1 (ne_of n hx hy)
  have o1 : OB (w.drew.alloc (.cells #[.slice none 0 0, .int .i64 0] 141)) 0 (.slice none 0 0) [] := OB.nil _ _
  obtain ⟨v', w2, hrun, o2, g2, at2⟩ := ob_grow o1 (hr.drew1.alloc _) (by simp only [List.length_nil]; omega)
  have D1 := h.drew.alloc (.cells #[.slice none 0 0, .int .i64 0] 141)
  have K1 := (Keeps.refl (foot a b (x ++ y)) w).drew.alloc (.cells #[.slice none 0 0, .int .i64 0] 141)
  have b1 := heap_alloc_new w.drew (.cells #[.slice none 0 0, .int .i64 0] 141)
  have z1 : (w.drew.alloc (.cells #[.slice none 0 0, .int .i64 0] 141)).heap.size = w.heap.size + 1 := by simp
  rw [List.nil_append] at o2
  obtain ⟨A', cap', ev⟩ := owns_shape o2
  subst ev
  have nfo : ¬ foot a b (x ++ y) w.heap.size := fun hf => by have := h.footlt hf; omega
  have e2 : w2.heap[w.heap.size]? = some (.cells #[.slice none 0 0, .int .i64 0] 141 (0, 0)) := by
    rw [g2.block w.heap.size (by rw [z1]; omega) (fun e => by cases e)]; exact b1
  have q0 : w2.cell? ⟨w.heap.size, 0, none⟩ = some (.slice none 0 0) := cell_of_block e2
  have q1 : w2.cell? ⟨w.heap.size, 1, none⟩ = some (.int .i64 0) := cell_of_block e2
  have f0 : w2.frozen? ⟨w.heap.size, 0, none⟩ = false := frozen_of_block e2
  have k2 := Keeps.of_grown (F := fun _ => False) g2 (fun g e => by cases e)
  have K2 : Keeps (foot a b (x ++ y)) w w2 := K1.trans k2 (fun g e => e.elim)
  have D2 := D1.keeps k2 (fun g hg e => e)
  have sub : ∀ g, foot a b (x ++ y) g → g < w.heap.size := fun g hg => h.footlt hg
  have D3 := D2.set ⟨w.heap.size, 0, none⟩ (.slice A' bs.length cap') nfo
  have K3 := K2.set ⟨w.heap.size, 0, none⟩ (.slice A' bs.length cap') (.inr (Nat.le_refl _))
  have vat : ∀ g, (Value.slice A' bs.length cap').ownBlock = some g → w.heap.size + 1 ≤ g := fun g hg => by
    rcases at2 with e | e
    · rw [e] at hg; cases hg
    · rw [e] at hg; cases hg; rw [z1]; omega
  have o3 : OB (w2.setCell ⟨w.heap.size, 0, none⟩ (.slice A' bs.length cap')) 0 (.slice A' bs.length cap') bs :=
    owns_keeps (F := fun g => g = w.heap.size) o2 ((Keeps.refl (fun g => g = w.heap.size) w2).set _ _ (.inl rfl)) (fun g hg e => by have := vat g hg; omega)
  have h3 : (w2.setCell ⟨w.heap.size, 0, none⟩ (.slice A' bs.length cap')).heap[w.heap.size]? = some (.cells #[.slice A' bs.length cap', .int .i64 0] 141 (0, 0)) := by rw [heap_set_same e2]; rfl
  obtain ⟨w4, mu, g4, t4⟩ := D3.drew.store (by omega) n (by omega) h1 (.agg #[.slice A' bs.length cap', .int .i64 0])
  have c14 := g4.c1
  have f14 := g4.f 1
  have HR := Lib.hid hrun
  have D3 := Lib.hid D3
  have K3 := Lib.hid K3
  have O3 := Lib.hid o3
  have H3 := Lib.hid h3
  have VA := Lib.hid vat
  have G4 := Lib.hid g4
  have T4 := Lib.hid t4
  have SU := Lib.hid sub
  have HL := Lib.hid h
  have HX := Lib.hid hx
  have HY := Lib.hid hy
  clear h hx hy hn hrun o1 o2 g2 at2 b1 z1 hr K1 D1 nfo e2 K2 D2 sub vat o3 h3 g4 t4 k2
  go_enter Tryz.func55, Tryz.ntmps55
  go_wp2
  go_region
  all_goals go_wp2_with (first | (at_builtin; refine wpList_append_two rfl (.tmp 39) (.tmp 40) 64 64 rfl _ _ _ rfl rfl HR.out ?_) | fail)
  generalize w2.setCell ⟨w.heap.size, 0, none⟩ (.slice A' bs.length cap') = w3 at D3 K3 O3 H3 T4 mu ⊢
  have s0 : w3.cell? ⟨w.heap.size, 0, none⟩ = some (.slice A' bs.length cap') := cell_of_block H3.out
  have s1 : w3.cell? ⟨w.heap.size, 1, none⟩ = some (.int .i64 0) := cell_of_block H3.out
  have d3 := D3.out.c3
  go_region
  all_goals go_wp2
  all_goals go_ret
  rw [show (us : Int) + (bs.length : Int) = ((us + bs.length : Nat) : Int) by omega]
  have ht : Keeps (fun g => g = b) w3 w4 := (Keeps.refl _ w3).drew.trans (map_turned T4.out (fun g => g = b) rfl) (fun g e => .inl e)
  have hs : Keeps (fun g => g = a ∨ g = b) w3 (w4.setCell ⟨a, 1, none⟩ (.int .i64 ((us + bs.length : Nat) : Int))) := (ht.wide (fun g e _ => .inr e)).set _ _ (.inl (.inl rfl))
  have lb := HL.out.blt
  refine ⟨rfl, .slice A' bs.length cap', (G4.out.setU (us + bs.length)).put_new rfl rfl HX.out HY.out (owns_keeps O3.out hs (fun g hg e => by have := VA.out g hg; omega)) (fun g hg hf => ?_) ?_, K3.out.trans hs (fun g e => .inl (by rcases e with e | e; exact .inl e; exact .inr (.inl e))), fun g hg => ?_⟩
  · have := VA.out g hg; have := SU.out g hf; omega
  · have := UE.out
    rw [used_mid]
    simp only
    omega
  · have := VA.out g hg; omega
/-- Append, whatever it is asked. -/
theorem appendD (w : World) (F : Nat → Prop) (a rm : Nat) (dn : Bool) (L : List Pt) (n : Int) (B : Option Addr) (cb : Nat) (bs : List UInt8) (h : Dsk w F a rm dn L) (hr : RdS w B cb bs) (hi : Inv rm L) (hl : L.length ≤ 1000) (hn : n ≤ 9223372036854775807) (hb : bs.length ≤ 1000000) :
    Calls Tryz.prog 55 #[.pointer (some ⟨a, 0, none⟩), .int .i64 n, .slice B bs.length cb] w (Ops w F a rm dn (opAppend rm dn L n bs)) := by
  unfold opAppend
  cases dn with
  | true => exact append_gone w F a rm L n B _ cb h
  | false =>
    rw [if_neg (by simp)]
    by_cases h0 : n < 0
    · rw [if_pos h0]; exact append_arg w F a rm L n B _ cb h h0
    rw [if_neg h0]
    obtain ⟨b, xs, h1, rfl, hF⟩ := h
    have hu := hi.fits
    have hrm := hi.room
    have hlx : xs.length ≤ 1000 := by simpa using hl
    by_cases hf : rm - used (pts xs) < bs.length
    · rw [if_pos hf]
      refine (append_full w a b rm _ xs _ _ n B bs.length cb h1 (by omega) hu hrm hb hf).mono ?_
      rintro e w' ⟨rfl, hb⟩
      exact ⟨rfl, F, ⟨b, xs, h1.below hb (Nat.le_refl _), rfl, hF⟩, Mv8.still hb⟩
    rw [if_neg hf]
    rcases splitX n xs hi.rise with ⟨x, q, v, y, rfl, rfl, hx, hy⟩ | ⟨x, y, rfl, hx, hy⟩
    · obtain ⟨A, cap, e⟩ := owns_shape (h1.own (q, v) (by simp))
      simp only at e
      subst e
      refine (append_has w a b rm _ x y q A cap B cb bs hr h1 (by omega) hn hx hy hlx (Lib.hid rfl) hu hrm (by omega)).mono ?_
      rintro e w' ⟨rfl, v', h2, k, hv⟩
      exact ⟨rfl, _, ⟨b, _, h2, (upd_x (joinP q.n bs) rfl hx v').symm, fun g => Iff.rfl⟩, Mv8.of hF k (foot_mid hv)⟩
    · refine (append_new w a b rm _ x y n B cb bs hr h1 (by omega) hn hx hy hlx (Lib.hid rfl) hu hrm (by omega)).mono ?_
      rintro e w' ⟨rfl, v', h2, k, hv⟩
      exact ⟨rfl, _, ⟨b, _, h2, (upd_n (joinP n bs) hx hy v').symm, fun g => Iff.rfl⟩, Mv8.of hF k (fun z hz g hg => by
        rcases List.mem_append.1 hz with hz | hz
        · exact .inl (.inr (.inr ⟨z, by simp [hz], hg⟩))
        · rcases List.mem_cons.1 hz with rfl | hz
          · exact .inr (hv g hg)
          · exact .inl (.inr (.inr ⟨z, by simp [hz], hg⟩)))⟩

theorem ErrV_0 : ErrV 0 = .nilIface := rfl
/-- find, whatever it is asked. -/
theorem findD (w : World) (a b rm : Nat) (dn : Bool) (xs : List (Pt × Value)) (n : Int) (h : DkB w a b rm dn xs) (h0 : -9223372036854775808 ≤ n) (h1 : n ≤ 9223372036854775807) (hr : Rises (pts xs)) :
    missC dn (pts xs) n ≠ 0 ∧ Calls Tryz.prog 84 #[.pointer (some ⟨a, 0, none⟩), .int .i64 n] w (fun e w' => e = .returned (.tuple #[.agg #[.slice none 0 0, .int .i64 0], errV (missC dn (pts xs) n)]) ∧ Below w.heap.size w w') ∨
    dn = false ∧ ∃ x q A cap y, xs = x ++ (q, .slice A q.b.length cap) :: y ∧ q.n = n ∧ (∀ z ∈ x, z.1.n < n) ∧ (∀ z ∈ y, n < z.1.n) ∧
      Calls Tryz.prog 84 #[.pointer (some ⟨a, 0, none⟩), .int .i64 n] w (fun e w' => e = .returned (.tuple #[.agg #[.slice A q.b.length cap, .int .i64 (q.s : Nat)], .nilIface]) ∧ Below w.heap.size w w') := by
  cases dn with
  | true => exact .inl ⟨by simp [missC], find_gone w a b rm _ _ _ _ n h⟩
  | false =>
    rcases splitX n xs hr with ⟨x, q, v, y, rfl, rfl, hx, hy⟩ | ⟨x, y, rfl, hx, hy⟩
    · obtain ⟨A, cap, e⟩ := owns_shape (h.own (q, v) (by simp))
      simp only at e
      subst e
      exact .inr ⟨rfl, x, q, A, cap, y, rfl, rfl, hx, hy, find_some w a b rm _ x y _ q A cap _ h h0 h1 hx⟩
    · rw [miss_none (find_n hx hy)]
      exact .inl ⟨by omega, find_none w a b rm _ _ _ n h h0 h1 (ne_of n hx hy)⟩
set_option maxRecDepth 100000 in
theorem syncD (w : World) (F : Nat → Prop) (a rm : Nat) (dn : Bool) (L : List Pt) (n : Int) (h : Dsk w F a rm dn L) (hi : Inv rm L) (hl : L.length ≤ 1000) (h0 : -9223372036854775808 ≤ n) (h1 : n ≤ 9223372036854775807) :
    Calls Tryz.prog 58 #[.pointer (some ⟨a, 0, none⟩), .int .i64 n] w (Ops w F a rm dn (opSync dn L n)) := by
  obtain ⟨b, xs, hd, rfl, hF⟩ := h
  rcases findD w a b rm dn xs n hd h0 h1 hi.rise with ⟨hc, hC⟩ | ⟨rfl, x, q, A, cap, y, rfl, rfl, hx, hy, hC⟩
  · unfold opSync
    rw [if_neg hc]
    have HD : Hid (Dsk w F a rm dn (pts xs)) := Lib.hid ⟨b, xs, hd, rfl, hF⟩
    have HC := Lib.hid hC
    have CC := Lib.hid hc
    clear hd hF hi hC hc
    generalize missC dn (pts xs) n = c at *
    unfold errV at HC
    go_enter Tryz.func58, Tryz.ntmps58
    go_wp2_with fail
    refine HC.out.mono ?_
    rintro e w1 ⟨rfl, b1⟩
    have B1 := Lib.hid b1
    clear b1 HC
    go_wp2
    go_ret
    have hB := B1.out.alloc B1.out.size (.cells #[.slice none 0 0, .int .i64 0] 141)
    exact ⟨by rw [errV_ne CC.out]; rfl, F, HD.out.below hB, Mv8.still hB⟩
  · have hf : q.b.length ≤ q.b.length := Nat.le_refl _
    have hu : used (pts (x ++ (q, Value.slice A q.b.length cap) :: y)) ≤ 1000000 := by have := hi.fits; have := hi.room; omega
    have hlx : (x ++ (q, Value.slice A q.b.length cap) :: y).length ≤ 1000 := by rw [List.length_map] at hl; exact hl
    have CL : Hid (∀ w1, Below w.heap.size w w1 → Calls Tryz.prog 85 #[.pointer (some ⟨a, 0, none⟩), .int .i64 q.n, .int .i64 (q.b.length : Nat)] w1 (Lasts w1 a b rm false x y q (.slice A q.b.length cap) q.b.length)) :=
      Lib.hid fun w1 hb => last_any w1 a b rm false x y q _ q.b.length (hd.below hb (Nat.le_refl _)) h0 h1 hx hy hlx hu hf
    have HC := Lib.hid hC
    have HF := Lib.hid hF
    have HX := Lib.hid hx
    have lt := hd.lt
    clear hd hF hi hC hx hy hu hlx hf hl
    go_enter Tryz.func58, Tryz.ntmps58
    go_wp2_with fail
    refine HC.out.mono ?_
    rintro e w1 ⟨rfl, b1⟩
    have hB := b1.alloc b1.size (.cells #[.slice A q.b.length cap, .int .i64 (q.s : Nat)] 141)
    have CM := Lib.hid (CL.out _ hB)
    have B1 := Lib.hid hB
    clear b1 HC CL hB
    go_wp2_with fail
    refine CM.out.mono ?_
    rintro e w2 ⟨rfl, v', d2, k2, l2⟩
    have D2 : Hid (Ops w F a rm false (opSync false (pts (x ++ (q, Value.slice A q.b.length cap) :: y)) q.n) (.returned .nilIface) w2) := Lib.hid (by
      have hz := B1.out.size
      unfold opSync
      rw [if_pos (miss_some (find_x rfl HX.out)), upd_x (syncP q.n) rfl HX.out v']
      refine ⟨rfl, foot a b (x ++ (⟨q.n, q.b.take q.b.length, q.b.length⟩, v') :: y), ⟨b, _, d2, ?_, fun g => Iff.rfl⟩, Mv8.of HF.out ((Keeps.of_below B1.out (Nat.le_refl _) _).trans k2 (fun g hg => .inl hg)) (foot_mid fun g hg => ?_)⟩
      · rw [List.take_length]
        rfl
      · rcases l2 g hg with e | e
        · exact .inl e
        · exact .inr (by omega))
    clear d2 k2 l2 CM
    go_wp2
    go_ret
    exact D2.out

set_option maxRecDepth 100000 in
theorem cutD (w : World) (F : Nat → Prop) (a rm : Nat) (dn : Bool) (L : List Pt) (n m : Int) (h : Dsk w F a rm dn L) (hi : Inv rm L) (hl : L.length ≤ 1000) (h0 : -9223372036854775808 ≤ n) (h1 : n ≤ 9223372036854775807) :
    Calls Tryz.prog 97 #[.pointer (some ⟨a, 0, none⟩), .int .i64 n, .int .i64 m] w (Ops w F a rm dn (opCut dn L n m)) := by
  obtain ⟨b, xs, hd, rfl, hF⟩ := h
  rcases findD w a b rm dn xs n hd h0 h1 hi.rise with ⟨hc, hC⟩ | ⟨rfl, x, q, A, cap, y, rfl, rfl, hx, hy, hC⟩
  · unfold opCut
    rw [if_neg hc]
    have HD : Hid (Dsk w F a rm dn (pts xs)) := Lib.hid ⟨b, xs, hd, rfl, hF⟩
    have HC := Lib.hid hC
    have CC := Lib.hid hc
    clear hd hF hi hC hc
    generalize missC dn (pts xs) n = c at *
    unfold errV at HC
    go_enter Tryz.func97, Tryz.ntmps97
    go_wp2_with fail
    refine HC.out.mono ?_
    rintro e w1 ⟨rfl, b1⟩
    have B1 := Lib.hid b1
    clear b1 HC
    go_wp2
    go_ret
    have hB := B1.out.alloc B1.out.size (.cells #[.slice none 0 0, .int .i64 0] 141)
    exact ⟨by rw [errV_ne CC.out]; rfl, F, HD.out.below hB, Mv8.still hB⟩
  · have hfx := find_x (v := .slice A q.b.length cap) (y := y) rfl hx
    have hu : used (pts (x ++ (q, Value.slice A q.b.length cap) :: y)) ≤ 1000000 := by have := hi.fits; have := hi.room; omega
    have hlx : (x ++ (q, Value.slice A q.b.length cap) :: y).length ≤ 1000 := by rw [List.length_map] at hl; exact hl
    unfold opCut
    rw [if_pos (miss_some hfx), len_some hfx]
    have lt := hd.lt
    have HC := Lib.hid hC
    by_cases hm : m < 0 ∨ (q.b.length : Int) < m
    · rw [if_pos hm]
      have HD : Hid (Dsk w F a rm false (pts (x ++ (q, Value.slice A q.b.length cap) :: y))) := Lib.hid ⟨b, _, hd, rfl, hF⟩
      clear hd hF hi hC hx hy hu hlx hl hfx
      have FIN : ∀ w1, Below w.heap.size w w1 → Ops w F a rm false (1, pts (x ++ (q, Value.slice A q.b.length cap) :: y)) (.returned (.iface 41 (.int .i64 1))) (w1.alloc (.cells #[.slice A q.b.length cap, .int .i64 (q.s : Nat)] 141)) := fun w1 b1 => by
        have hB := b1.alloc b1.size (.cells #[.slice A q.b.length cap, .int .i64 (q.s : Nat)] 141)
        exact ⟨rfl, F, HD.out.below hB, Mv8.still hB⟩
      have FIN := Lib.hid FIN
      rcases hm with hm | hm
      · go_enter Tryz.func97, Tryz.ntmps97
        go_wp2_with fail
        refine HC.out.mono ?_
        rintro e w1 ⟨rfl, b1⟩
        have F1 := Lib.hid (FIN.out w1 b1)
        clear b1 HC
        go_wp2
        go_ret
        exact F1.out
      · have hm0 : ¬ m < 0 := by omega
        go_enter Tryz.func97, Tryz.ntmps97
        go_wp2_with fail
        refine HC.out.mono ?_
        rintro e w1 ⟨rfl, b1⟩
        have F1 := Lib.hid (FIN.out w1 b1)
        clear b1 HC
        go_wp2
        go_ret
        exact F1.out
    · rw [if_neg hm]
      obtain ⟨k, rfl⟩ : ∃ k : Nat, m = (k : Int) := ⟨m.toNat, by omega⟩
      rw [Int.toNat_natCast]
      have hf : k ≤ q.b.length := by omega
      have hk0 : ¬ ((k : Int) < 0) := by omega
      have hk1 : ¬ ((q.b.length : Int) < k) := by omega
      have CL : Hid (∀ w1, Below w.heap.size w w1 → Calls Tryz.prog 85 #[.pointer (some ⟨a, 0, none⟩), .int .i64 q.n, .int .i64 (k : Nat)] w1 (Lasts w1 a b rm false x y q (.slice A q.b.length cap) k)) :=
        Lib.hid fun w1 hb => last_any w1 a b rm false x y q _ k (hd.below hb (Nat.le_refl _)) h0 h1 hx hy hlx hu hf
      have HF := Lib.hid hF
      have HX := Lib.hid hx
      clear hd hF hi hC hx hy hu hlx hl hm hfx
      go_enter Tryz.func97, Tryz.ntmps97
      go_wp2_with fail
      refine HC.out.mono ?_
      rintro e w1 ⟨rfl, b1⟩
      have hB := b1.alloc b1.size (.cells #[.slice A q.b.length cap, .int .i64 (q.s : Nat)] 141)
      have CM := Lib.hid (CL.out _ hB)
      have B1 := Lib.hid hB
      clear b1 HC CL hB
      go_wp2_with fail
      refine CM.out.mono ?_
      rintro e w2 ⟨rfl, v', d2, k2, l2⟩
      have D2 : Hid (Ops w F a rm false (0, upd q.n (cutP q.n k) (pts (x ++ (q, Value.slice A q.b.length cap) :: y))) (.returned .nilIface) w2) := Lib.hid (by
        have hz := B1.out.size
        rw [upd_x (cutP q.n k) rfl HX.out v']
        refine ⟨rfl, foot a b (x ++ (⟨q.n, q.b.take k, k⟩, v') :: y), ⟨b, _, d2, rfl, fun g => Iff.rfl⟩, Mv8.of HF.out ((Keeps.of_below B1.out (Nat.le_refl _) _).trans k2 (fun g hg => .inl hg)) (foot_mid fun g hg => ?_)⟩
        rcases l2 g hg with e | e
        · exact .inl e
        · exact .inr (by omega))
      clear d2 k2 l2 CM
      go_wp2
      go_ret
      exact D2.out
/-- What Read tells: bytes that are new, and an error. -/
def Reads (w : World) (r : Nat × List UInt8) (e : Ending) (w' : World) : Prop :=
  ∃ v, e = .returned (.tuple #[v, ErrV r.1]) ∧ OB w' w.heap.size v r.2 ∧ Below w.heap.size w w'
set_option maxRecDepth 100000 in
theorem readD (w : World) (F : Nat → Prop) (a rm : Nat) (dn : Bool) (L : List Pt) (n : Int) (h : Dsk w F a rm dn L) (hi : Inv rm L) (h0 : -9223372036854775808 ≤ n) (h1 : n ≤ 9223372036854775807) :
    Calls Tryz.prog 95 #[.pointer (some ⟨a, 0, none⟩), .int .i64 n] w (Reads w (opRead dn L n)) := by
  obtain ⟨b, xs, hd, rfl, hF⟩ := h
  rcases findD w a b rm dn xs n hd h0 h1 hi.rise with ⟨hc, hC⟩ | ⟨rfl, x, q, A, cap, y, rfl, rfl, hx, hy, hC⟩
  · unfold opRead
    rw [if_neg hc]
    have HC := Lib.hid hC
    have CC := Lib.hid hc
    clear hd hF hi hC hc
    generalize missC dn (pts xs) n = c at *
    unfold errV at HC
    go_enter Tryz.func95, Tryz.ntmps95
    go_wp2_with fail
    refine HC.out.mono ?_
    rintro e w1 ⟨rfl, b1⟩
    have B1 := Lib.hid b1
    clear b1 HC
    go_wp2
    go_ret2
    have hB := B1.out.alloc B1.out.size (.cells #[.slice none 0 0, .int .i64 0] 141)
    exact ⟨.slice none 0 0, by rw [errV_ne CC.out]; rfl, OB.nil _ _, hB⟩
  · have hfx := find_x (v := .slice A q.b.length cap) (y := y) rfl hx
    have hu : used (pts (x ++ (q, Value.slice A q.b.length cap) :: y)) ≤ 1000000 := by have := hi.fits; have := hi.room; omega
    have hql : q.b.length ≤ 1000000 := by rw [used_mid] at hu; simp only at hu; omega
    unfold opRead
    rw [if_pos (miss_some hfx), bytes_some hfx]
    have hA := (hd.own (q, .slice A q.b.length cap) (by simp)).rd
    obtain ⟨A', cap', e', hr⟩ := hA
    cases e'
    have hr : RdS w A cap q.b := hr
    have CL : Hid (∀ w1, Below w.heap.size w w1 → Calls Tryz.prog 109 #[.slice A q.b.length cap] w1 fun e w' => ∃ v, e = .returned v ∧ OB w' w1.heap.size v q.b ∧ Below w1.heap.size w1 w') :=
      Lib.hid fun w1 hb => clone w1 A cap q.b (hr.below hb (Nat.le_refl _)) hql
    have HC := Lib.hid hC
    clear hd hF hi hC hx hy hu hfx hr hql
    go_enter Tryz.func95, Tryz.ntmps95
    go_wp2_with fail
    refine HC.out.mono ?_
    rintro e w1 ⟨rfl, b1⟩
    have hB := b1.alloc b1.size (.cells #[.slice A q.b.length cap, .int .i64 (q.s : Nat)] 141)
    have CM := Lib.hid (CL.out _ hB)
    have B1 := Lib.hid hB
    clear b1 HC CL hB
    go_wp2_with fail
    refine CM.out.mono ?_
    rintro e w2 ⟨v, rfl, o2, b2⟩
    have R2 : Hid (Reads w (0, q.b) (.returned (.tuple #[v, .nilIface])) w2) := Lib.hid ⟨v, rfl, owns_mono o2 B1.out.size, B1.out.trans (b2.mono B1.out.size)⟩
    clear o2 b2 CM
    go_wp2
    go_ret2
    exact R2.out

set_option maxRecDepth 100000 in
theorem removeD (w : World) (F : Nat → Prop) (a rm : Nat) (dn : Bool) (L : List Pt) (n : Int) (h : Dsk w F a rm dn L) (hi : Inv rm L) (hl : L.length ≤ 1000) (h0 : -9223372036854775808 ≤ n) (h1 : n ≤ 9223372036854775807) :
    Calls Tryz.prog 94 #[.pointer (some ⟨a, 0, none⟩), .int .i64 n] w (Ops w F a rm dn (opRemove dn L n)) := by
  obtain ⟨b, xs, hd, rfl, hF⟩ := h
  rcases findD w a b rm dn xs n hd h0 h1 hi.rise with ⟨hc, hC⟩ | ⟨rfl, x, q, A, cap, y, rfl, rfl, hx, hy, hC⟩
  · unfold opRemove
    rw [if_neg hc]
    have HD : Hid (Dsk w F a rm dn (pts xs)) := Lib.hid ⟨b, xs, hd, rfl, hF⟩
    have HC := Lib.hid hC
    have CC := Lib.hid hc
    clear hd hF hi hC hc
    generalize missC dn (pts xs) n = c at *
    unfold errV at HC
    go_enter Tryz.func94, Tryz.ntmps94
    go_wp2_with fail
    refine HC.out.mono ?_
    rintro e w1 ⟨rfl, b1⟩
    have B1 := Lib.hid b1
    clear b1 HC
    go_wp2
    go_ret
    have hB := B1.out.alloc B1.out.size (.cells #[.slice none 0 0, .int .i64 0] 141)
    exact ⟨by rw [errV_ne CC.out]; rfl, F, HD.out.below hB, Mv8.still hB⟩
  · have hfx := find_x (v := .slice A q.b.length cap) (y := y) rfl hx
    unfold opRemove
    rw [if_pos (miss_some hfx), del_x rfl hx]
    have hu := hi.fits
    have hrm := hi.room
    have UE : Hid (used (pts (x ++ (q, Value.slice A q.b.length cap) :: y)) = used (pts (x ++ y)) + q.b.length) := Lib.hid (used_mid _ _ _)
    have hd' : DkG w a b rm (used (pts (x ++ (q, Value.slice A q.b.length cap) :: y))) false (x ++ (q, Value.slice A q.b.length cap) :: y).length (ents (x ++ (q, Value.slice A q.b.length cap) :: y)) (x ++ (q, Value.slice A q.b.length cap) :: y) := hd
    rw [UE.out] at hu hd'
    generalize used (pts (x ++ y)) = us at hu UE hd' 
    have HC := Lib.hid hC
    have HD := Lib.hid hd'
    have HF := Lib.hid hF
    have HX := Lib.hid hx
    have HY := Lib.hid hy
    have lt := hd.lt
    clear hd hF hi hC hx hy hl hfx hd'
    go_enter Tryz.func94, Tryz.ntmps94
    go_wp2_with fail
    refine HC.out.mono ?_
    rintro e w1 ⟨rfl, b1⟩
    have d1 := (HD.out.below b1 (Nat.le_refl _)).alloc (.cells #[.slice A q.b.length cap, .int .i64 (q.s : Nat)] 141)
    have hB := b1.alloc b1.size (.cells #[.slice A q.b.length cap, .int .i64 (q.s : Nat)] 141)
    have q1 := d1.c1
    have f1 := d1.f 1
    have s1 := cell_of_block (o := 0) (heap_alloc_new w1 (.cells #[.slice A q.b.length cap, .int .i64 (q.s : Nat)] 141))
    have lt1 : w.heap.size ≤ w1.heap.size := b1.size
    have alt1 : a < w1.heap.size := by omega
    have D2 := (((HD.out.below b1 (Nat.le_refl _)).setU us).alloc (.cells #[.slice A q.b.length cap, .int .i64 (q.s : Nat)] 141)).drew
    have K2 := (((Keeps.of_below b1 (Nat.le_refl _) (foot a b (x ++ (q, .slice A q.b.length cap) :: y))).set ⟨a, 1, none⟩ (.int .i64 (us : Nat)) (.inl (.inl rfl))).alloc (.cells #[.slice A q.b.length cap, .int .i64 (q.s : Nat)] 141)).drew
    have M2 := Lib.hid D2.map
    have KO := Lib.hid (key_of q.n h0 h1)
    have D2 := Lib.hid D2
    have K2 := Lib.hid K2
    have c3 := (HD.out.below b1 (Nat.le_refl _)).c3
    clear b1 HC d1 hB
    go_wp2
    go_region
    go_wp2_with (first | (at_delete; refine wpList_delete_own _ rfl (.tmp 29) (.tmp 30) 72 3 rfl 141 keyed Tryz.underlying72 RV b _ _ rfl M2.out (.int .i64 q.n) _ rfl KO.out ?_; intro w2 hown2 hturn2) | fail)
    go_ret
    obtain ⟨d3, _, _⟩ := (D2.out.turned hown2 hturn2).less
    have d4 := d3.turned (w' := w2) (n' := (x ++ (q, Value.slice A q.b.length cap) :: y).length) (D' := ents (x ++ y)) (by rw [← del_ents (q := (q, .slice A q.b.length cap)) rfl HX.out HY.out]; exact hown2) hown2.turned_refl
    refine ⟨rfl, foot a b (x ++ y), ⟨b, _, ?_, rfl, fun g => Iff.rfl⟩, Mv8.of HF.out (K2.out.trans (map_turned hturn2 (fun g => g = b) rfl) (fun g e => .inl (.inr (.inl e)))) (fun z hz g hg => .inl (.inr (.inr ⟨z, ?_, hg⟩)))⟩
    · have hus : us = used (pts (x ++ y)) := by have := UE.out; rw [used_mid] at this; simp only at this; omega
      have d5 := d4.tight
      rw [hus] at d5
      exact d5
    · rcases List.mem_append.1 hz with hz | hz
      · exact List.mem_append.2 (.inl hz)
      · exact List.mem_append.2 (.inr (by simp [hz]))
end Go.Proofs.YtgeahpfdaehjaaaGreatDoor
namespace Go.Proofs.YtgeahpfdaehjaaaGreatDoor
open Go.ChangeShapes Go.WideShapes Go.ChangeAt Go.RowKit Go.Maps Go.Sort Go.Shelf
set_option linter.unusedVariables false

theorem sortsA (m : Nat) : AnyZI.SortsIn Tryz.prog Tryz.sortedA_ren Fence.wide m :=
  ⟨fun blk off cap ss W hH hblk hsz => callsIn_wide.2 (Tryz.slices_Sort_int blk off cap ss W hH hblk hsz),
   fun p cap W => callsIn_wide.2 (Tryz.slices_Sort_int_none p cap W)⟩
def nums (L : List Pt) : List Int := L.map (·.n)
theorem keys_ents (xs : List (Pt × Value)) : intKeys (ents xs) = nums (pts xs) := by
  unfold nums pts
  show (xs.map ent).map (fun p => Go.intOf p.1) = _
  rw [List.map_map, List.map_map]
  rfl
theorem sorted_nums {L : List Pt} (h : Rises L) {ss : List Int} (hp : ss.Perm (nums L)) : ss.mergeSort (fun x y => decide (x ≤ y)) = nums L := by
  rw [mergeSort_of_perm_i hp]
  have tr : ∀ a b c : Int, leI a b = true → leI b c = true → leI a c = true := fun a b c h1 h2 => by simp only [leI, decide_eq_true_eq] at *; exact Int.le_trans h1 h2
  have to : ∀ a b : Int, (leI a b || leI b a) = true := fun a b => by simp only [leI, Bool.or_eq_true, decide_eq_true_eq]; exact Int.le_total a b
  refine List.Perm.eq_of_pairwise (le := fun a b => leI a b = true) (fun a b _ _ h1 h2 => ?_) (List.pairwise_mergeSort tr to _) (List.pairwise_map.2 (h.imp fun {a b} h => ?_)) (List.mergeSort_perm _ leI)
  · simp only [leI, decide_eq_true_eq] at h1 h2
    exact Int.le_antisymm h1 h2
  · simp only [leI, decide_eq_true_eq]; omega
/-- Whole numbers in a row of one's own. -/
def OI (w : World) (B : Nat) (v : Value) (l : List Int) : Prop := w.ownsRow B 3 1 v l.length (l.map encZ)
set_option maxHeartbeats 1000000 in
theorem partsD (w : World) (F : Nat → Prop) (a rm : Nat) (dn : Bool) (L : List Pt) (h : Dsk w F a rm dn L) (hi : Rises L) (hl : L.length ≤ 1000) :
    Calls Tryz.prog 48 #[.pointer (some ⟨a, 0, none⟩)] w fun e w' => ∃ v, e = .returned v ∧ OI w' w.heap.size v (nums L) ∧ Below w.heap.size w w' := by
  obtain ⟨b, xs, hd, rfl, hF⟩ := h
  refine (callsIn_wide (n := 6)).1 ?_
  have hown := hd.map
  have hbl := hown.lt
  have hsz : Maps.size (ents xs) = xs.length := by show (xs.map ent).length = _; simp
  have hxl : xs.length ≤ 1000 := by simpa using hl
  have hseq : SeqGives Fence.wide 2 Tryz.prog 100 #[.pointer (some ⟨w.heap.size, 0, none⟩)] encZ (fun ss => ss.Perm (intKeys (ents xs))) (Maps.size (ents xs)) (w.alloc (.cells #[.map (some b)] 72)) :=
    AnyZI.keys_gives (ρ := Tryz.keysA_ren) { Tryz.keysA with } Fence.wide _ trivial rfl (by omega) w.heap.size b xs.length (ents xs) _ (by simp) (by simp) (hown.alloc _)
  have cK : ∀ mb W, CallsIn Fence.wide 5 Tryz.prog 76 #[.map mb] W fun e w' => e = .returned (.func (.func 100) #[] #[.pointer (some ⟨W.heap.size, 0, none⟩)]) ∧ w' = W.alloc (.cells #[.map mb] 72) := fun mb W => AnyZI.keys_in Tryz.keysA Fence.wide 5 trivial rfl mb W
  have cS := AnyZI.sorted_in Tryz.sortedA Fence.wide 5 trivial trivial trivial trivial rfl (by omega) (sortsA _) (enters_of Tryz.func99 (by kernel_rfl) rfl) 100 #[.pointer (some ⟨w.heap.size, 0, none⟩)] trivial (enters_of Tryz.func100 (by kernel_rfl) rfl) _ _ (by rw [hsz]; unfold maxLen; omega) (by rw [hsz]; omega) _ hseq
  change CallsIn _ _ Tryz.prog 75 _ _ _ at cS
  have hfK : Fence.wide.fn 76 := trivial
  have hfS : Fence.wide.fn 75 := trivial
  have c3 := hd.c3
  clear hown hd hF
  refine callsIn_of_wp Tryz.func48 rfl trivial ?_ rfl
  simp only [Tryz.ntmps48, List.size_toArray, List.length_cons, List.length_nil, Nat.reduceAdd, Nat.reduceSub, Array.replicate_succ, Array.replicate_zero, List.push_toArray, List.append_toArray, List.nil_append, List.cons_append]
  gi_wp2_with (first
    | (gi_at_call 76; refine (cK _ _).mono ?_; rintro e w' ⟨rfl, rfl⟩)
    | (gi_at_call 75; refine cS.mono ?_; rintro e w' ⟨v, ss, rfl, hS, hrow, hnil, hb⟩))
  go_ret
  rw [keys_ents] at hS
  have hlen := hS.length_eq
  rw [sorted_nums hi hS, hlen] at hrow
  exact ⟨v, rfl, owns_mono hrow (by simp), ((Below.refl _ w).alloc (Nat.le_refl _) _).trans (hb.mono (by simp))⟩
end Go.Proofs.YtgeahpfdaehjaaaGreatDoor
namespace Go.Proofs.YtgeahpfdaehjaaaGreatDoor
open Go.ChangeShapes Go.WideShapes Go.ChangeAt Go.RowKit
set_option linter.unusedVariables false

/-- How many are kept: below 0, none. -/
def keepN (k : Int) : Nat := k.toNat
def opCrash (dn : Bool) (L : List Pt) (k : Int) : List Pt := if dn then L else crash (keepN k) L
def Crashes (w : World) (F : Nat → Prop) (a rm : Nat) (dn : Bool) (L : List Pt) (k : Int) (e : Ending) (w' : World) : Prop :=
  e = .returned (.tuple #[]) ∧ ∃ F', Dsk w' F' a rm true (opCrash dn L k) ∧ Mv8 w F w' F'
theorem oi_shape {w : World} {B : Nat} {v : Value} {l : List Int} (h : OI w B v l) : ∃ A cap, v = .slice A l.length cap ∧ ∀ (i : Nat) (n : Int), l[i]? = some n → ∃ g, A = some ⟨g, 0, none⟩ := by
  rcases h.2 with ⟨rfl, e⟩ | ⟨g, cap, cur, rfl, _⟩
  · obtain rfl := List.length_eq_zero_iff.1 e
    exact ⟨none, 0, rfl, fun i n h => by simp at h⟩
  · exact ⟨_, cap, rfl, fun i n _ => ⟨g, rfl⟩⟩
theorem oi_cell {w : World} {B g m cap : Nat} {l : List Int} (h : OI w B (.slice (some ⟨g, 0, none⟩) m cap) l) {i : Nat} {n : Int} (hn : l[i]? = some n) : w.cell? ⟨g, i, none⟩ = some (.int .i64 n) := by
  have := World.ownsRow.cells h (g := g) rfl i _ (by rw [List.getElem?_map, hn]; rfl)
  rw [Addr.add_lit, Nat.zero_add] at this
  exact this
theorem oi_lt {w : World} {B : Nat} {v : Value} {l : List Int} (h : OI w B v l) : ∀ g, v.ownBlock = some g → B ≤ g ∧ g < w.heap.size := fun g hg => World.ownsRow.lt h g hg
theorem nums_length (L : List Pt) : (nums L).length = L.length := by unfold nums; rw [List.length_map]
/-- Half way: the parts ahead have been dealt with. -/
structure Cr (w : World) (F : Nat → Prop) (a rm : Nat) (L : List Pt) (keep : Nat) (v : Value) (k lf : Nat) (wx : World) : Prop where
  mid : ∃ F' X, Dsk wx F' a rm true (X ++ L.drop k) ∧ X.length = k ∧ crash keep L = X ++ crash lf (L.drop k) ∧ Mv8 w F wx F' ∧ Inv rm (X ++ L.drop k) ∧ ∀ g, v.ownBlock = some g → ¬ F' g
  row : OI wx 0 v (nums L)
/-- What a round meets: the part that is next, what the map tells of it, and what 'last' then comes to. -/
theorem Cr.round {w wx : World} {F : Nat → Prop} {a rm : Nat} {L : List Pt} {keep k lf : Nat} {v : Value} (h : Cr w F a rm L keep v k lf wx) (hkl : k < L.length) (hl : L.length ≤ 1000) :
    ∃ b q A cap, L[k]? = some q ∧ q.s ≤ q.b.length ∧ q.b.length ≤ 65536 ∧ 0 ≤ q.n ∧ q.n ≤ 9223372036854775807 ∧ a < wx.heap.size ∧ wx.cell? ⟨a, 3, none⟩ = some (.map (some b)) ∧
      (Instr.lookup 72 (.map (some b)) (.int .i64 q.n) false).run Tryz.prog wx = .ok (.agg #[.slice A q.b.length cap, .int .i64 (q.s : Nat)]) wx ∧
      ∀ o, Calls Tryz.prog 85 #[.pointer (some ⟨a, 0, none⟩), .int .i64 q.n, .int .i64 ((q.s + min lf (q.b.length - q.s) : Nat) : Int)] (wx.alloc o) fun e w' => e = .returned (.tuple #[]) ∧ Cr w F a rm L keep v (k + 1) (lf - min lf (q.b.length - q.s)) w' := by
  obtain ⟨⟨F', X, hd, hX, hcr, hm, hi, hfar⟩, hrow⟩ := h
  obtain ⟨p, hp⟩ : ∃ p, L[k]? = some p := ⟨L[k], List.getElem?_eq_getElem hkl⟩
  have hdr : L.drop k = p :: L.drop (k + 1) := by rw [List.drop_eq_getElem_cons hkl]; rw [List.getElem?_eq_getElem hkl] at hp; cases hp; rfl
  rw [hdr] at hd hcr hi
  have hfit : used X + (p.b.length + used (L.drop (k + 1))) ≤ rm := by have := hi.fits; rw [used_app, used_cons] at this; exact this
  have hrm := hi.room
  have hsyn := hi.syn p (by simp)
  have hlo := hi.lo p (by simp)
  have hhi := hi.hi p (by simp)
  have hfits := hi.fits
  obtain ⟨b, ys, hdk, hys, hF'⟩ := hd
  obtain ⟨x, r, rfl, hx, hr⟩ := List.map_eq_append_iff.1 hys
  obtain ⟨z, y, rfl, rfl, hyy⟩ := List.map_eq_cons_iff.1 hr
  obtain ⟨q, u⟩ := z
  obtain ⟨A, cap, e⟩ := owns_shape (hdk.own (q, u) (by simp))
  simp only at e hp hfit hsyn hlo hhi hcr hi hfits hdr
  subst e
  obtain ⟨hX1, hX2⟩ := hi.rise.mid
  have hx1 : ∀ z ∈ x, z.1.n < q.n := fun z hz => hX1 z.1 (by rw [← hx]; exact List.mem_map.2 ⟨z, hz, rfl⟩)
  have hy1 : ∀ z ∈ y, q.n < z.1.n := fun z hz => hX2 z.1 (by rw [← hyy]; exact List.mem_map.2 ⟨z, hz, rfl⟩)
  refine ⟨b, q, A, cap, hp, hsyn, by omega, hlo, hhi, hdk.lt, hdk.c3, look_has hdk.map (by omega) hhi rfl hx1, fun o => ?_⟩
  have hlen : (x ++ (q, Value.slice A q.b.length cap) :: y).length ≤ 1000 := by
    have h1 := congrArg List.length hx
    have h2 := congrArg List.length hyy
    rw [List.length_map] at h1 h2
    rw [List.length_drop] at h2
    simp only [List.length_append, List.length_cons]
    omega
  have hus : used (pts (x ++ (q, Value.slice A q.b.length cap) :: y)) ≤ 1000000 := by rw [hys]; simp only; omega
  refine (last_any (wx.alloc o) a b rm true x y q _ (q.s + min lf (q.b.length - q.s)) (hdk.alloc o) (by omega) hhi hx1 hy1 hlen hus (by omega)).mono ?_
  rintro e w' ⟨rfl, v', d', k', l'⟩
  have hk' : Keeps (foot a b (x ++ (q, Value.slice A q.b.length cap) :: y)) wx w' := ((Keeps.refl _ wx).alloc o).trans k' (fun g hg => .inl hg)
  have hsz : wx.heap.size < (wx.alloc o).heap.size := by simp
  have hm' := Mv8.of (w := wx) (w' := w') (F := F') (a := a) (b := b) (xs := x ++ (q, Value.slice A q.b.length cap) :: y) (xs' := x ++ (⟨q.n, q.b.take (q.s + min lf (q.b.length - q.s)), q.s + min lf (q.b.length - q.s)⟩, v') :: y) hF' hk' (foot_mid fun g hg => by
    rcases l' g hg with e | e
    · exact .inl e
    · exact .inr (by omega))
  have hvl := oi_lt hrow
  have hXp : pts x = X := hx
  have hyp : pts y = L.drop (k + 1) := hyy
  refine ⟨rfl, ⟨⟨_, X ++ [⟨q.n, q.b.take (q.s + min lf (q.b.length - q.s)), q.s + min lf (q.b.length - q.s)⟩], ⟨b, _, d', ?_, fun g => Iff.rfl⟩, by rw [List.length_append, List.length_singleton, hX], ?_, hm.trans hm', ?_, fun g hg hf => ?_⟩, ?_⟩⟩
  · rw [pts_mid, hXp, hyp, List.append_assoc]; rfl
  · rw [hcr, crash, List.append_assoc]; rfl
  · rw [List.append_assoc]
    refine hi.mid (p := ⟨q.n, q.b.take (q.s + min lf (q.b.length - q.s)), q.s + min lf (q.b.length - q.s)⟩) rfl ?_ ?_
    · simp only [List.length_take]; omega
    · simp only [List.length_take]; omega
  · rcases hm'.own g hf with e | e
    · exact hfar g hg e
    · have := (hvl g hg).2; omega
  · exact owns_keeps hrow hm'.keeps (fun g hg => hfar g hg)
end Go.Proofs.YtgeahpfdaehjaaaGreatDoor
namespace Go.Proofs.YtgeahpfdaehjaaaGreatDoor
open Go.ChangeShapes Go.WideShapes Go.ChangeAt Go.RowKit
set_option linter.unusedVariables false

theorem inv_upd {rm : Nat} {L : List Pt} {n : Int} {f : Option Pt → Pt} (h : Inv rm L) (hf : ∀ q, q.n = n → q ∈ L → (f (some q)).n = n ∧ (f (some q)).s ≤ (f (some q)).b.length ∧ (f (some q)).b.length ≤ rm - used L + q.b.length)
    (hn : find n L = none → (f none).n = n ∧ (f none).s ≤ (f none).b.length ∧ (f none).b.length ≤ rm - used L ∧ 0 ≤ n ∧ n ≤ 9223372036854775807) : Inv rm (upd n f L) := by
  have hs := split n L h.rise
  cases hs with
  | has x q y hq hx hy =>
    rw [upd_has hq hx]
    obtain ⟨h1, h2, h3⟩ := hf q hq (by simp)
    have hu := h.fits
    rw [used_app, used_cons] at h3 hu
    exact h.mid (by rw [h1, hq]) h2 (by omega)
  | no x y hx hy =>
    rw [upd_no hy hx]
    obtain ⟨h1, h2, h3, h4, h5⟩ := hn (find_no hx hy)
    have hu := h.fits
    rw [used_app] at h3 hu
    exact h.into (fun q hq => by rw [h1]; exact hx q hq) (fun q hq => by rw [h1]; exact hy q hq) (by omega) (by omega) h2 (by omega)
theorem upd_length (n : Int) (f : Option Pt → Pt) : ∀ L, (upd n f L).length ≤ L.length + 1
  | [] => by simp [upd]
  | q :: r => by
    have := upd_length n f r
    unfold upd
    split
    · simp
    · split
      · simp
      · simp only [List.length_cons]; omega
theorem upd_here (n : Int) (f : Option Pt → Pt) : ∀ L, Rises L → find n L ≠ none → (upd n f L).length = L.length
  | [], _, h => absurd rfl h
  | q :: r, hr, h => by
    obtain ⟨h1, h2⟩ := List.pairwise_cons.1 hr
    unfold upd
    unfold find at h
    split
    · rfl
    · rename_i hne
      rw [if_neg hne] at h
      split
      · rename_i hlt
        exact absurd (find_none_of fun p hp => by have := h1 p hp; omega) h
      · rw [List.length_cons, upd_here n f r h2 h, List.length_cons]
theorem del_length (n : Int) : ∀ L, (del n L).length ≤ L.length
  | [] => Nat.le_refl _
  | q :: r => by
    have := del_length n r
    unfold del
    split
    · simp
    · simp only [List.length_cons]; omega
theorem append_inv {rm : Nat} {dn : Bool} {L : List Pt} {n : Int} {bs : List UInt8} (h : Inv rm L) (hn : n ≤ 9223372036854775807) : Inv rm (opAppend rm dn L n bs).2 := by
  unfold opAppend
  split
  · exact h
  · split
    · exact h
    · split
      · exact h
      · refine inv_upd h (fun q hq hm => ⟨hq, ?_, ?_⟩) (fun _ => ⟨rfl, Nat.zero_le _, ?_, by omega, hn⟩)
        · have := h.syn q hm
          simp only [joinP, List.length_append]; omega
        · simp only [joinP, List.length_append]; omega
        · simp only [joinP]; omega
theorem append_len (rm : Nat) (dn : Bool) (L : List Pt) (n : Int) (bs : List UInt8) : (opAppend rm dn L n bs).2.length ≤ L.length + 1 := by
  unfold opAppend
  split
  · exact Nat.le_succ _
  · split
    · exact Nat.le_succ _
    · split
      · exact Nat.le_succ _
      · exact upd_length _ _ _
theorem miss_find {dn : Bool} {L : List Pt} {n : Int} (h : missC dn L n = 0) : find n L ≠ none := by
  intro e
  unfold missC at h
  rw [e] at h
  cases dn <;> simp at h
theorem sync_inv {rm : Nat} {dn : Bool} {L : List Pt} {n : Int} (h : Inv rm L) : Inv rm (opSync dn L n).2 := by
  unfold opSync
  split
  · rename_i hm
    exact inv_upd h (fun q hq _ => ⟨hq, Nat.le_refl _, by simp only [syncP]; omega⟩) (fun e => absurd e (miss_find hm))
  · exact h
theorem sync_len {rm : Nat} {dn : Bool} {L : List Pt} {n : Int} (h : Inv rm L) : (opSync dn L n).2.length = L.length := by
  unfold opSync
  split
  · rename_i hm
    exact upd_here _ _ _ h.rise (miss_find hm)
  · rfl
theorem cut_inv {rm : Nat} {dn : Bool} {L : List Pt} {n m : Int} (h : Inv rm L) : Inv rm (opCut dn L n m).2 := by
  unfold opCut
  split
  · rename_i hm
    split
    · exact h
    · rename_i hc
      refine inv_upd h (fun q hq hq' => ⟨hq, ?_, ?_⟩) (fun e => absurd e (miss_find hm))
      · have hs := split n L h.rise
        have hl : lenOf n L = q.b.length := by
          cases hs with
          | has x p y hp hx hy =>
            have hpq : q = p := by
              rcases List.mem_append.1 hq' with h1 | h1
              · have := hx q h1; omega
              · rcases List.mem_cons.1 h1 with h1 | h1
                · exact h1
                · have := hy q h1; omega
            rw [hpq]
            exact len_some (find_has hp hx)
          | no x y hx hy => exact absurd (find_no hx hy) (miss_find hm)
        simp only [cutP, List.length_take]
        omega
      · simp only [cutP, List.length_take]; omega
  · exact h
theorem cut_len {rm : Nat} {dn : Bool} {L : List Pt} {n m : Int} (h : Inv rm L) : (opCut dn L n m).2.length = L.length := by
  unfold opCut
  split
  · rename_i hm
    split
    · rfl
    · exact upd_here _ _ _ h.rise (miss_find hm)
  · rfl
theorem remove_inv {rm : Nat} {dn : Bool} {L : List Pt} {n : Int} (h : Inv rm L) : Inv rm (opRemove dn L n).2 := by
  unfold opRemove
  split
  · rename_i hm
    have hs := split n L h.rise
    cases hs with
    | has x q y hq hx hy => show Inv rm (del n _); rw [del_has hq hx]; exact h.out
    | no x y hx hy => exact absurd (find_no hx hy) (miss_find hm)
  · exact h
theorem remove_len (dn : Bool) (L : List Pt) (n : Int) : (opRemove dn L n).2.length ≤ L.length := by
  unfold opRemove
  split
  · exact del_length _ _
  · exact Nat.le_refl _
theorem crash_inv {rm : Nat} {dn : Bool} {L : List Pt} {k : Int} (h : Inv rm L) : Inv rm (opCrash dn L k) := by
  unfold opCrash
  split
  · exact h
  · exact h.crash _
theorem opCrash_len (dn : Bool) (L : List Pt) (k : Int) : (opCrash dn L k).length = L.length := by
  unfold opCrash
  split
  · rfl
  · exact crash_length _ _

theorem Ops.out {w w' : World} {F : Nat → Prop} {a rm : Nat} {dn : Bool} {r : Nat × List Pt} {e : Ending} (h : Ops w F a rm dn r e w') : e = .returned (ErrV r.1) ∧ ∃ F', Dsk w' F' a rm dn r.2 ∧ Mv8 w F w' F' := h
/-- A row of two bytes, laid. -/
theorem two_row (w : World) (x y : UInt8) : RdS (w.alloc (.cells #[.int .u8 x.toNat, .int .u8 y.toNat] 5 (2, 3))) (some ⟨w.heap.size, 0, none⟩) 2 [x, y] :=
  by
  refine ⟨Nat.le_refl _, fun e => (by cases e), ?_⟩
  intro ad ha i c hc
  cases ha
  rw [Addr.add_lit, Nat.zero_add, cell_of_block (heap_alloc_new w _)]
  match i, hc with
  | 0, hc => cases hc; rfl
  | 1, hc => cases hc; rfl
theorem Mv8.below {w w' : World} {F F' : Nat → Prop} {B : Nat} (h : Mv8 w F w' F') (hF : ∀ g, F g → B ≤ g) (hB : B ≤ w.heap.size) : Below B w w' ∧ ∀ g, F' g → B ≤ g :=
  ⟨h.keeps.below hF hB, fun g hg => by
    rcases h.own g hg with e | e
    · exact hF g e
    · omega⟩
/-- A disk that is the call's own, and what was there is as it was. -/
def Own8 (W w : World) (a rm : Nat) (dn : Bool) (L : List Pt) : Prop := ∃ F, Dsk w F a rm dn L ∧ (∀ g, F g → W.heap.size ≤ g) ∧ Below W.heap.size W w
theorem Own8.step {W w w' : World} {F F' : Nat → Prop} {a rm : Nat} {dn : Bool} {L : List Pt} (hF : ∀ g, F g → W.heap.size ≤ g) (hB : Below W.heap.size W w) (hd : Dsk w' F' a rm dn L) (hm : Mv8 w F w' F') : Own8 W w' a rm dn L := by
  obtain ⟨h1, h2⟩ := hm.below hF hB.size
  exact ⟨F', hd, h2, hB.trans h1⟩
theorem Own8.still {W w w' : World} {a rm : Nat} {dn : Bool} {L : List Pt} (h : Own8 W w a rm dn L) (hb : Below w.heap.size w w') : Own8 W w' a rm dn L := by
  obtain ⟨F, h1, h2, h3⟩ := h
  exact ⟨F, h1.below hb, h2, h3.trans (hb.mono h3.size)⟩
section
variable {W w : World} {a rm : Nat} {dn : Bool} {L : List Pt}
theorem Own8.new (rm : Nat) (h0 : 1 ≤ rm) (h1 : rm ≤ 65536) (hb : Below W.heap.size W w) :
    Calls Tryz.prog 6 #[.int .i64 (rm : Nat)] w fun e w' => ∃ a, e = .returned (.tuple #[.pointer (some ⟨a, 0, none⟩), .nilIface]) ∧ Own8 W w' a rm false [] ∧ Below w.heap.size w w' := by
  refine (new_good w rm h0 h1).mono ?_
  rintro e w' ⟨a, F, rfl, hd, hb', hF⟩
  exact ⟨a, rfl, ⟨F, hd, fun g hg => Nat.le_trans hb.size (hF g hg), hb.trans (hb'.mono hb.size)⟩, hb'⟩
theorem Own8.append (h : Own8 W w a rm dn L) (n : Int) {B : Option Addr} {cb : Nat} {bs : List UInt8} (hr : RdS w B cb bs) (hi : Inv rm L) (hl : L.length ≤ 1000) (hn : n ≤ 9223372036854775807) (hb : bs.length ≤ 1000000) :
    Calls Tryz.prog 55 #[.pointer (some ⟨a, 0, none⟩), .int .i64 n, .slice B bs.length cb] w fun e w' => e = .returned (ErrV (opAppend rm dn L n bs).1) ∧ Own8 W w' a rm dn (opAppend rm dn L n bs).2 := by
  obtain ⟨F, h1, h2, h3⟩ := h
  refine (appendD w F a rm dn L n B cb bs h1 hr hi hl hn hb).mono ?_
  rintro e w' ⟨rfl, F', d, m⟩
  exact ⟨rfl, Own8.step h2 h3 d m⟩
theorem Own8.sync (h : Own8 W w a rm dn L) (n : Int) (hi : Inv rm L) (hl : L.length ≤ 1000) (h0 : -9223372036854775808 ≤ n) (h1 : n ≤ 9223372036854775807) :
    Calls Tryz.prog 58 #[.pointer (some ⟨a, 0, none⟩), .int .i64 n] w fun e w' => e = .returned (ErrV (opSync dn L n).1) ∧ Own8 W w' a rm dn (opSync dn L n).2 := by
  obtain ⟨F, h2, h3, h4⟩ := h
  refine (syncD w F a rm dn L n h2 hi hl h0 h1).mono ?_
  rintro e w' ⟨rfl, F', d, m⟩
  exact ⟨rfl, Own8.step h3 h4 d m⟩
theorem Own8.up (h : Own8 W w a rm dn L) :
    Calls Tryz.prog 46 #[.pointer (some ⟨a, 0, none⟩)] w fun e w' => e = .returned (.tuple #[]) ∧ Own8 W w' a rm false L := by
  obtain ⟨F, h2, h3, h4⟩ := h
  refine (up_walk w F a rm dn L h2).mono ?_
  rintro e w' ⟨rfl, d, m⟩
  exact ⟨rfl, Own8.step h3 h4 d m⟩
theorem Own8.read (h : Own8 W w a rm dn L) (n : Int) (hi : Inv rm L) (h0 : -9223372036854775808 ≤ n) (h1 : n ≤ 9223372036854775807) :
    Calls Tryz.prog 95 #[.pointer (some ⟨a, 0, none⟩), .int .i64 n] w fun e w' => ∃ A cap, e = .returned (.tuple #[.slice A (opRead dn L n).2.length cap, ErrV (opRead dn L n).1]) ∧ RdS w' A cap (opRead dn L n).2 ∧ Own8 W w' a rm dn L ∧ Below w.heap.size w w' := by
  obtain ⟨F, h2, h3, h4⟩ := h
  refine (readD w F a rm dn L n h2 hi h0 h1).mono ?_
  rintro e w' ⟨v, rfl, o, b⟩
  obtain ⟨A, cap, rfl, r⟩ := o.rd
  exact ⟨A, cap, rfl, r, Own8.still ⟨F, h2, h3, h4⟩ b, b⟩
end
def exL1 : List Pt := [⟨0, [97, 98], 0⟩]
def exL2 : List Pt := [⟨0, [97, 98], 2⟩]
def exL3 : List Pt := [⟨0, [97, 98, 99, 100], 2⟩]
def exL4 : List Pt := [⟨0, [97, 98, 99], 3⟩]
theorem ex1 : opAppend 10 false [] 0 [97, 98] = (0, exL1) := rfl
theorem ex2 : opSync false exL1 0 = (0, exL2) := rfl
theorem ex3 : opAppend 10 false exL2 0 [99, 100] = (0, exL3) := rfl
theorem ex4 : opCrash false exL3 1 = exL4 := rfl
theorem ex5 : opAppend 10 true exL4 0 [] = (10, exL4) := rfl
theorem ex6 : opRead false exL4 0 = (0, [97, 98, 99]) := rfl

theorem conv_two (w : World) (x y : Value) : (convert 64 64 (.slice (some ⟨w.heap.size, 0, none⟩) 2 2)).run Tryz.prog (w.alloc (.cells #[x, y] 5)) = .ok (.slice (some ⟨w.heap.size, 0, none⟩) 2 2) (w.alloc (.cells #[x, y] 5 (2, 3))) :=
  Lib.run_convert_bytes_const (P := Tryz.prog) w 64 5 #[x, y] 2 2 Tryz.underlying64 Tryz.underlying5
theorem ErrV_code (c : Nat) (h : c ≠ 0) : ErrV c = .iface 41 (.int .i64 (c : Nat)) := errV_ne h
end Go.Proofs.YtgeahpfdaehjaaaGreatDoor
