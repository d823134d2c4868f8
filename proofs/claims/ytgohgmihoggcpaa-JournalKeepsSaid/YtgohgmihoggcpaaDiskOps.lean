/-
  Layer 8 (disk): Append, Sync, Cut, Remove, Read, Used, Up, as what they make of the parts.
-/
import Derived.Test.YtgohgmihoggcpaaDiskBase
namespace Go.Proofs.Ytgohgmihoggcpaa
open Go.ChangeShapes Go.WideShapes Go.ChangeAt Go.RowKit
set_option linter.unusedVariables false

/-! ### what each comes to: an error's number (0: none), and the parts -/
def joinP (n : Int) (bs : List UInt8) : Option Pt → Pt
  | some p => ⟨p.n, p.b ++ bs, p.s⟩
  | none => ⟨n, bs, 0⟩
def syncP (n : Int) : Option Pt → Pt
  | some p => ⟨p.n, p.b, p.b.length⟩
  | none => ⟨n, [], 0⟩
def cutP (n : Int) (m : Nat) : Option Pt → Pt
  | some p => ⟨p.n, p.b.take m, m⟩
  | none => ⟨n, [], 0⟩
def opAppend (rm : Nat) (dn : Bool) (L : List Pt) (n : Int) (bs : List UInt8) : Nat × List Pt :=
  if dn then (10, L) else if n < 0 then (1, L) else if rm - used L < bs.length then (6, L) else (0, upd n (joinP n bs) L)
/-- Is there a part of this number, and is the disk up? An error's number, or 0. -/
def missC (dn : Bool) (L : List Pt) (n : Int) : Nat := if dn then 10 else if (find n L).isNone then 4 else 0
def opSync (dn : Bool) (L : List Pt) (n : Int) : Nat × List Pt := if missC dn L n = 0 then (0, upd n (syncP n) L) else (missC dn L n, L)
def lenOf (n : Int) (L : List Pt) : Nat := match find n L with | some p => p.b.length | none => 0
def opCut (dn : Bool) (L : List Pt) (n m : Int) : Nat × List Pt :=
  if missC dn L n = 0 then (if m < 0 ∨ (lenOf n L : Int) < m then (1, L) else (0, upd n (cutP n m.toNat) L)) else (missC dn L n, L)
def opRemove (dn : Bool) (L : List Pt) (n : Int) : Nat × List Pt := if missC dn L n = 0 then (0, del n L) else (missC dn L n, L)
def bytesOf (n : Int) (L : List Pt) : List UInt8 := match find n L with | some p => p.b | none => []
def opRead (dn : Bool) (L : List Pt) (n : Int) : Nat × List UInt8 := if missC dn L n = 0 then (0, bytesOf n L) else (missC dn L n, [])
theorem miss_some {L : List Pt} {n : Int} {q : Pt} (h : find n L = some q) : missC false L n = 0 := by unfold missC; rw [h]; rfl
theorem miss_none {L : List Pt} {n : Int} (h : find n L = none) : missC false L n = 4 := by unfold missC; rw [h]; rfl
theorem len_some {L : List Pt} {n : Int} {q : Pt} (h : find n L = some q) : lenOf n L = q.b.length := by unfold lenOf; rw [h]
theorem bytes_some {L : List Pt} {n : Int} {q : Pt} (h : find n L = some q) : bytesOf n L = q.b := by unfold bytesOf; rw [h]
/-- An error's number, as an error. -/
def ErrV (c : Nat) : Value := if c = 0 then .nilIface else errV c

/-! ### lists of parts with their rows -/
theorem splitX (n : Int) (xs : List (Pt × Value)) (h : Rises (pts xs)) :
    (∃ x q v y, xs = x ++ (q, v) :: y ∧ q.n = n ∧ (∀ z ∈ x, z.1.n < n) ∧ ∀ z ∈ y, n < z.1.n) ∨ (∃ x y, xs = x ++ y ∧ (∀ z ∈ x, z.1.n < n) ∧ ∀ z ∈ y, n < z.1.n) := by
  have hs := split n (pts xs) h
  generalize hL : pts xs = L at hs
  cases hs with
  | has X q Y hn hX hY =>
    obtain ⟨x, r, rfl, rfl, hr⟩ := List.map_eq_append_iff.1 hL
    obtain ⟨z, y, rfl, rfl, rfl⟩ := List.map_eq_cons_iff.1 hr
    exact .inl ⟨x, z.1, z.2, y, rfl, hn, pts_n (T := fun k => k < n) hX, pts_n (T := fun k => n < k) hY⟩
  | no X Y hX hY =>
    obtain ⟨x, y, rfl, rfl, rfl⟩ := List.map_eq_append_iff.1 hL
    exact .inr ⟨x, y, rfl, pts_n (T := fun k => k < n) hX, pts_n (T := fun k => n < k) hY⟩
theorem all_pts {xs : List (Pt × Value)} {T : Int → Prop} (h : ∀ z ∈ xs, T z.1.n) : ∀ p ∈ pts xs, T p.n := fun p hp => by
  obtain ⟨z, hz, rfl⟩ := List.mem_map.1 hp
  exact h z hz
theorem pts_app (x y : List (Pt × Value)) : pts (x ++ y) = pts x ++ pts y := List.map_append
theorem pts_mid (x y : List (Pt × Value)) (q : Pt × Value) : pts (x ++ q :: y) = pts x ++ q.1 :: pts y := by unfold pts; rw [List.map_append, List.map_cons]
section
variable {n : Int} {x y : List (Pt × Value)} {q : Pt} {v : Value}
theorem upd_x (f : Option Pt → Pt) (hn : q.n = n) (hx : ∀ z ∈ x, z.1.n < n) (v' : Value) : upd n f (pts (x ++ (q, v) :: y)) = pts (x ++ (f (some q), v') :: y) := by
  rw [pts_mid, pts_mid]; exact upd_has hn (all_pts (T := fun k => k < n) hx)
theorem upd_n (f : Option Pt → Pt) (hx : ∀ z ∈ x, z.1.n < n) (hy : ∀ z ∈ y, n < z.1.n) (v : Value) : upd n f (pts (x ++ y)) = pts (x ++ (f none, v) :: y) := by
  rw [pts_mid, pts_app]; exact upd_no (all_pts (T := fun k => n < k) hy) (all_pts (T := fun k => k < n) hx)
theorem del_x (hn : q.n = n) (hx : ∀ z ∈ x, z.1.n < n) : del n (pts (x ++ (q, v) :: y)) = pts (x ++ y) := by
  rw [pts_mid, pts_app]; exact del_has hn (all_pts (T := fun k => k < n) hx)
theorem find_x (hn : q.n = n) (hx : ∀ z ∈ x, z.1.n < n) : find n (pts (x ++ (q, v) :: y)) = some q := by
  rw [pts_mid]; exact find_has hn (all_pts (T := fun k => k < n) hx)
theorem find_n (hx : ∀ z ∈ x, z.1.n < n) (hy : ∀ z ∈ y, n < z.1.n) : find n (pts (x ++ y)) = none := by
  rw [pts_app]; exact find_no (all_pts (T := fun k => k < n) hx) (all_pts (T := fun k => n < k) hy)
end
theorem ne_of (n : Int) {x y : List (Pt × Value)} (hx : ∀ z ∈ x, z.1.n < n) (hy : ∀ z ∈ y, n < z.1.n) : ∀ z ∈ x ++ y, z.1.n ≠ n := fun z hz => by
  rcases List.mem_append.1 hz with h | h
  · have := hx z h; omega
  · have := hy z h; omega

def Ops (w : World) (F : Nat → Prop) (a rm : Nat) (dn : Bool) (r : Nat × List Pt) (e : Ending) (w' : World) : Prop :=
  e = .returned (ErrV r.1) ∧ ∃ F', Dsk w' F' a rm dn r.2 ∧ Mv8 w F w' F'
theorem Mv8.of {w w' : World} {F : Nat → Prop} {a b : Nat} {xs xs' : List (Pt × Value)} (hF : ∀ g, F g ↔ foot a b xs g) (k : Keeps (foot a b xs) w w') (h : ∀ z ∈ xs', ∀ g, z.2.ownBlock = some g → foot a b xs g ∨ w.heap.size ≤ g) : Mv8 w F w' (foot a b xs') where
  keeps := k.wide (fun g hg _ => (hF g).2 hg)
  own g hg := by
    rcases hg with e | e | ⟨z, hz, e⟩
    · exact .inl ((hF g).2 (.inl e))
    · exact .inl ((hF g).2 (.inr (.inl e)))
    · rcases h z hz g e with e | e
      · exact .inl ((hF g).2 e)
      · exact .inr e
theorem foot_mid {a b : Nat} {w : World} {x y : List (Pt × Value)} {q p : Pt × Value} (h : ∀ g, p.2.ownBlock = some g → q.2.ownBlock = some g ∨ w.heap.size ≤ g) :
    ∀ z ∈ x ++ p :: y, ∀ g, z.2.ownBlock = some g → foot a b (x ++ q :: y) g ∨ w.heap.size ≤ g := fun z hz g hg => by
  rcases List.mem_append.1 hz with hz | hz
  · exact .inl (.inr (.inr ⟨z, by simp [hz], hg⟩))
  · rcases List.mem_cons.1 hz with rfl | hz
    · rcases h g hg with e | e
      · exact .inl (.inr (.inr ⟨q, by simp, e⟩))
      · exact .inr e
    · exact .inl (.inr (.inr ⟨z, by simp [hz], hg⟩))

theorem Dsk.open {w : World} {F : Nat → Prop} {a rm : Nat} {dn : Bool} {L : List Pt} (h : Dsk w F a rm dn L) : ∃ b xs, DkB w a b rm dn xs ∧ pts xs = L ∧ ∀ g, F g ↔ foot a b xs g := h

theorem up_walk (w : World) (F : Nat → Prop) (a rm : Nat) (dn : Bool) (L : List Pt) (h : Dsk w F a rm dn L) :
    Calls Try.prog 13 #[.pointer (some ⟨a, 0, none⟩)] w fun e w' => e = .returned (.tuple #[]) ∧ Dsk w' F a rm false L ∧ Mv8 w F w' F := by
  obtain ⟨b, xs, h1, rfl, hF⟩ := h
  have c2 := h1.c2
  have f2 := h1.f 2
  have HL := Lib.hid h1
  have HF := Lib.hid hF
  clear h1 hF
  go_enter Try.func13, Try.ntmps13
  go_wp2
  go_end0
  exact ⟨rfl, ⟨b, xs, HL.out.setD false, rfl, HF.out⟩, (Keeps.refl F w).set _ _ (.inl ((HF.out a).2 (.inl rfl))), fun g hg => .inl hg⟩

theorem errV_ne {c : Nat} (h : c ≠ 0) : ErrV c = errV c := by unfold ErrV; rw [if_neg h]
theorem append_gone (w : World) (F : Nat → Prop) (a rm : Nat) (L : List Pt) (n : Int) (B : Option Addr) (k cb : Nat) (h : Dsk w F a rm true L) :
    Calls Try.prog 18 #[.pointer (some ⟨a, 0, none⟩), .int .i64 n, .slice B k cb] w (Ops w F a rm true (10, L)) := by
  obtain ⟨b, xs, h1, rfl, hF⟩ := h
  have c2 := h1.c2
  have HD : Hid (Dsk w F a rm true (pts xs)) := Lib.hid ⟨b, xs, h1, rfl, hF⟩
  clear h1 hF
  go_enter Try.func18, Try.ntmps18
  go_wp2
  go_ret
  exact ⟨rfl, F, HD.out, Mv8.still (Below.refl _ _)⟩
theorem append_arg (w : World) (F : Nat → Prop) (a rm : Nat) (L : List Pt) (n : Int) (B : Option Addr) (k cb : Nat) (h : Dsk w F a rm false L) (hn : n < 0) :
    Calls Try.prog 18 #[.pointer (some ⟨a, 0, none⟩), .int .i64 n, .slice B k cb] w (Ops w F a rm false (1, L)) := by
  obtain ⟨b, xs, h1, rfl, hF⟩ := h
  have c2 := h1.c2
  have HD : Hid (Dsk w F a rm false (pts xs)) := Lib.hid ⟨b, xs, h1, rfl, hF⟩
  clear h1 hF
  go_enter Try.func18, Try.ntmps18
  go_wp2
  go_ret
  exact ⟨rfl, F, HD.out, Mv8.still (Below.refl _ _)⟩
theorem append_full (w : World) (a b rm us : Nat) (xs : List (Pt × Value)) (m : Nat) (D : DataW Value) (n : Int) (B : Option Addr) (k cb : Nat) (h : DkG w a b rm us false m D xs) (hn : 0 ≤ n) (h0 : us ≤ rm) (h1 : rm ≤ 65536) (hk : k ≤ 1000000) (hf : rm - us < k) :
    Calls Try.prog 18 #[.pointer (some ⟨a, 0, none⟩), .int .i64 n, .slice B k cb] w fun e w' => e = .returned (errV 6) ∧ Below w.heap.size w w' := by
  have c0 := h.c0
  have c1 := h.c1
  have c2 := h.c2
  have hd : decide ((rm : Int) - us < k) = true := decide_eq_true (by omega)
  have hn' : ¬ n < 0 := by omega
  clear h
  go_enter Try.func18, Try.ntmps18
  go_wp2
  go_region
  all_goals go_wp2
  all_goals go_ret
  exact ⟨rfl, (Below.refl _ _).drew⟩
set_option maxRecDepth 100000 in
theorem append_has (w : World) (a b rm us : Nat) (x y : List (Pt × Value)) (p : Pt) (A : Option Addr) (cap : Nat) (B : Option Addr) (cb : Nat) (bs : List UInt8) (hr : RdS w B cb bs)
    (h : DkG w a b rm us false (x ++ (p, Value.slice A p.b.length cap) :: y).length (ents (x ++ (p, .slice A p.b.length cap) :: y)) (x ++ (p, .slice A p.b.length cap) :: y)) (h0 : 0 ≤ p.n) (h1 : p.n ≤ 9223372036854775807)
    (hx : ∀ z ∈ x, z.1.n < p.n) (hy : ∀ z ∈ y, p.n < z.1.n) (hn : (x ++ (p, Value.slice A p.b.length cap) :: y).length ≤ 1000) (UE : Hid (used (pts (x ++ (p, Value.slice A p.b.length cap) :: y)) = us)) (hu : us ≤ rm) (hrm : rm ≤ 65536) (hf : bs.length ≤ rm - us) :
    Calls Try.prog 18 #[.pointer (some ⟨a, 0, none⟩), .int .i64 p.n, .slice B bs.length cb] w fun e w' => e = .returned .nilIface ∧ ∃ v', DkB w' a b rm false (x ++ (⟨p.n, p.b ++ bs, p.s⟩, v') :: y) ∧
      Keeps (foot a b (x ++ (p, .slice A p.b.length cap) :: y)) w w' ∧ ∀ g, v'.ownBlock = some g → (Value.slice A p.b.length cap).ownBlock = some g ∨ w.heap.size ≤ g := by
  have lt := h.lt
  have c0 := h.c0
  have c1 := h.c1
  have c2 := h.c2
  have c3 := h.c3
  have hd : decide ((rm : Int) - us < bs.length) = false := decide_eq_false (by omega)
  have hn' : ¬ p.n < 0 := by omega
  have hu1 : p.b.length ≤ us := by rw [← UE.out, used_mid]; simp
  have lk := look_has h.drew.map (by omega) h1 rfl hx
  have o1 : OB (w.drew.alloc (.cells #[.slice A p.b.length cap, .int .i64 (p.s : Nat)] 55)) 0 (.slice A p.b.length cap) p.b := OB.alloc (h.drew.own (p, .slice A p.b.length cap) (by simp)) _
  obtain ⟨v', w2, hrun, o2, g2, at2⟩ := ob_grow o1 (hr.drew1.alloc _) (by omega)
  have D1 := h.drew.alloc (.cells #[.slice A p.b.length cap, .int .i64 (p.s : Nat)] 55)
  have K1 := (Keeps.refl (foot a b (x ++ (p, .slice A p.b.length cap) :: y)) w).drew.alloc (.cells #[.slice A p.b.length cap, .int .i64 (p.s : Nat)] 55)
  have b1 := heap_alloc_new w.drew (.cells #[.slice A p.b.length cap, .int .i64 (p.s : Nat)] 55)
  have z1 : (w.drew.alloc (.cells #[.slice A p.b.length cap, .int .i64 (p.s : Nat)] 55)).heap.size = w.heap.size + 1 := by simp
  obtain ⟨A', cap', ev⟩ := owns_shape o2
  rw [List.length_append] at ev
  subst ev
  have nfo : ¬ foot a b (x ++ (p, .slice A p.b.length cap) :: y) w.heap.size := fun hf => by have := h.footlt hf; omega
  have olt : ∀ g, (Value.slice A p.b.length cap).ownBlock = some g → g < w.heap.size := fun g hg => (h.row (x := (p, .slice A p.b.length cap)) (by simp) hg).2.2
  have e2 : w2.heap[w.heap.size]? = some (.cells #[.slice A p.b.length cap, .int .i64 (p.s : Nat)] 55 (0, 0)) := by
    rw [g2.block w.heap.size (by rw [z1]; omega) (fun e => by have := olt _ e.symm; omega)]; exact b1
  have q0 : w2.cell? ⟨w.heap.size, 0, none⟩ = some (.slice A p.b.length cap) := cell_of_block e2
  have q1 : w2.cell? ⟨w.heap.size, 1, none⟩ = some (.int .i64 (p.s : Nat)) := cell_of_block e2
  have f0 : w2.frozen? ⟨w.heap.size, 0, none⟩ = false := frozen_of_block e2
  obtain ⟨dl, do1, df⟩ := D1.less
  have K2 : Keeps (foot a b (x ++ (p, .slice A p.b.length cap) :: y)) w w2 := K1.trans (Keeps.of_grown (F := fun g => (Value.slice A p.b.length cap).ownBlock = some g) g2 (fun g e => e)) (fun g e => .inl (.inr (.inr ⟨(p, .slice A p.b.length cap), by simp, e⟩)))
  have D2 := dl.keeps (Keeps.of_grown (F := fun g => (Value.slice A p.b.length cap).ownBlock = some g) g2 (fun g e => e)) (fun g hg e => df g e hg)
  have sub : ∀ g, foot a b (x ++ y) g → g < w.heap.size := fun g hg => h.footlt (foot_mono (fun z hz => by
      rcases List.mem_append.1 hz with hz | hz
      · exact List.mem_append.2 (.inl hz)
      · exact List.mem_append.2 (.inr (by simp [hz]))) hg)
  have D3 := D2.set ⟨w.heap.size, 0, none⟩ (.slice A' (p.b.length + bs.length) cap') (fun hf => by have := sub _ hf; simp at this)
  have K3 := K2.set ⟨w.heap.size, 0, none⟩ (.slice A' (p.b.length + bs.length) cap') (.inr (Nat.le_refl _))
  have vat : ∀ g, (Value.slice A' (p.b.length + bs.length) cap').ownBlock = some g → (Value.slice A p.b.length cap).ownBlock = some g ∨ w.heap.size + 1 ≤ g := fun g hg => by
    rcases at2 with e | e
    · exact .inl (by rw [← e]; exact hg)
    · rw [e] at hg; cases hg; exact .inr (by rw [z1]; omega)
  have o3 : OB (w2.setCell ⟨w.heap.size, 0, none⟩ (.slice A' (p.b.length + bs.length) cap')) 0 (.slice A' (p.b.length + bs.length) cap') (p.b ++ bs) :=
    owns_keeps (F := fun g => g = w.heap.size) o2 ((Keeps.refl (fun g => g = w.heap.size) w2).set _ _ (.inl rfl)) (fun g hg e => by
      rcases vat g hg with h | h
      · have := olt g h; omega
      · omega)
  have h3 : (w2.setCell ⟨w.heap.size, 0, none⟩ (.slice A' (p.b.length + bs.length) cap')).heap[w.heap.size]? = some (.cells #[.slice A' (p.b.length + bs.length) cap', .int .i64 (p.s : Nat)] 55 (0, 0)) := by rw [heap_set_same e2]; rfl
  obtain ⟨w4, mu, g4, t4⟩ := D3.drew.store (by omega) p.n (by omega) h1 (.agg #[.slice A' (p.b.length + bs.length) cap', .int .i64 (p.s : Nat)])
  have c14 := g4.c1
  have f14 := g4.f 1
  have HR := Lib.hid hrun
  have D3 := Lib.hid D3
  have K3 := Lib.hid K3
  have O3 := Lib.hid o3
  have H3 := Lib.hid h3
  have VA := Lib.hid vat
  have G4 := Lib.hid g4
  have T4 := Lib.hid t4
  have SU := Lib.hid sub
  have OL := Lib.hid olt
  have HL := Lib.hid h
  have DF := Lib.hid df
  have HX := Lib.hid hx
  have HY := Lib.hid hy
  clear h hx hy hn hrun o1 o2 g2 at2 b1 z1 hr K1 D1 nfo olt e2 dl do1 df K2 D2 sub vat o3 h3 g4 t4
  go_enter Try.func18, Try.ntmps18
  go_wp2
  go_region
  all_goals go_wp2_with (first | (at_builtin; refine wpList_append_two rfl (.tmp 39) (.tmp 40) 32 32 rfl _ _ _ rfl rfl HR.out ?_) | fail)
  generalize w2.setCell ⟨w.heap.size, 0, none⟩ (.slice A' (p.b.length + bs.length) cap') = w3 at D3 K3 O3 H3 T4 mu ⊢
  have s0 : w3.cell? ⟨w.heap.size, 0, none⟩ = some (.slice A' (p.b.length + bs.length) cap') := cell_of_block H3.out
  have s1 : w3.cell? ⟨w.heap.size, 1, none⟩ = some (.int .i64 (p.s : Nat)) := cell_of_block H3.out
  have d3 := D3.out.c3
  go_region
  all_goals go_wp2
  all_goals go_ret
  rw [show (us : Int) + (bs.length : Int) = ((us + bs.length : Nat) : Int) by omega]
  have ht : Keeps (fun g => g = b) w3 w4 := (Keeps.refl _ w3).drew.trans (map_turned T4.out (fun g => g = b) rfl) (fun g e => .inl e)
  have hs : Keeps (fun g => g = a ∨ g = b) w3 (w4.setCell ⟨a, 1, none⟩ (.int .i64 ((us + bs.length : Nat) : Int))) := (ht.wide (fun g e _ => .inr e)).set _ _ (.inl (.inl rfl))
  have lb := HL.out.blt
  have nab : ∀ g, (Value.slice A' (p.b.length + bs.length) cap').ownBlock = some g → ¬ (g = a ∨ g = b) := fun g hg e => by
    rcases VA.out g hg with h | h
    · have := HL.out.row (x := (p, .slice A p.b.length cap)) (by simp) h
      omega
    · omega
  refine ⟨rfl, .slice A' (p.b.length + bs.length) cap', (G4.out.setU (us + bs.length)).put_done rfl rfl rfl HX.out HY.out (owns_keeps O3.out hs nab) (fun g hg hf => ?_) ?_, K3.out.trans hs (fun g e => .inl (by rcases e with e | e; exact .inl e; exact .inr (.inl e))), fun g hg => ?_⟩
  · rcases VA.out g hg with h | h
    · exact DF.out g h hf
    · have := SU.out g hf; omega
  · have := UE.out
    rw [used_mid] at this ⊢
    simp only [List.length_append]
    simp only at this
    omega
  · rcases VA.out g hg with h | h
    · exact .inl h
    · exact .inr (by omega)
set_option maxRecDepth 100000 in
theorem append_new (w : World) (a b rm us : Nat) (x y : List (Pt × Value)) (n : Int) (B : Option Addr) (cb : Nat) (bs : List UInt8) (hr : RdS w B cb bs)
    (h : DkG w a b rm us false (x ++ y).length (ents (x ++ y)) (x ++ y)) (h0 : 0 ≤ n) (h1 : n ≤ 9223372036854775807)
    (hx : ∀ z ∈ x, z.1.n < n) (hy : ∀ z ∈ y, n < z.1.n) (hn : (x ++ y).length ≤ 1000) (UE : Hid (used (pts (x ++ y)) = us)) (hu : us ≤ rm) (hrm : rm ≤ 65536) (hf : bs.length ≤ rm - us) :
    Calls Try.prog 18 #[.pointer (some ⟨a, 0, none⟩), .int .i64 n, .slice B bs.length cb] w fun e w' => e = .returned .nilIface ∧ ∃ v', DkB w' a b rm false (x ++ (⟨n, bs, 0⟩, v') :: y) ∧
      Keeps (foot a b (x ++ y)) w w' ∧ ∀ g, v'.ownBlock = some g → w.heap.size ≤ g := by
  have lt := h.lt
  have c0 := h.c0
  have c1 := h.c1
  have c2 := h.c2
  have c3 := h.c3
  have hd : decide ((rm : Int) - us < bs.length) = false := decide_eq_false (by omega)
  have hn' : ¬ n < 0 := by omega
  have lk := look_no h.drew.map (by omega) h1 (ne_of n hx hy)
  have o1 : OB (w.drew.alloc (.cells #[.slice none 0 0, .int .i64 0] 55)) 0 (.slice none 0 0) [] := OB.nil _ _
  obtain ⟨v', w2, hrun, o2, g2, at2⟩ := ob_grow o1 (hr.drew1.alloc _) (by simp only [List.length_nil]; omega)
  have D1 := h.drew.alloc (.cells #[.slice none 0 0, .int .i64 0] 55)
  have K1 := (Keeps.refl (foot a b (x ++ y)) w).drew.alloc (.cells #[.slice none 0 0, .int .i64 0] 55)
  have b1 := heap_alloc_new w.drew (.cells #[.slice none 0 0, .int .i64 0] 55)
  have z1 : (w.drew.alloc (.cells #[.slice none 0 0, .int .i64 0] 55)).heap.size = w.heap.size + 1 := by simp
  rw [List.nil_append] at o2
  obtain ⟨A', cap', ev⟩ := owns_shape o2
  subst ev
  have nfo : ¬ foot a b (x ++ y) w.heap.size := fun hf => by have := h.footlt hf; omega
  have e2 : w2.heap[w.heap.size]? = some (.cells #[.slice none 0 0, .int .i64 0] 55 (0, 0)) := by
    rw [g2.block w.heap.size (by rw [z1]; omega) (fun e => by cases e)]; exact b1
  have q0 : w2.cell? ⟨w.heap.size, 0, none⟩ = some (.slice none 0 0) := cell_of_block e2
  have q1 : w2.cell? ⟨w.heap.size, 1, none⟩ = some (.int .i64 0) := cell_of_block e2
  have f0 : w2.frozen? ⟨w.heap.size, 0, none⟩ = false := frozen_of_block e2
  have k2 := Keeps.of_grown (F := fun _ => False) g2 (fun g e => by cases e)
  have K2 : Keeps (foot a b (x ++ y)) w w2 := K1.trans k2 (fun g e => e.elim)
  have D2 := D1.keeps k2 (fun g hg e => e)
  have sub : ∀ g, foot a b (x ++ y) g → g < w.heap.size := fun g hg => h.footlt hg
  have D3 := D2.set ⟨w.heap.size, 0, none⟩ (.slice A' bs.length cap') nfo
  have K3 := K2.set ⟨w.heap.size, 0, none⟩ (.slice A' bs.length cap') (.inr (Nat.le_refl _))
  have vat : ∀ g, (Value.slice A' bs.length cap').ownBlock = some g → w.heap.size + 1 ≤ g := fun g hg => by
    rcases at2 with e | e
    · rw [e] at hg; cases hg
    · rw [e] at hg; cases hg; rw [z1]; omega
  have o3 : OB (w2.setCell ⟨w.heap.size, 0, none⟩ (.slice A' bs.length cap')) 0 (.slice A' bs.length cap') bs :=
    owns_keeps (F := fun g => g = w.heap.size) o2 ((Keeps.refl (fun g => g = w.heap.size) w2).set _ _ (.inl rfl)) (fun g hg e => by have := vat g hg; omega)
  have h3 : (w2.setCell ⟨w.heap.size, 0, none⟩ (.slice A' bs.length cap')).heap[w.heap.size]? = some (.cells #[.slice A' bs.length cap', .int .i64 0] 55 (0, 0)) := by rw [heap_set_same e2]; rfl
  obtain ⟨w4, mu, g4, t4⟩ := D3.drew.store (by omega) n (by omega) h1 (.agg #[.slice A' bs.length cap', .int .i64 0])
  have c14 := g4.c1
  have f14 := g4.f 1
  have HR := Lib.hid hrun
  have D3 := Lib.hid D3
  have K3 := Lib.hid K3
  have O3 := Lib.hid o3
  have H3 := Lib.hid h3
  have VA := Lib.hid vat
  have G4 := Lib.hid g4
  have T4 := Lib.hid t4
  have SU := Lib.hid sub
  have HL := Lib.hid h
  have HX := Lib.hid hx
  have HY := Lib.hid hy
  clear h hx hy hn hrun o1 o2 g2 at2 b1 z1 hr K1 D1 nfo e2 K2 D2 sub vat o3 h3 g4 t4 k2
  go_enter Try.func18, Try.ntmps18
  go_wp2
  go_region
  all_goals go_wp2_with (first | (at_builtin; refine wpList_append_two rfl (.tmp 39) (.tmp 40) 32 32 rfl _ _ _ rfl rfl HR.out ?_) | fail)
  generalize w2.setCell ⟨w.heap.size, 0, none⟩ (.slice A' bs.length cap') = w3 at D3 K3 O3 H3 T4 mu ⊢
  have s0 : w3.cell? ⟨w.heap.size, 0, none⟩ = some (.slice A' bs.length cap') := cell_of_block H3.out
  have s1 : w3.cell? ⟨w.heap.size, 1, none⟩ = some (.int .i64 0) := cell_of_block H3.out
  have d3 := D3.out.c3
  go_region
  all_goals go_wp2
  all_goals go_ret
  rw [show (us : Int) + (bs.length : Int) = ((us + bs.length : Nat) : Int) by omega]
  have ht : Keeps (fun g => g = b) w3 w4 := (Keeps.refl _ w3).drew.trans (map_turned T4.out (fun g => g = b) rfl) (fun g e => .inl e)
  have hs : Keeps (fun g => g = a ∨ g = b) w3 (w4.setCell ⟨a, 1, none⟩ (.int .i64 ((us + bs.length : Nat) : Int))) := (ht.wide (fun g e _ => .inr e)).set _ _ (.inl (.inl rfl))
  have lb := HL.out.blt
  refine ⟨rfl, .slice A' bs.length cap', (G4.out.setU (us + bs.length)).put_new rfl rfl HX.out HY.out (owns_keeps O3.out hs (fun g hg e => by have := VA.out g hg; omega)) (fun g hg hf => ?_) ?_, K3.out.trans hs (fun g e => .inl (by rcases e with e | e; exact .inl e; exact .inr (.inl e))), fun g hg => ?_⟩
  · have := VA.out g hg; have := SU.out g hf; omega
  · have := UE.out
    rw [used_mid]
    simp only
    omega
  · have := VA.out g hg; omega
/-- Append, whatever it is asked. -/
theorem appendD (w : World) (F : Nat → Prop) (a rm : Nat) (dn : Bool) (L : List Pt) (n : Int) (B : Option Addr) (cb : Nat) (bs : List UInt8) (h : Dsk w F a rm dn L) (hr : RdS w B cb bs) (hi : Inv rm L) (hl : L.length ≤ 1000) (hn : n ≤ 9223372036854775807) (hb : bs.length ≤ 1000000) :
    Calls Try.prog 18 #[.pointer (some ⟨a, 0, none⟩), .int .i64 n, .slice B bs.length cb] w (Ops w F a rm dn (opAppend rm dn L n bs)) := by
  unfold opAppend
  cases dn with
  | true => exact append_gone w F a rm L n B _ cb h
  | false =>
    rw [if_neg (by simp)]
    by_cases h0 : n < 0
    · rw [if_pos h0]; exact append_arg w F a rm L n B _ cb h h0
    rw [if_neg h0]
    obtain ⟨b, xs, h1, rfl, hF⟩ := h
    have hu := hi.fits
    have hrm := hi.room
    have hlx : xs.length ≤ 1000 := by simpa using hl
    by_cases hf : rm - used (pts xs) < bs.length
    · rw [if_pos hf]
      refine (append_full w a b rm _ xs _ _ n B bs.length cb h1 (by omega) hu hrm hb hf).mono ?_
      rintro e w' ⟨rfl, hb⟩
      exact ⟨rfl, F, ⟨b, xs, h1.below hb (Nat.le_refl _), rfl, hF⟩, Mv8.still hb⟩
    rw [if_neg hf]
    rcases splitX n xs hi.rise with ⟨x, q, v, y, rfl, rfl, hx, hy⟩ | ⟨x, y, rfl, hx, hy⟩
    · obtain ⟨A, cap, e⟩ := owns_shape (h1.own (q, v) (by simp))
      simp only at e
      subst e
      refine (append_has w a b rm _ x y q A cap B cb bs hr h1 (by omega) hn hx hy hlx (Lib.hid rfl) hu hrm (by omega)).mono ?_
      rintro e w' ⟨rfl, v', h2, k, hv⟩
      exact ⟨rfl, _, ⟨b, _, h2, (upd_x (joinP q.n bs) rfl hx v').symm, fun g => Iff.rfl⟩, Mv8.of hF k (foot_mid hv)⟩
    · refine (append_new w a b rm _ x y n B cb bs hr h1 (by omega) hn hx hy hlx (Lib.hid rfl) hu hrm (by omega)).mono ?_
      rintro e w' ⟨rfl, v', h2, k, hv⟩
      exact ⟨rfl, _, ⟨b, _, h2, (upd_n (joinP n bs) hx hy v').symm, fun g => Iff.rfl⟩, Mv8.of hF k (fun z hz g hg => by
        rcases List.mem_append.1 hz with hz | hz
        · exact .inl (.inr (.inr ⟨z, by simp [hz], hg⟩))
        · rcases List.mem_cons.1 hz with rfl | hz
          · exact .inr (hv g hg)
          · exact .inl (.inr (.inr ⟨z, by simp [hz], hg⟩)))⟩

theorem ErrV_0 : ErrV 0 = .nilIface := rfl
/-- find, whatever it is asked. -/
theorem findD (w : World) (a b rm : Nat) (dn : Bool) (xs : List (Pt × Value)) (n : Int) (h : DkB w a b rm dn xs) (h0 : -9223372036854775808 ≤ n) (h1 : n ≤ 9223372036854775807) (hr : Rises (pts xs)) :
    missC dn (pts xs) n ≠ 0 ∧ Calls Try.prog 28 #[.pointer (some ⟨a, 0, none⟩), .int .i64 n] w (fun e w' => e = .returned (.tuple #[.agg #[.slice none 0 0, .int .i64 0], errV (missC dn (pts xs) n)]) ∧ Below w.heap.size w w') ∨
    dn = false ∧ ∃ x q A cap y, xs = x ++ (q, .slice A q.b.length cap) :: y ∧ q.n = n ∧ (∀ z ∈ x, z.1.n < n) ∧ (∀ z ∈ y, n < z.1.n) ∧
      Calls Try.prog 28 #[.pointer (some ⟨a, 0, none⟩), .int .i64 n] w (fun e w' => e = .returned (.tuple #[.agg #[.slice A q.b.length cap, .int .i64 (q.s : Nat)], .nilIface]) ∧ Below w.heap.size w w') := by
  cases dn with
  | true => exact .inl ⟨by simp [missC], find_gone w a b rm _ _ _ _ n h⟩
  | false =>
    rcases splitX n xs hr with ⟨x, q, v, y, rfl, rfl, hx, hy⟩ | ⟨x, y, rfl, hx, hy⟩
    · obtain ⟨A, cap, e⟩ := owns_shape (h.own (q, v) (by simp))
      simp only at e
      subst e
      exact .inr ⟨rfl, x, q, A, cap, y, rfl, rfl, hx, hy, find_some w a b rm _ x y _ q A cap _ h h0 h1 hx⟩
    · rw [miss_none (find_n hx hy)]
      exact .inl ⟨by omega, find_none w a b rm _ _ _ n h h0 h1 (ne_of n hx hy)⟩
set_option maxRecDepth 100000 in
theorem syncD (w : World) (F : Nat → Prop) (a rm : Nat) (dn : Bool) (L : List Pt) (n : Int) (h : Dsk w F a rm dn L) (hi : Inv rm L) (hl : L.length ≤ 1000) (h0 : -9223372036854775808 ≤ n) (h1 : n ≤ 9223372036854775807) :
    Calls Try.prog 21 #[.pointer (some ⟨a, 0, none⟩), .int .i64 n] w (Ops w F a rm dn (opSync dn L n)) := by
  obtain ⟨b, xs, hd, rfl, hF⟩ := h
  rcases findD w a b rm dn xs n hd h0 h1 hi.rise with ⟨hc, hC⟩ | ⟨rfl, x, q, A, cap, y, rfl, rfl, hx, hy, hC⟩
  · unfold opSync
    rw [if_neg hc]
    have HD : Hid (Dsk w F a rm dn (pts xs)) := Lib.hid ⟨b, xs, hd, rfl, hF⟩
    have HC := Lib.hid hC
    have CC := Lib.hid hc
    clear hd hF hi hC hc
    generalize missC dn (pts xs) n = c at *
    unfold errV at HC
    go_enter Try.func21, Try.ntmps21
    go_wp2_with fail
    refine HC.out.mono ?_
    rintro e w1 ⟨rfl, b1⟩
    have B1 := Lib.hid b1
    clear b1 HC
    go_wp2
    go_ret
    have hB := B1.out.alloc B1.out.size (.cells #[.slice none 0 0, .int .i64 0] 55)
    exact ⟨by rw [errV_ne CC.out]; rfl, F, HD.out.below hB, Mv8.still hB⟩
  · have hf : q.b.length ≤ q.b.length := Nat.le_refl _
    have hu : used (pts (x ++ (q, Value.slice A q.b.length cap) :: y)) ≤ 1000000 := by have := hi.fits; have := hi.room; omega
    have hlx : (x ++ (q, Value.slice A q.b.length cap) :: y).length ≤ 1000 := by rw [List.length_map] at hl; exact hl
    have CL : Hid (∀ w1, Below w.heap.size w w1 → Calls Try.prog 22 #[.pointer (some ⟨a, 0, none⟩), .int .i64 q.n, .int .i64 (q.b.length : Nat)] w1 (Lasts w1 a b rm false x y q (.slice A q.b.length cap) q.b.length)) :=
      Lib.hid fun w1 hb => last_any w1 a b rm false x y q _ q.b.length (hd.below hb (Nat.le_refl _)) h0 h1 hx hy hlx hu hf
    have HC := Lib.hid hC
    have HF := Lib.hid hF
    have HX := Lib.hid hx
    have lt := hd.lt
    clear hd hF hi hC hx hy hu hlx hf hl
    go_enter Try.func21, Try.ntmps21
    go_wp2_with fail
    refine HC.out.mono ?_
    rintro e w1 ⟨rfl, b1⟩
    have hB := b1.alloc b1.size (.cells #[.slice A q.b.length cap, .int .i64 (q.s : Nat)] 55)
    have CM := Lib.hid (CL.out _ hB)
    have B1 := Lib.hid hB
    clear b1 HC CL hB
    go_wp2_with fail
    refine CM.out.mono ?_
    rintro e w2 ⟨rfl, v', d2, k2, l2⟩
    have D2 : Hid (Ops w F a rm false (opSync false (pts (x ++ (q, Value.slice A q.b.length cap) :: y)) q.n) (.returned .nilIface) w2) := Lib.hid (by
      have hz := B1.out.size
      unfold opSync
      rw [if_pos (miss_some (find_x rfl HX.out)), upd_x (syncP q.n) rfl HX.out v']
      refine ⟨rfl, foot a b (x ++ (⟨q.n, q.b.take q.b.length, q.b.length⟩, v') :: y), ⟨b, _, d2, ?_, fun g => Iff.rfl⟩, Mv8.of HF.out ((Keeps.of_below B1.out (Nat.le_refl _) _).trans k2 (fun g hg => .inl hg)) (foot_mid fun g hg => ?_)⟩
      · rw [List.take_length]
        rfl
      · rcases l2 g hg with e | e
        · exact .inl e
        · exact .inr (by omega))
    clear d2 k2 l2 CM
    go_wp2
    go_ret
    exact D2.out

set_option maxRecDepth 100000 in
theorem cutD (w : World) (F : Nat → Prop) (a rm : Nat) (dn : Bool) (L : List Pt) (n m : Int) (h : Dsk w F a rm dn L) (hi : Inv rm L) (hl : L.length ≤ 1000) (h0 : -9223372036854775808 ≤ n) (h1 : n ≤ 9223372036854775807) :
    Calls Try.prog 33 #[.pointer (some ⟨a, 0, none⟩), .int .i64 n, .int .i64 m] w (Ops w F a rm dn (opCut dn L n m)) := by
  obtain ⟨b, xs, hd, rfl, hF⟩ := h
  rcases findD w a b rm dn xs n hd h0 h1 hi.rise with ⟨hc, hC⟩ | ⟨rfl, x, q, A, cap, y, rfl, rfl, hx, hy, hC⟩
  · unfold opCut
    rw [if_neg hc]
    have HD : Hid (Dsk w F a rm dn (pts xs)) := Lib.hid ⟨b, xs, hd, rfl, hF⟩
    have HC := Lib.hid hC
    have CC := Lib.hid hc
    clear hd hF hi hC hc
    generalize missC dn (pts xs) n = c at *
    unfold errV at HC
    go_enter Try.func33, Try.ntmps33
    go_wp2_with fail
    refine HC.out.mono ?_
    rintro e w1 ⟨rfl, b1⟩
    have B1 := Lib.hid b1
    clear b1 HC
    go_wp2
    go_ret
    have hB := B1.out.alloc B1.out.size (.cells #[.slice none 0 0, .int .i64 0] 55)
    exact ⟨by rw [errV_ne CC.out]; rfl, F, HD.out.below hB, Mv8.still hB⟩
  · have hfx := find_x (v := .slice A q.b.length cap) (y := y) rfl hx
    have hu : used (pts (x ++ (q, Value.slice A q.b.length cap) :: y)) ≤ 1000000 := by have := hi.fits; have := hi.room; omega
    have hlx : (x ++ (q, Value.slice A q.b.length cap) :: y).length ≤ 1000 := by rw [List.length_map] at hl; exact hl
    unfold opCut
    rw [if_pos (miss_some hfx), len_some hfx]
    have lt := hd.lt
    have HC := Lib.hid hC
    by_cases hm : m < 0 ∨ (q.b.length : Int) < m
    · rw [if_pos hm]
      have HD : Hid (Dsk w F a rm false (pts (x ++ (q, Value.slice A q.b.length cap) :: y))) := Lib.hid ⟨b, _, hd, rfl, hF⟩
      clear hd hF hi hC hx hy hu hlx hl hfx
      have FIN : ∀ w1, Below w.heap.size w w1 → Ops w F a rm false (1, pts (x ++ (q, Value.slice A q.b.length cap) :: y)) (.returned (.iface 40 (.int .i64 1))) (w1.alloc (.cells #[.slice A q.b.length cap, .int .i64 (q.s : Nat)] 55)) := fun w1 b1 => by
        have hB := b1.alloc b1.size (.cells #[.slice A q.b.length cap, .int .i64 (q.s : Nat)] 55)
        exact ⟨rfl, F, HD.out.below hB, Mv8.still hB⟩
      have FIN := Lib.hid FIN
      rcases hm with hm | hm
      · go_enter Try.func33, Try.ntmps33
        go_wp2_with fail
        refine HC.out.mono ?_
        rintro e w1 ⟨rfl, b1⟩
        have F1 := Lib.hid (FIN.out w1 b1)
        clear b1 HC
        go_wp2
        go_ret
        exact F1.out
      · have hm0 : ¬ m < 0 := by omega
        go_enter Try.func33, Try.ntmps33
        go_wp2_with fail
        refine HC.out.mono ?_
        rintro e w1 ⟨rfl, b1⟩
        have F1 := Lib.hid (FIN.out w1 b1)
        clear b1 HC
        go_wp2
        go_ret
        exact F1.out
    · rw [if_neg hm]
      obtain ⟨k, rfl⟩ : ∃ k : Nat, m = (k : Int) := ⟨m.toNat, by omega⟩
      rw [Int.toNat_natCast]
      have hf : k ≤ q.b.length := by omega
      have hk0 : ¬ ((k : Int) < 0) := by omega
      have hk1 : ¬ ((q.b.length : Int) < k) := by omega
      have CL : Hid (∀ w1, Below w.heap.size w w1 → Calls Try.prog 22 #[.pointer (some ⟨a, 0, none⟩), .int .i64 q.n, .int .i64 (k : Nat)] w1 (Lasts w1 a b rm false x y q (.slice A q.b.length cap) k)) :=
        Lib.hid fun w1 hb => last_any w1 a b rm false x y q _ k (hd.below hb (Nat.le_refl _)) h0 h1 hx hy hlx hu hf
      have HF := Lib.hid hF
      have HX := Lib.hid hx
      clear hd hF hi hC hx hy hu hlx hl hm hfx
      go_enter Try.func33, Try.ntmps33
      go_wp2_with fail
      refine HC.out.mono ?_
      rintro e w1 ⟨rfl, b1⟩
      have hB := b1.alloc b1.size (.cells #[.slice A q.b.length cap, .int .i64 (q.s : Nat)] 55)
      have CM := Lib.hid (CL.out _ hB)
      have B1 := Lib.hid hB
      clear b1 HC CL hB
      go_wp2_with fail
      refine CM.out.mono ?_
      rintro e w2 ⟨rfl, v', d2, k2, l2⟩
      have D2 : Hid (Ops w F a rm false (0, upd q.n (cutP q.n k) (pts (x ++ (q, Value.slice A q.b.length cap) :: y))) (.returned .nilIface) w2) := Lib.hid (by
        have hz := B1.out.size
        rw [upd_x (cutP q.n k) rfl HX.out v']
        refine ⟨rfl, foot a b (x ++ (⟨q.n, q.b.take k, k⟩, v') :: y), ⟨b, _, d2, rfl, fun g => Iff.rfl⟩, Mv8.of HF.out ((Keeps.of_below B1.out (Nat.le_refl _) _).trans k2 (fun g hg => .inl hg)) (foot_mid fun g hg => ?_)⟩
        rcases l2 g hg with e | e
        · exact .inl e
        · exact .inr (by omega))
      clear d2 k2 l2 CM
      go_wp2
      go_ret
      exact D2.out
/-- What Read tells: bytes that are new, and an error. -/
def Reads (w : World) (r : Nat × List UInt8) (e : Ending) (w' : World) : Prop :=
  ∃ v, e = .returned (.tuple #[v, ErrV r.1]) ∧ OB w' w.heap.size v r.2 ∧ Below w.heap.size w w'
set_option maxRecDepth 100000 in
theorem readD (w : World) (F : Nat → Prop) (a rm : Nat) (dn : Bool) (L : List Pt) (n : Int) (h : Dsk w F a rm dn L) (hi : Inv rm L) (h0 : -9223372036854775808 ≤ n) (h1 : n ≤ 9223372036854775807) :
    Calls Try.prog 31 #[.pointer (some ⟨a, 0, none⟩), .int .i64 n] w (Reads w (opRead dn L n)) := by
  obtain ⟨b, xs, hd, rfl, hF⟩ := h
  rcases findD w a b rm dn xs n hd h0 h1 hi.rise with ⟨hc, hC⟩ | ⟨rfl, x, q, A, cap, y, rfl, rfl, hx, hy, hC⟩
  · unfold opRead
    rw [if_neg hc]
    have HC := Lib.hid hC
    have CC := Lib.hid hc
    clear hd hF hi hC hc
    generalize missC dn (pts xs) n = c at *
    unfold errV at HC
    go_enter Try.func31, Try.ntmps31
    go_wp2_with fail
    refine HC.out.mono ?_
    rintro e w1 ⟨rfl, b1⟩
    have B1 := Lib.hid b1
    clear b1 HC
    go_wp2
    go_ret2
    have hB := B1.out.alloc B1.out.size (.cells #[.slice none 0 0, .int .i64 0] 55)
    exact ⟨.slice none 0 0, by rw [errV_ne CC.out]; rfl, OB.nil _ _, hB⟩
  · have hfx := find_x (v := .slice A q.b.length cap) (y := y) rfl hx
    have hu : used (pts (x ++ (q, Value.slice A q.b.length cap) :: y)) ≤ 1000000 := by have := hi.fits; have := hi.room; omega
    have hql : q.b.length ≤ 1000000 := by rw [used_mid] at hu; simp only at hu; omega
    unfold opRead
    rw [if_pos (miss_some hfx), bytes_some hfx]
    have hA := (hd.own (q, .slice A q.b.length cap) (by simp)).rd
    obtain ⟨A', cap', e', hr⟩ := hA
    cases e'
    have hr : RdS w A cap q.b := hr
    have CL : Hid (∀ w1, Below w.heap.size w w1 → Calls Try.prog 29 #[.slice A q.b.length cap] w1 fun e w' => ∃ v, e = .returned v ∧ OB w' w1.heap.size v q.b ∧ Below w1.heap.size w1 w') :=
      Lib.hid fun w1 hb => clone w1 A cap q.b (hr.below hb (Nat.le_refl _)) hql
    have HC := Lib.hid hC
    clear hd hF hi hC hx hy hu hfx hr hql
    go_enter Try.func31, Try.ntmps31
    go_wp2_with fail
    refine HC.out.mono ?_
    rintro e w1 ⟨rfl, b1⟩
    have hB := b1.alloc b1.size (.cells #[.slice A q.b.length cap, .int .i64 (q.s : Nat)] 55)
    have CM := Lib.hid (CL.out _ hB)
    have B1 := Lib.hid hB
    clear b1 HC CL hB
    go_wp2_with fail
    refine CM.out.mono ?_
    rintro e w2 ⟨v, rfl, o2, b2⟩
    have R2 : Hid (Reads w (0, q.b) (.returned (.tuple #[v, .nilIface])) w2) := Lib.hid ⟨v, rfl, owns_mono o2 B1.out.size, B1.out.trans (b2.mono B1.out.size)⟩
    clear o2 b2 CM
    go_wp2
    go_ret2
    exact R2.out

set_option maxRecDepth 100000 in
theorem removeD (w : World) (F : Nat → Prop) (a rm : Nat) (dn : Bool) (L : List Pt) (n : Int) (h : Dsk w F a rm dn L) (hi : Inv rm L) (hl : L.length ≤ 1000) (h0 : -9223372036854775808 ≤ n) (h1 : n ≤ 9223372036854775807) :
    Calls Try.prog 30 #[.pointer (some ⟨a, 0, none⟩), .int .i64 n] w (Ops w F a rm dn (opRemove dn L n)) := by
  obtain ⟨b, xs, hd, rfl, hF⟩ := h
  rcases findD w a b rm dn xs n hd h0 h1 hi.rise with ⟨hc, hC⟩ | ⟨rfl, x, q, A, cap, y, rfl, rfl, hx, hy, hC⟩
  · unfold opRemove
    rw [if_neg hc]
    have HD : Hid (Dsk w F a rm dn (pts xs)) := Lib.hid ⟨b, xs, hd, rfl, hF⟩
    have HC := Lib.hid hC
    have CC := Lib.hid hc
    clear hd hF hi hC hc
    generalize missC dn (pts xs) n = c at *
    unfold errV at HC
    go_enter Try.func30, Try.ntmps30
    go_wp2_with fail
    refine HC.out.mono ?_
    rintro e w1 ⟨rfl, b1⟩
    have B1 := Lib.hid b1
    clear b1 HC
    go_wp2
    go_ret
    have hB := B1.out.alloc B1.out.size (.cells #[.slice none 0 0, .int .i64 0] 55)
    exact ⟨by rw [errV_ne CC.out]; rfl, F, HD.out.below hB, Mv8.still hB⟩
  · have hfx := find_x (v := .slice A q.b.length cap) (y := y) rfl hx
    unfold opRemove
    rw [if_pos (miss_some hfx), del_x rfl hx]
    have hu := hi.fits
    have hrm := hi.room
    have UE : Hid (used (pts (x ++ (q, Value.slice A q.b.length cap) :: y)) = used (pts (x ++ y)) + q.b.length) := Lib.hid (used_mid _ _ _)
    have hd' : DkG w a b rm (used (pts (x ++ (q, Value.slice A q.b.length cap) :: y))) false (x ++ (q, Value.slice A q.b.length cap) :: y).length (ents (x ++ (q, Value.slice A q.b.length cap) :: y)) (x ++ (q, Value.slice A q.b.length cap) :: y) := hd
    rw [UE.out] at hu hd'
    generalize used (pts (x ++ y)) = us at hu UE hd' 
    have HC := Lib.hid hC
    have HD := Lib.hid hd'
    have HF := Lib.hid hF
    have HX := Lib.hid hx
    have HY := Lib.hid hy
    have lt := hd.lt
    clear hd hF hi hC hx hy hl hfx hd'
    go_enter Try.func30, Try.ntmps30
    go_wp2_with fail
    refine HC.out.mono ?_
    rintro e w1 ⟨rfl, b1⟩
    have d1 := (HD.out.below b1 (Nat.le_refl _)).alloc (.cells #[.slice A q.b.length cap, .int .i64 (q.s : Nat)] 55)
    have hB := b1.alloc b1.size (.cells #[.slice A q.b.length cap, .int .i64 (q.s : Nat)] 55)
    have q1 := d1.c1
    have f1 := d1.f 1
    have s1 := cell_of_block (o := 0) (heap_alloc_new w1 (.cells #[.slice A q.b.length cap, .int .i64 (q.s : Nat)] 55))
    have lt1 : w.heap.size ≤ w1.heap.size := b1.size
    have alt1 : a < w1.heap.size := by omega
    have D2 := (((HD.out.below b1 (Nat.le_refl _)).setU us).alloc (.cells #[.slice A q.b.length cap, .int .i64 (q.s : Nat)] 55)).drew
    have K2 := (((Keeps.of_below b1 (Nat.le_refl _) (foot a b (x ++ (q, .slice A q.b.length cap) :: y))).set ⟨a, 1, none⟩ (.int .i64 (us : Nat)) (.inl (.inl rfl))).alloc (.cells #[.slice A q.b.length cap, .int .i64 (q.s : Nat)] 55)).drew
    have M2 := Lib.hid D2.map
    have KO := Lib.hid (key_of q.n h0 h1)
    have D2 := Lib.hid D2
    have K2 := Lib.hid K2
    have c3 := (HD.out.below b1 (Nat.le_refl _)).c3
    clear b1 HC d1 hB
    go_wp2
    go_region
    go_wp2_with (first | (at_delete; refine wpList_delete_own _ rfl (.tmp 29) (.tmp 30) 41 3 rfl 55 keyed Try.underlying41 RV b _ _ rfl M2.out (.int .i64 q.n) _ rfl KO.out ?_; intro w2 hown2 hturn2) | fail)
    go_ret
    obtain ⟨d3, _, _⟩ := (D2.out.turned hown2 hturn2).less
    have d4 := d3.turned (w' := w2) (n' := (x ++ (q, Value.slice A q.b.length cap) :: y).length) (D' := ents (x ++ y)) (by rw [← del_ents (q := (q, .slice A q.b.length cap)) rfl HX.out HY.out]; exact hown2) hown2.turned_refl
    refine ⟨rfl, foot a b (x ++ y), ⟨b, _, ?_, rfl, fun g => Iff.rfl⟩, Mv8.of HF.out (K2.out.trans (map_turned hturn2 (fun g => g = b) rfl) (fun g e => .inl (.inr (.inl e)))) (fun z hz g hg => .inl (.inr (.inr ⟨z, ?_, hg⟩)))⟩
    · have hus : us = used (pts (x ++ y)) := by have := UE.out; rw [used_mid] at this; simp only at this; omega
      have d5 := d4.tight
      rw [hus] at d5
      exact d5
    · rcases List.mem_append.1 hz with hz | hz
      · exact List.mem_append.2 (.inl hz)
      · exact List.mem_append.2 (.inr (by simp [hz]))
end Go.Proofs.Ytgohgmihoggcpaa
