/-
  Layer 8 (disk): Crash.
-/
import Derived.Test.YtgohgmihoggcpaaDiskParts
import Derived.Deep.LoopGhost
namespace Go.Proofs.Ytgohgmihoggcpaa
open Go.ChangeShapes Go.WideShapes Go.ChangeAt Go.RowKit
set_option linter.unusedVariables false

/-- How many are kept: below 0, none. -/
def keepN (k : Int) : Nat := k.toNat
def opCrash (dn : Bool) (L : List Pt) (k : Int) : List Pt := if dn then L else crash (keepN k) L
def Crashes (w : World) (F : Nat → Prop) (a rm : Nat) (dn : Bool) (L : List Pt) (k : Int) (e : Ending) (w' : World) : Prop :=
  e = .returned (.tuple #[]) ∧ ∃ F', Dsk w' F' a rm true (opCrash dn L k) ∧ Mv8 w F w' F'
theorem oi_shape {w : World} {B : Nat} {v : Value} {l : List Int} (h : OI w B v l) : ∃ A cap, v = .slice A l.length cap ∧ ∀ (i : Nat) (n : Int), l[i]? = some n → ∃ g, A = some ⟨g, 0, none⟩ := by
  rcases h.2 with ⟨rfl, e⟩ | ⟨g, cap, cur, rfl, _⟩
  · obtain rfl := List.length_eq_zero_iff.1 e
    exact ⟨none, 0, rfl, fun i n h => by simp at h⟩
  · exact ⟨_, cap, rfl, fun i n _ => ⟨g, rfl⟩⟩
theorem oi_cell {w : World} {B g m cap : Nat} {l : List Int} (h : OI w B (.slice (some ⟨g, 0, none⟩) m cap) l) {i : Nat} {n : Int} (hn : l[i]? = some n) : w.cell? ⟨g, i, none⟩ = some (.int .i64 n) := by
  have := World.ownsRow.cells h (g := g) rfl i _ (by rw [List.getElem?_map, hn]; rfl)
  rw [Addr.add_lit, Nat.zero_add] at this
  exact this
theorem oi_lt {w : World} {B : Nat} {v : Value} {l : List Int} (h : OI w B v l) : ∀ g, v.ownBlock = some g → B ≤ g ∧ g < w.heap.size := fun g hg => World.ownsRow.lt h g hg
theorem nums_length (L : List Pt) : (nums L).length = L.length := by unfold nums; rw [List.length_map]
/-- Half way: the parts ahead have been dealt with. -/
structure Cr (w : World) (F : Nat → Prop) (a rm : Nat) (L : List Pt) (keep : Nat) (v : Value) (k lf : Nat) (wx : World) : Prop where
  mid : ∃ F' X, Dsk wx F' a rm true (X ++ L.drop k) ∧ X.length = k ∧ crash keep L = X ++ crash lf (L.drop k) ∧ Mv8 w F wx F' ∧ Inv rm (X ++ L.drop k) ∧ ∀ g, v.ownBlock = some g → ¬ F' g
  row : OI wx 0 v (nums L)
/-- What a round meets: the part that is next, what the map tells of it, and what 'last' then comes to. -/
theorem Cr.round {w wx : World} {F : Nat → Prop} {a rm : Nat} {L : List Pt} {keep k lf : Nat} {v : Value} (h : Cr w F a rm L keep v k lf wx) (hkl : k < L.length) (hl : L.length ≤ 1000) :
    ∃ b q A cap, L[k]? = some q ∧ q.s ≤ q.b.length ∧ q.b.length ≤ 65536 ∧ 0 ≤ q.n ∧ q.n ≤ 9223372036854775807 ∧ a < wx.heap.size ∧ wx.cell? ⟨a, 3, none⟩ = some (.map (some b)) ∧
      (Instr.lookup 41 (.map (some b)) (.int .i64 q.n) false).run Try.prog wx = .ok (.agg #[.slice A q.b.length cap, .int .i64 (q.s : Nat)]) wx ∧
      ∀ o, Calls Try.prog 22 #[.pointer (some ⟨a, 0, none⟩), .int .i64 q.n, .int .i64 ((q.s + min lf (q.b.length - q.s) : Nat) : Int)] (wx.alloc o) fun e w' => e = .returned (.tuple #[]) ∧ Cr w F a rm L keep v (k + 1) (lf - min lf (q.b.length - q.s)) w' := by
  obtain ⟨⟨F', X, hd, hX, hcr, hm, hi, hfar⟩, hrow⟩ := h
  obtain ⟨p, hp⟩ : ∃ p, L[k]? = some p := ⟨L[k], List.getElem?_eq_getElem hkl⟩
  have hdr : L.drop k = p :: L.drop (k + 1) := by rw [List.drop_eq_getElem_cons hkl]; rw [List.getElem?_eq_getElem hkl] at hp; cases hp; rfl
  rw [hdr] at hd hcr hi
  have hfit : used X + (p.b.length + used (L.drop (k + 1))) ≤ rm := by have := hi.fits; rw [used_app, used_cons] at this; exact this
  have hrm := hi.room
  have hsyn := hi.syn p (by simp)
  have hlo := hi.lo p (by simp)
  have hhi := hi.hi p (by simp)
  have hfits := hi.fits
  obtain ⟨b, ys, hdk, hys, hF'⟩ := hd
  obtain ⟨x, r, rfl, hx, hr⟩ := List.map_eq_append_iff.1 hys
  obtain ⟨z, y, rfl, rfl, hyy⟩ := List.map_eq_cons_iff.1 hr
  obtain ⟨q, u⟩ := z
  obtain ⟨A, cap, e⟩ := owns_shape (hdk.own (q, u) (by simp))
  simp only at e hp hfit hsyn hlo hhi hcr hi hfits hdr
  subst e
  obtain ⟨hX1, hX2⟩ := hi.rise.mid
  have hx1 : ∀ z ∈ x, z.1.n < q.n := fun z hz => hX1 z.1 (by rw [← hx]; exact List.mem_map.2 ⟨z, hz, rfl⟩)
  have hy1 : ∀ z ∈ y, q.n < z.1.n := fun z hz => hX2 z.1 (by rw [← hyy]; exact List.mem_map.2 ⟨z, hz, rfl⟩)
  refine ⟨b, q, A, cap, hp, hsyn, by omega, hlo, hhi, hdk.lt, hdk.c3, look_has hdk.map (by omega) hhi rfl hx1, fun o => ?_⟩
  have hlen : (x ++ (q, Value.slice A q.b.length cap) :: y).length ≤ 1000 := by
    have h1 := congrArg List.length hx
    have h2 := congrArg List.length hyy
    rw [List.length_map] at h1 h2
    rw [List.length_drop] at h2
    simp only [List.length_append, List.length_cons]
    omega
  have hus : used (pts (x ++ (q, Value.slice A q.b.length cap) :: y)) ≤ 1000000 := by rw [hys]; simp only; omega
  refine (last_any (wx.alloc o) a b rm true x y q _ (q.s + min lf (q.b.length - q.s)) (hdk.alloc o) (by omega) hhi hx1 hy1 hlen hus (by omega)).mono ?_
  rintro e w' ⟨rfl, v', d', k', l'⟩
  have hk' : Keeps (foot a b (x ++ (q, Value.slice A q.b.length cap) :: y)) wx w' := ((Keeps.refl _ wx).alloc o).trans k' (fun g hg => .inl hg)
  have hsz : wx.heap.size < (wx.alloc o).heap.size := by simp
  have hm' := Mv8.of (w := wx) (w' := w') (F := F') (a := a) (b := b) (xs := x ++ (q, Value.slice A q.b.length cap) :: y) (xs' := x ++ (⟨q.n, q.b.take (q.s + min lf (q.b.length - q.s)), q.s + min lf (q.b.length - q.s)⟩, v') :: y) hF' hk' (foot_mid fun g hg => by
    rcases l' g hg with e | e
    · exact .inl e
    · exact .inr (by omega))
  have hvl := oi_lt hrow
  have hXp : pts x = X := hx
  have hyp : pts y = L.drop (k + 1) := hyy
  refine ⟨rfl, ⟨⟨_, X ++ [⟨q.n, q.b.take (q.s + min lf (q.b.length - q.s)), q.s + min lf (q.b.length - q.s)⟩], ⟨b, _, d', ?_, fun g => Iff.rfl⟩, by rw [List.length_append, List.length_singleton, hX], ?_, hm.trans hm', ?_, fun g hg hf => ?_⟩, ?_⟩⟩
  · rw [pts_mid, hXp, hyp, List.append_assoc]; rfl
  · rw [hcr, crash, List.append_assoc]; rfl
  · rw [List.append_assoc]
    refine hi.mid (p := ⟨q.n, q.b.take (q.s + min lf (q.b.length - q.s)), q.s + min lf (q.b.length - q.s)⟩) rfl ?_ ?_
    · simp only [List.length_take]; omega
    · simp only [List.length_take]; omega
  · rcases hm'.own g hf with e | e
    · exact hfar g hg e
    · have := (hvl g hg).2; omega
  · exact owns_keeps hrow hm'.keeps (fun g hg => hfar g hg)
set_option maxRecDepth 100000 in
theorem crash_up (w : World) (F : Nat → Prop) (a rm : Nat) (L : List Pt) (kp : Int) (h : Dsk w F a rm false L) (hi : Inv rm L) (hl : L.length ≤ 1000) (hk : kp ≤ 9223372036854775807) :
    Calls Try.prog 9 #[.pointer (some ⟨a, 0, none⟩), .int .i64 kp] w (Crashes w F a rm false L kp) := by
  obtain ⟨b, xs, hd, rfl, hF⟩ := h
  have c2 := hd.c2
  have f2 := hd.f 2
  have lt := hd.lt
  have m1 : Mv8 w F (w.setCell ⟨a, 2, none⟩ (.bool true)) F := ⟨(Keeps.refl F w).set _ _ (.inl ((hF a).2 (.inl rfl))), fun g hg => .inl hg⟩
  have d1 : Dsk (w.setCell ⟨a, 2, none⟩ (.bool true)) F a rm true (pts xs) := ⟨b, xs, hd.setD true, rfl, hF⟩
  have CP := Lib.hid (partsD _ F a rm true (pts xs) d1 hi.rise hl)
  have D1 := Lib.hid d1
  have M1 := Lib.hid m1
  have HI := Lib.hid hi
  clear hd hF d1 m1 hi
  generalize pts xs = L at *
  go_enter Try.func9, Try.ntmps9
  go_wp2_with fail
  rw [show max kp 0 = ((keepN kp : Nat) : Int) by unfold keepN; omega]
  refine CP.out.mono ?_
  rintro e w2 ⟨v, rfl, o2, b2⟩
  obtain ⟨A, cap, rfl, hA⟩ := oi_shape o2
  have hrow : OI w2 0 (.slice A (nums L).length cap) (nums L) := owns_mono o2 (Nat.zero_le _)
  have hfar : ∀ g, (Value.slice A (nums L).length cap).ownBlock = some g → ¬ F g := fun g hg hF => by
    have h1 := (oi_lt o2 g hg).1
    have h2 := D1.out.lt hF
    omega
  have hcr : Cr w F a rm L (keepN kp) (.slice A (nums L).length cap) 0 (keepN kp) w2 := ⟨⟨F, [], by simpa using D1.out.below b2, rfl, by simp, M1.out.trans (Mv8.still b2), by simpa using HI.out, hfar⟩, hrow⟩
  rw [nums_length] at hcr
  rw [nums_length]
  have hkn : keepN kp ≤ 9223372036854775807 := by unfold keepN; omega
  have HA := Lib.hid hA
  have HC := Lib.hid hcr
  clear o2 b2 hrow hfar hcr CP D1 M1 HI hA
  go_wp2_with fail
  go_loopg [4, 21] (L.length) (fun g s4 s21 wx => ∃ (k lf : Nat), k + g = L.length ∧ lf ≤ keepN kp ∧ s4 = .int .i64 lf ∧ s21 = .int .i64 k ∧ Hid (Cr w F a rm L (keepN kp) (.slice A L.length cap) k lf wx))
  case atStart => exact ⟨0, keepN kp, by omega, Nat.le_refl _, rfl, rfl, HC⟩
  case round =>
    clear HC
    obtain ⟨k, lf, hk, hlf, rfl, rfl, HC⟩ := hrel
    obtain ⟨⟨F', X, hd, hX, hcr, hm, hi, hfar⟩, hrow⟩ := HC.out
    cases gk with
    | zero =>
      have x1 : decide ((k : Int) < (L.length : Int)) = false := decide_eq_false (by omega)
      have FIN : Hid (Crashes w F a rm false L kp (.returned (.tuple #[])) wr) := Lib.hid (by
        rw [List.drop_of_length_le (by omega)] at hd hcr
        refine ⟨rfl, F', ?_, hm⟩
        unfold opCrash
        rw [if_neg (by simp), hcr]
        exact hd)
      clear hd hX hcr hm hi hfar hrow HC
      go_wp2_with fail
      go_end0
      exact FIN.out
    | succ gk =>
      have hkl : k < L.length := by omega
      have x1 : decide ((k : Int) < (L.length : Int)) = true := decide_eq_true (by omega)
      obtain ⟨b', q, A', cap', hq, hsyn, hqb, h0, h1, hla, c3, lk, hlast⟩ := HC.out.round hkl hl
      have hnq : (nums L)[k]? = some q.n := by unfold nums; rw [List.getElem?_map, hq]; rfl
      obtain ⟨g0, rfl⟩ := HA.out k q.n hnq
      have hc := oi_cell hrow hnq
      have CL := Lib.hid hlast
      clear hd hX hcr hm hi hfar hrow HC hlast hnq hq
      have em : min (lf : Int) ((q.b.length : Int) - (q.s : Int)) = ((min lf (q.b.length - q.s) : Nat) : Int) := by omega
      have EM := Lib.hid em
      have el : (lf : Int) - ((min lf (q.b.length - q.s) : Nat) : Int) = ((lf - min lf (q.b.length - q.s) : Nat) : Int) := by omega
      have EL := Lib.hid el
      have es : (q.s : Int) + ((min lf (q.b.length - q.s) : Nat) : Int) = ((q.s + min lf (q.b.length - q.s) : Nat) : Int) := by omega
      have ES := Lib.hid es
      clear em el es
      go_wp2_with fail
      rw [EM.out, EL.out, ES.out]
      refine (CL.out _).mono ?_
      rintro e w3 ⟨rfl, c'⟩
      have C3 := Lib.hid c'
      clear c' CL
      go_wp2_with fail
      go_roundg gk
      case rel => exact ⟨k + 1, lf - min lf (q.b.length - q.s), by omega, by omega, rfl, by go_num, C3⟩
      case measure => omega
theorem crashD (w : World) (F : Nat → Prop) (a rm : Nat) (dn : Bool) (L : List Pt) (kp : Int) (h : Dsk w F a rm dn L) (hi : Inv rm L) (hl : L.length ≤ 1000) (hk : kp ≤ 9223372036854775807) :
    Calls Try.prog 9 #[.pointer (some ⟨a, 0, none⟩), .int .i64 kp] w (Crashes w F a rm dn L kp) := by
  cases dn with
  | false => exact crash_up w F a rm L kp h hi hl hk
  | true =>
    have HD := Lib.hid h
    obtain ⟨b, xs, hd, hp, hF⟩ := h
    have c2 := hd.c2
    clear hd hF hp hi
    go_enter Try.func9, Try.ntmps9
    go_wp2_with fail
    refine bodyPost_ret (v := .tuple #[]) (by simp [results, Try.results9, go_sem]) rfl ?_
    exact ⟨rfl, F, HD.out, Mv8.still (Below.refl _ _)⟩
end Go.Proofs.Ytgohgmihoggcpaa
