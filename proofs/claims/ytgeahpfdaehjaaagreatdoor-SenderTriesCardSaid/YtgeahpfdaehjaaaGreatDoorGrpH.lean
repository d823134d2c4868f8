/-
  Layer 4: the document's own numerals.
  Layer 4: the document's own Head: the name and the tags of a line.
  Layer 4: the document's own Print.
  Layer 4: rows of bytes of one's own, appended to by strings and by bytes that are laid for it; blocks of another kind stay.
  Layer 4 (line): line.Print: the line of an event that may be, or the error ErrArg.
  Layer 4, of no program: a line that was printed parses as it was; what parses is printed as that line.
-/
import Derived.Test.YtgeahpfdaehjaaaGreatDoorGrpG
import Derived.Test.YtgeahpfdaehjaaaGreatDoorGrpF
import Derived.Laws.IdiomStrings
import Derived.Deep.RegionHeld3
import Derived.Test.YtgeahpfdaehjaaaGreatDoorGrpA
namespace Go.Proofs.YtgeahpfdaehjaaaGreatDoor
open Go.ChangeShapes Go.WideShapes Go.ChangeAt Go.RowKit
set_option linter.unusedVariables false

def SB (l : List UInt8) (w : World) (e : Ending) (w' : World) : Prop := e = .returned (.string ⟨l.toArray⟩) ∧ Below w.heap.size w w'
theorem conv_digit (w : World) (x : Int) (d : Nat) (hd : d < 10) (hx : x = ((48 + d : Nat) : Int)) :
    (convert 64 9 (.slice (some ⟨w.heap.size, 0, none⟩) 1 1)).run Tryz.prog (w.alloc (.cells #[.int .u8 x] 5)) = .ok (.string ⟨#[UInt8.ofNat (48 + d)]⟩) (w.alloc (.cells #[.int .u8 x] 5)) := by
  refine run_convert_bytes_back (P := Tryz.prog) (w.alloc (.cells #[.int .u8 x] 5)) 64 9 5 ⟨w.heap.size, 0, none⟩ 1 [UInt8.ofNat (48 + d)] Tryz.underlying64 Tryz.underlying5 Tryz.underlying9 (fun j hj => ?_)
  have hj : j < 1 := hj
  obtain rfl : j = 0 := by omega
  simp only [List.getElem_cons_zero]
  rw [digit_toNat d hd, ← hx]
  simp [Addr.add]
theorem str_app (x y : List UInt8) : (⟨x.toArray⟩ : ByteArray) ++ ⟨y.toArray⟩ = ⟨(x ++ y).toArray⟩ := by rw [ByteArray.mk_append_mk]
theorem nDigits_le (u : Nat) (hu : u < 18446744073709551616) : (Lib.decDigits u).length ≤ 20 := by
  rw [Lib.decDigits_length]
  rcases Nat.lt_or_ge 20 (Lib.nDigits u) with h | h
  · have := natOf_ge (c := 49) (l := []) (by decide) (by decide)
    have hl := Lib.decDigits_length u
    cases hd : Lib.decDigits u with
    | nil => exact absurd hd (dec_ne u)
    | cons c r =>
      rw [hd] at hl
      have hlead : c.toNat ≠ 48 := by
        rcases Nat.eq_zero_or_pos u with e | e
        · subst e; rw [Lib.decDigits_one (by omega)] at hd; cases hd; simp at hl; omega
        · exact dec_lead u e c (by rw [hd]; rfl)
      have h1 := natOf_ge (l := r) (dec_digits u c (by rw [hd]; simp)) hlead
      rw [← hd, natOf_dec] at h1
      have hp : 10 ^ 20 ≤ 10 ^ r.length := Nat.pow_le_pow_right (by omega) (by simp at hl; omega)
      have : (10 : Nat) ^ 20 = 100000000000000000000 := by decide
      omega
  · exact h

end Go.Proofs.YtgeahpfdaehjaaaGreatDoor
namespace Go.Proofs.YtgeahpfdaehjaaaGreatDoor
open Go.ChangeShapes Go.WideShapes Go.ChangeAt Go.RowKit
set_option linter.unusedVariables false

def tagL (t : ByteArray × ByteArray) : List UInt8 := 44 :: t.1.data.toList ++ 61 :: t.2.data.toList
def headL (n : ByteArray) (ts : Tags) : List UInt8 := n.data.toList ++ ts.flatMap tagL
theorem headL_next {n : ByteArray} {ts : Tags} {i : Nat} {x y : ByteArray} (h : ts[i]? = some (x, y)) : headL n (ts.take (i + 1)) = headL n (ts.take i) ++ tagL (x, y) := by
  obtain ⟨hl, e⟩ := List.getElem?_eq_some_iff.1 h
  unfold headL
  rw [List.take_succ_eq_append_getElem hl, e, List.flatMap_append]
  simp
theorem ba_app (x y : ByteArray) : (x ++ y).data.toList = x.data.toList ++ y.data.toList := by rw [ByteArray.data_append, Array.toList_append]
/-- What is told so far. -/
structure HeadTo (n : ByteArray) (ts : Tags) (i : Nat) (H : ByteArray) : Prop where
  eq : H.data.toList = headL n (ts.take i)
  le : H.size ≤ 100 + i * 202
theorem HeadTo.next {n : ByteArray} {ts : Tags} {i : Nat} {H x y : ByteArray} (h : HeadTo n ts i H) (hi : ts[i]? = some (x, y)) (sx : x.size ≤ 100) (sy : y.size ≤ 100) : HeadTo n ts (i + 1) (H ++ ⟨#[44]⟩ ++ x ++ ⟨#[61]⟩ ++ y) := by
  refine ⟨?_, ?_⟩
  · rw [headL_next hi, ← h.eq, ba_app, ba_app, ba_app, ba_app]
    unfold tagL
    simp
  · have := h.le
    simp only [ByteArray.size_append]
    have e1 : (⟨#[44]⟩ : ByteArray).size = 1 := rfl
    have e2 : (⟨#[61]⟩ : ByteArray).size = 1 := rfl
    omega

set_option maxHeartbeats 2000000 in
theorem refHead (n : ByteArray) (A : Option Addr) (c : Nat) (k v t : Int) (ts : Tags) (w : World) (hr : RdT w A ts) (hS : Small n ts) :
    Calls Tryz.prog 127 #[evVal n A ts.length c k v t] w (SB (headL n ts) w) := by
  have G0 := Lib.hid (Go4.start w n A c k v t ts hr)
  obtain ⟨hn, hl, hx⟩ := hS
  have HX := Lib.hid hx
  clear hx hr
  unfold evVal
  go_enter Tryz.func127, Tryz.ntmps127
  go_wp2_with fail
  go_loopg [3, 4] (ts.length) (fun g s3 s4 wx => ∃ (i : Nat) (H : ByteArray), i + g = ts.length ∧ s4 = .int .i64 i ∧ s3 = .string H ∧ Hid (HeadTo n ts i H ∧ Go4 w w.heap.size n A c k v t ts wx))
  case atStart => exact ⟨0, n, by omega, rfl, rfl, Lib.hid ⟨⟨by simp [headL], by omega⟩, G0.out⟩⟩
  case round =>
    clear G0
    obtain ⟨i, H, hig, rfl, rfl, HG⟩ := hrel
    have c1 := HG.out.2.ev.c1
    cases gk with
    | zero =>
      have e1 : decide ((i : Int) < (ts.length : Int)) = false := decide_eq_false (by omega)
      have e2 : decide (i < ts.length) = false := decide_eq_false (by omega)
      have HT : Hid (H = ⟨(headL n ts).toArray⟩) := Lib.hid (ba_ext (by rw [HG.out.1.eq, List.take_of_length_le (by omega)]))
      go_wp2_with fail
      go_ret
      exact ⟨by rw [← HT.out]; rfl, HG.out.2.below⟩
    | succ g =>
      have hlt : i < ts.length := by omega
      have hltz : (i : Int) < (ts.length : Int) := by omega
      obtain ⟨x, y, hxy⟩ : ∃ x y, ts[i]? = some (x, y) := ⟨_, _, List.getElem?_eq_getElem hlt⟩
      obtain ⟨b, o, hA, p0, p1⟩ := HG.out.2.at hxy
      obtain ⟨sx, sy⟩ := HX.out x y (List.mem_of_getElem? hxy)
      have HN := Lib.hid (HG.out.1.next hxy sx sy)
      have hle := HG.out.1.le
      clear hxy
      subst hA
      have z44 : (⟨#[44]⟩ : ByteArray).size = 1 := rfl
      have z61 : (⟨#[61]⟩ : ByteArray).size = 1 := rfl
      have q1 : (H ++ ⟨#[44]⟩ : ByteArray).size = H.size + 1 := by rw [ByteArray.size_append, z44]
      have q2 : (H ++ ⟨#[44]⟩ ++ x : ByteArray).size = H.size + 1 + x.size := by rw [ByteArray.size_append, q1]
      have q3 : (H ++ ⟨#[44]⟩ ++ x ++ ⟨#[61]⟩ : ByteArray).size = H.size + 1 + x.size + 1 := by rw [ByteArray.size_append, q2, z61]
      have k1 := fun w' : World => run_string_add_sum (P := Tryz.prog) w' H ⟨#[44]⟩ (by omega)
      have k2 := fun w' : World => run_string_add_sum (P := Tryz.prog) w' (H ++ ⟨#[44]⟩) x (by omega)
      have k3 := fun w' : World => run_string_add_sum (P := Tryz.prog) w' (H ++ ⟨#[44]⟩ ++ x) ⟨#[61]⟩ (by omega)
      have k4 := fun w' : World => run_string_add_sum (P := Tryz.prog) w' (H ++ ⟨#[44]⟩ ++ x ++ ⟨#[61]⟩) y (by omega)
      clear q1 q2 q3 z44 z61
      go_wp2_with fail
      go_quiet (fail)
      go_wp2_with fail
      go_roundg g
      case rel => exact ⟨i + 1, _, by omega, by go_num, rfl, Lib.hid ⟨HN.out, HG.out.2.drew _⟩⟩
      case measure => omega
end Go.Proofs.YtgeahpfdaehjaaaGreatDoor
namespace Go.Proofs.YtgeahpfdaehjaaaGreatDoor
open Go.ChangeShapes Go.WideShapes Go.ChangeAt Go.RowKit
set_option linter.unusedVariables false

def letter (k : Int) : UInt8 := if k = 1 then 99 else if k = 2 then 103 else 104
def printL (n : ByteArray) (ts : Tags) (k v t : Int) : List UInt8 := headL n ts ++ [32] ++ [letter k] ++ [32] ++ Lib.itoa v ++ [32] ++ Lib.itoa t
theorem tagL_len (x y : ByteArray) : (tagL (x, y)).length = x.size + y.size + 2 := by
  have e1 : x.data.toList.length = x.size := by simp
  have e2 : y.data.toList.length = y.size := by simp
  unfold tagL
  simp only [List.cons_append, List.length_cons, List.length_append]
  rw [e1, e2]
  omega
theorem headL_le {n : ByteArray} {ts : Tags} (h : Small n ts) : (headL n ts).length ≤ 5000 := by
  obtain ⟨h0, h1, h2⟩ := h
  have key : ∀ l : Tags, (∀ x y, (x, y) ∈ l → x.size ≤ 100 ∧ y.size ≤ 100) → (l.flatMap tagL).length ≤ l.length * 202 := by
    intro l
    induction l with
    | nil => intro _; simp
    | cons a r ih =>
      intro hl
      have := ih (fun x y hxy => hl x y (by simp [hxy]))
      obtain ⟨x, y⟩ := a
      have hx := hl x y (by simp)
      have hx1 := hx.1
      have hx2 := hx.2
      rw [List.flatMap_cons, List.length_append, List.length_cons, tagL_len]
      omega
  have := key ts h2
  unfold headL
  rw [List.length_append]
  have e : n.data.toList.length = n.size := by simp
  omega
theorem itoa_le (v : Int) (h0 : -9223372036854775808 ≤ v) (h1 : v ≤ 9223372036854775807) : (Lib.itoa v).length ≤ 30 := by
  unfold Lib.itoa
  split
  · have := nDigits_le v.natAbs (by omega); simp only [List.length_cons]; omega
  · have := nDigits_le v.toNat (by omega); omega

end Go.Proofs.YtgeahpfdaehjaaaGreatDoor
namespace Go.Proofs.YtgeahpfdaehjaaaGreatDoor
open Go.ChangeShapes Go.WideShapes Go.ChangeAt Go.RowKit
set_option linter.unusedVariables false

theorem EvB.gr {B : Nat} {w w' : World} {g : Nat} {n : ByteArray} {A : Option Addr} {l c : Nat} {k v t : Int} (h : EvB w g n A l c k v t) (r : Gr B w w') : EvB w' g n A l c k v t :=
  r.block h (fun _ _ e => by cases e)
theorem Go4.gr {w : World} {g : Nat} {n : ByteArray} {A : Option Addr} {c : Nat} {k v t : Int} {ts : Tags} {wr wr' : World} (h : Go4 w g n A c k v t ts wr) (hr : RdT w A ts) (r : Gr w.heap.size wr wr') : Go4 w g n A c k v t ts wr' :=
  ⟨h.below.trans r.below, h.ev.gr r, hr.below (h.below.trans r.below)⟩

/-- A round of Print's loop: a comma, the key, an equals sign, the value. -/
theorem round_made (w : World) (B : Nat) (v : Value) (l : List UInt8) (x y : ByteArray) (h : OB w B v l) (hB : B ≤ w.heap.size) (hl : l.length ≤ 5000) (sx : x.size ≤ 100) (sy : y.size ≤ 100) :
    ∃ v1 w1 v2 w2 v3 w3 v4 w4,
      (Builtin.append_ #[64, 64] 64 #[v, .slice (some ⟨w.heap.size + 1, 0, none⟩) 1 1]).run Tryz.prog ((w.alloc (.cells #[.string x, .string y] 198)).alloc (.cells #[.int .u8 44] 5)) = .ok v1 w1 ∧
      (Builtin.append_ #[64, 9] 64 #[v1, .string x]).run Tryz.prog w1 = .ok v2 w2 ∧
      (Builtin.append_ #[64, 64] 64 #[v2, .slice (some ⟨w2.heap.size, 0, none⟩) 1 1]).run Tryz.prog (w2.alloc (.cells #[.int .u8 61] 5)) = .ok v3 w3 ∧
      (Builtin.append_ #[64, 9] 64 #[v3, .string y]).run Tryz.prog w3 = .ok v4 w4 ∧
      w1.cell? ⟨w.heap.size, 0, none⟩ = some (.string x) ∧ w3.cell? ⟨w.heap.size, 1, none⟩ = some (.string y) ∧
      OB w4 B v4 (l ++ tagL (x, y)) ∧ Gr B w w4 := by
  have hx : x.data.toList.length = x.size := by simp
  have hy : y.data.toList.length = y.size := by simp
  have g0 := (Gr.refl B w).alloc hB (.cells #[.string x, .string y] 198)
  have hT : (w.alloc (.cells #[.string x, .string y] 198)).heap[w.heap.size]? = some (.cells #[.string x, .string y] 198 (0, 0)) := heap_alloc_new w _
  obtain ⟨v1, w1, r1, o1, g1⟩ := ob_lit (h.alloc (.cells #[.string x, .string y] 198)) [44] (by simp; omega) (Nat.le_trans hB g0.size)
  have g01 := g0.trans g1
  obtain ⟨v2, w2, r2, o2, g2⟩ := ob_str o1 x (by simp; omega) (Nat.le_trans hB g01.size)
  have g02 := g01.trans g2
  obtain ⟨v3, w3, r3, o3, g3⟩ := ob_lit o2 [61] (by simp; omega) (Nat.le_trans hB g02.size)
  have g03 := g02.trans g3
  obtain ⟨v4, w4, r4, o4, g4⟩ := ob_str o3 y (by simp; omega) (Nat.le_trans hB g03.size)
  refine ⟨v1, w1, v2, w2, v3, w3, v4, w4, ?_, r2, r3, r4, ?_, ?_, ?_, g03.trans g4⟩
  · rw [World.size_alloc] at r1; exact r1
  · exact cell_of_block (g1.block hT (fun _ _ e => by cases e))
  · exact cell_of_block ((g1.trans (g2.trans g3)).block hT (fun _ _ e => by cases e))
  · unfold tagL
    simpa using o4
end Go.Proofs.YtgeahpfdaehjaaaGreatDoor
namespace Go.Proofs.YtgeahpfdaehjaaaGreatDoor
open Go.ChangeShapes Go.WideShapes Go.ChangeAt Go.RowKit
set_option linter.unusedVariables false

def PrintBad (w : World) (e : Ending) (w' : World) : Prop := e = .returned (.tuple #[.string ⟨#[]⟩, .iface 41 (.int .i64 1)]) ∧ Below w.heap.size w w'
def PrintGood (l : List UInt8) (w : World) (e : Ending) (w' : World) : Prop := e = .returned (.tuple #[.string ⟨l.toArray⟩, .nilIface]) ∧ Below w.heap.size w w'

/-- Behind the loop: the kind's letter between spaces. -/
theorem ob_letter {w : World} {B : Nat} {v : Value} {l : List UInt8} (h : OB w B v l) (k : Int) (z : Int) (hk : (k = 1 ∧ z = 99) ∨ (k = 2 ∧ z = 103) ∨ (k = 3 ∧ z = 104)) (hl : l.length ≤ 5000) (hB : B ≤ w.heap.size) :
    ∃ v' w', (Builtin.append_ #[64, 64] 64 #[v, .slice (some ⟨w.heap.size, 0, none⟩) 3 3]).run Tryz.prog (w.alloc (.cells #[.int .u8 32, .int .u8 z, .int .u8 32] 5)) = .ok v' w' ∧ OB w' B v' (l ++ [32] ++ [letter k] ++ [32]) ∧ Gr B w w' := by
  obtain ⟨v', w', r, o, g⟩ := ob_lit h [32, letter k, 32] (by simp; omega) hB
  refine ⟨v', w', ?_, by simpa using o, g⟩
  have hz : Lib.byteCells [32, letter k, 32] = [.int .u8 32, .int .u8 z, .int .u8 32] := by
    rcases hk with ⟨rfl, rfl⟩ | ⟨rfl, rfl⟩ | ⟨rfl, rfl⟩ <;> rfl
  rw [hz] at r
  exact r
theorem ob_space {w : World} {B : Nat} {v : Value} {l : List UInt8} (h : OB w B v l) (hl : l.length ≤ 6000) (hB : B ≤ w.heap.size) :
    ∃ v' w', (Builtin.append_ #[64, 64] 64 #[v, .slice (some ⟨w.heap.size, 0, none⟩) 1 1]).run Tryz.prog (w.alloc (.cells #[.int .u8 32] 5)) = .ok v' w' ∧ OB w' B v' (l ++ [32]) ∧ Gr B w w' :=
  ob_lit h [32] (by simp; omega) hB
def Itoas (B : Nat) (l : List UInt8) (w : World) (e : Ending) (w' : World) : Prop := ∃ v', e = .returned v' ∧ OB w' B v' l ∧ Gr B w w'
def letterZ (k : Int) : Int := if k = 1 then 99 else if k = 2 then 103 else 104
theorem may_open {n : ByteArray} {ts : Tags} {k t : Int} (h : mayB n ts k t = true) : (k = 1 ∨ k = 2 ∨ k = 3) ∧ 0 ≤ t ∧ t ≤ 1099511627776 ∧ ts.length ≤ 6 := by
  unfold mayB restOk at h
  simp only [Bool.and_eq_true, decide_eq_true_eq] at h
  omega

end Go.Proofs.YtgeahpfdaehjaaaGreatDoor
namespace Go.Proofs.YtgeahpfdaehjaaaGreatDoor
open Go.RowKit
set_option linter.unusedVariables false

/-- What stands from a place on. -/
def From (s : ByteArray) (k : Nat) (l : List UInt8) : Prop := s.data.toList.drop k = l
theorem From.next {s : ByteArray} {k : Nat} {x l : List UInt8} (h : From s k (x ++ l)) : From s (k + x.length) l := by
  unfold From at h ⊢
  rw [← List.drop_drop, h, List.drop_left]
theorem From.one {s : ByteArray} {k : Nat} {c : UInt8} {l : List UInt8} (h : From s k (c :: l)) : From s (k + 1) l := From.next (x := [c]) h
theorem From.lt {s : ByteArray} {k : Nat} {c : UInt8} {l : List UInt8} (h : From s k (c :: l)) : k < s.size := by
  unfold From at h
  rcases Nat.lt_or_ge k s.size with h1 | h1
  · exact h1
  · rw [List.drop_eq_nil_of_le (by simpa using h1)] at h; cases h
theorem From.get {s : ByteArray} {k : Nat} {c : UInt8} {l : List UInt8} (h : From s k (c :: l)) : s[k]'h.lt = c := by
  have hk := h.lt
  unfold From at h
  rw [drop_at s k hk] at h
  exact (List.cons.inj h).1
theorem From.at {s : ByteArray} {k : Nat} {c : UInt8} {l : List UInt8} (h : From s k (c :: l)) : chr s k = c.toNat := by rw [chr_in h.lt, h.get]
theorem From.none {s : ByteArray} {k : Nat} (h : From s k []) : s.size ≤ k := by
  unfold From at h
  have := congrArg List.length h
  simp at this
  omega
theorem From.le {s : ByteArray} {k : Nat} {x l : List UInt8} (h : From s k (x ++ l)) (hk : k ≤ s.size) : k + x.length ≤ s.size := by
  unfold From at h
  have := congrArg List.length h
  simp at this
  omega
theorem takeWhile_pre (p : UInt8 → Bool) : ∀ (x l : List UInt8), (∀ c ∈ x, p c = true) → (∀ c, l.head? = some c → p c = false) → (x ++ l).takeWhile p = x
  | [], l, _, h => by
    cases l with
    | nil => rfl
    | cons c l => rw [List.nil_append, List.takeWhile_cons, if_neg (by rw [h c rfl]; simp)]
  | c :: x, l, hx, h => by
    rw [List.cons_append, List.takeWhile_cons, if_pos (hx c (by simp)), takeWhile_pre p x l (fun d hd => hx d (by simp [hd])) h]
theorem From.run {p : UInt8 → Bool} {s : ByteArray} {k : Nat} {x l : List UInt8} (h : From s k (x ++ l)) (hx : ∀ c ∈ x, p c = true) (hl : ∀ c, l.head? = some c → p c = false) : runEnd p s k = k + x.length := by
  unfold runEnd
  unfold From at h
  rw [h, takeWhile_pre p x l hx hl]
theorem From.cut {s : ByteArray} {k : Nat} {x l : List UInt8} (h : From s k (x ++ l)) : (s.extract k (k + x.length)).data.toList = x := by
  unfold From at h
  rw [extract_list, h, show k + x.length - k = x.length by omega, List.take_left]
theorem From.word {s w : ByteArray} {k : Nat} {l : List UInt8} (h : From s k (w.data.toList ++ l)) (hw : wordB w = true) (hl : ∀ c, l.head? = some c → inW c = false) :
    wordAt s k = some (k + w.size) ∧ s.extract k (k + w.size) = w := by
  have hsz : w.data.toList.length = w.size := by simp
  have hall : ∀ c ∈ w.data.toList, inW c = true := by
    unfold wordB at hw
    simp only [Bool.and_eq_true, List.all_eq_true] at hw
    exact hw.1.1
  have he : s.extract k (k + w.size) = w := ba_ext (by have := h.cut; rwa [hsz] at this)
  have hr := h.run hall hl
  rw [hsz] at hr
  refine ⟨?_, he⟩
  unfold wordAt
  rw [hr, he, if_pos hw]

/-- A printed line's tags, parsed. -/
theorem tags_parse {s : ByteArray} {l : List UInt8} : ∀ (ts : Tags) (n k : Nat) (acc : Tags), From s k (ts.flatMap tagL ++ 32 :: l) → ts.all tagOk = true → ts.length ≤ n →
    tagsFrom s n k acc = .good (k + (ts.flatMap tagL).length) (acc ++ ts)
  | [], n, k, acc, h, _, _ => by
    have hc : chr s k = 32 := From.at (show From s k (32 :: l) from h)
    cases n with
    | zero => unfold tagsFrom; rw [if_neg (by omega)]; simp
    | succ n => unfold tagsFrom; rw [if_neg (by omega)]; simp
  | (x, y) :: ts, n, k, acc, h, ho, hn => by
    simp only [List.all_cons, Bool.and_eq_true] at ho
    obtain ⟨ho1, ho2⟩ := ho
    have hxy : wordB x = true ∧ wordB y = true := by unfold tagOk at ho1; simpa using ho1
    have hx : x.data.toList.length = x.size := by simp
    have hy : y.data.toList.length = y.size := by simp
    cases n with
    | zero => simp at hn
    | succ n =>
      have h0 : From s k (44 :: (x.data.toList ++ 61 :: (y.data.toList ++ (ts.flatMap tagL ++ 32 :: l)))) := by
        rw [List.flatMap_cons, show tagL (x, y) = 44 :: x.data.toList ++ 61 :: y.data.toList from rfl] at h
        simpa using h
      have hc : chr s k = 44 := h0.at
      have h1 := h0.one
      obtain ⟨w1, e1⟩ := h1.word hxy.1 (fun c hc => by cases hc; decide)
      have h2 := h1.next
      rw [hx] at h2
      have hc2 : chr s (k + 1 + x.size) = 61 := h2.at
      have h3 := h2.one
      obtain ⟨w2, e2⟩ := h3.word hxy.2 (fun c hc => by
        cases ts with
        | nil => cases hc; decide
        | cons t ts => rw [List.flatMap_cons] at hc; unfold tagL at hc; cases hc; decide)
      have h4 := h3.next
      rw [hy] at h4
      have ih := tags_parse ts n _ (acc ++ [(x, y)]) h4 ho2 (by simpa using hn)
      unfold tagsFrom
      rw [if_pos hc, w1]
      simp only
      rw [if_pos hc2, w2]
      simp only
      rw [e1, e2, ih]
      have hlen : ((tagL (x, y)) ++ ts.flatMap tagL).length = (tagL (x, y)).length + (ts.flatMap tagL).length := List.length_append
      rw [List.flatMap_cons, hlen, tagL_len]
      simp only [List.append_assoc, List.singleton_append, TRes.good.injEq, and_true]
      omega
theorem itoa_ne (v : Int) : Lib.itoa v ≠ [] := by
  unfold Lib.itoa
  split
  · simp
  · exact dec_ne _
theorem itoa_val (v : Int) (h0 : -9223372036854775808 ≤ v) (h1 : v ≤ 9223372036854775807) : valOf (Lib.itoa v) = some v := by
  have key : ∀ (neg : Bool) (u : Nat), (neg = true → 1 ≤ u) → (u ≤ 9223372036854775807 ∨ (neg = true ∧ u = 9223372036854775808)) → valOf (signed neg (Lib.decDigits u)) = some (if neg then -(u : Int) else u) := by
    intro neg u hn hu
    unfold valOf
    rw [parseInt_digits neg _ (dec_ne u) (dec_digits u), natOf_dec, if_pos hu]
    simp only
    have ho : ¬ oddD neg (Lib.decDigits u) := by
      rintro (h | ⟨h1, h2⟩ | ⟨h1, h2⟩)
      · exact dec_ne u h
      · by_cases hu0 : 1 ≤ u
        · exact dec_lead u hu0 48 h2 rfl
        · have : u = 0 := by omega
          subst this
          rw [Lib.decDigits_one (by omega)] at h1
          simp at h1
      · exact dec_lead u (hn h1) 48 (by rw [h2]; rfl) rfl
    have hs := itoa_signed neg _ (dec_ne u) (dec_digits u) ho
    rw [natOf_dec] at hs
    rw [if_pos hs]
  unfold Lib.itoa
  split
  · have := key true v.natAbs (fun _ => by omega) (by
      by_cases h : v.natAbs ≤ 9223372036854775807
      · exact .inl h
      · exact .inr ⟨rfl, by omega⟩)
    simp only [signed, if_true] at this
    rw [this]
    simp only [Option.some.injEq]
    omega
  · have := key false v.toNat (by simp) (.inl (by omega))
    simp only [signed, Bool.false_eq_true, if_false] at this
    rw [this]
    simp only [Option.some.injEq]
    omega
theorem From.num {s : ByteArray} {k : Nat} {v lo hi : Int} {l : List UInt8} (h : From s k (Lib.itoa v ++ l)) (h0 : -9223372036854775808 ≤ v) (h1 : v ≤ 9223372036854775807) (hr : lo ≤ v ∧ v ≤ hi)
    (hl : ∀ c, l.head? = some c → isD c = false) : numEnd s k = k + (Lib.itoa v).length ∧ numAt s k lo hi = some v := by
  have he : numEnd s k = k + (Lib.itoa v).length := by
    unfold numEnd
    by_cases hv : v < 0
    · have e : Lib.itoa v = 45 :: Lib.decDigits v.natAbs := by unfold Lib.itoa; rw [if_pos hv]
      rw [e] at h ⊢
      rw [if_pos (show chr s k = 45 from h.at), h.one.run (dec_digits _) hl, List.length_cons]
      omega
    · have e : Lib.itoa v = Lib.decDigits v.toNat := by unfold Lib.itoa; rw [if_neg hv]
      rw [e] at h ⊢
      have hc : chr s k ≠ 45 := by
        cases hd : Lib.decDigits v.toNat with
        | nil => exact absurd hd (dec_ne _)
        | cons c r =>
          rw [hd] at h
          rw [From.at (show From s k (c :: (r ++ l)) from h)]
          have := (isD_iff c).1 (dec_digits v.toNat c (by rw [hd]; simp))
          omega
      rw [if_neg hc, h.run (dec_digits _) hl]
  refine ⟨he, ?_⟩
  unfold numAt
  rw [he, h.cut, itoa_val v h0 h1]
  simp only
  rw [if_pos hr]
theorem letter_kind {k : Int} (h : k = 1 ∨ k = 2 ∨ k = 3) : kindOf (letter k).toNat = some k := by rcases h with rfl | rfl | rfl <;> decide +kernel

theorem parse_print {n : ByteArray} {ts : Tags} {k v t : Int} (hm : mayB n ts k t = true) (v0 : -9223372036854775808 ≤ v) (v1 : v ≤ 9223372036854775807) :
    parseF ⟨(printL n ts k v t).toArray⟩ = .good ⟨n, ts, k, v, t⟩ := by
  obtain ⟨hk, t0, t1, h6⟩ := may_open hm
  have hn : wordB n = true ∧ ts.all tagOk = true := by
    unfold mayB at hm
    simp only [Bool.and_eq_true] at hm
    exact ⟨hm.1.1.1, hm.1.2⟩
  obtain ⟨s, hs⟩ : ∃ s : ByteArray, (⟨(printL n ts k v t).toArray⟩ : ByteArray) = s := ⟨_, rfl⟩
  have hF : From s 0 (n.data.toList ++ (ts.flatMap tagL ++ 32 :: (letter k :: 32 :: (Lib.itoa v ++ 32 :: (Lib.itoa t ++ []))))) := by
    unfold From
    rw [← hs]
    simp [printL, headL]
  have hsz : n.data.toList.length = n.size := by simp
  rw [hs]
  have hw := hF.word hn.1 (fun c hc => by
    cases ts with
    | nil => cases hc; decide
    | cons t ts => rw [List.flatMap_cons] at hc; unfold tagL at hc; cases hc; decide)
  have h1 := hF.next
  rw [hsz] at h1
  have ht := tags_parse ts 6 _ [] h1 hn.2 h6
  have h2 := h1.next
  have h3 := h2.one
  have h4 := h3.one
  have h5 := h4.one
  obtain ⟨ne, nv⟩ := h5.num (lo := -9223372036854775808) (hi := 9223372036854775807) v0 v1 ⟨v0, v1⟩ (fun c hc => by cases hc; decide)
  have h6 := h5.next
  have h7 := h6.one
  obtain ⟨te, tv⟩ := h7.num (lo := 0) (hi := 1099511627776) (by omega) (by omega) ⟨t0, t1⟩ (fun c hc => by cases hc)
  have h8 := h7.next.none
  unfold parseF
  rw [hw.1]
  simp only
  rw [ht]
  simp only [parseTags, parseKind, List.nil_append]
  rw [if_pos (show chr s _ = 32 from h2.at), h3.at, letter_kind hk]
  simp only [parseNum]
  rw [if_pos (show chr s _ = 32 from h4.at), nv]
  simp only [parseEnd]
  rw [ne, if_pos (show chr s _ = 32 from h6.at), tv]
  simp only
  rw [te, if_neg (by omega)]
  have e := hw.2
  rw [e]

/-! What parses is printed as that line. -/
theorem from_at (s : ByteArray) {k : Nat} (h : k < s.size) : From s k (s[k] :: s.data.toList.drop (k + 1)) := drop_at s k h
theorem chr_from {s : ByteArray} {k : Nat} {c : UInt8} (h : chr s k = c.toNat) (h0 : c.toNat ≠ 0) : s.data.toList.drop k = c :: s.data.toList.drop (k + 1) := by
  have hk := chr_lt_size (s := s) (k := k) (by omega)
  rw [drop_at s k hk]
  rw [chr_in hk] at h
  rw [UInt8.toNat_inj.1 h]
theorem drop_cut (s : ByteArray) {a b : Nat} (h : a ≤ b) : s.data.toList.drop a = (s.extract a b).data.toList ++ s.data.toList.drop b := by
  rw [extract_list]
  have := (List.take_append_drop (b - a) (s.data.toList.drop a)).symm
  rw [List.drop_drop, show a + (b - a) = b by omega] at this
  exact this
theorem tags_print {s : ByteArray} : ∀ (n k : Nat) (acc : Tags) (b : Nat) (ts : Tags), k ≤ s.size → tagsFrom s n k acc = .good b ts →
    ∃ us, ts = acc ++ us ∧ us.length ≤ n ∧ us.all tagOk = true ∧ s.data.toList.drop k = us.flatMap tagL ++ s.data.toList.drop b ∧ b ≤ s.size
  | 0, k, acc, b, ts, hk, h => by
    unfold tagsFrom at h
    split at h
    · cases h
    · cases h; exact ⟨[], by simp, by simp, by simp, by simp, hk⟩
  | n + 1, k, acc, b, ts, hk, h => by
    unfold tagsFrom at h
    split at h
    · rename_i hc
      split at h
      · cases h
      · rename_i j hj
        split at h
        · rename_i hd
          split at h
          · cases h
          · rename_i m hm
            have hk1 := chr_lt_size (s := s) (k := k) (by omega)
            have hb1 := chr_lt_size (s := s) (k := j) (by omega)
            obtain ⟨hkj, hjs⟩ := wordAt_le (by omega) hj
            obtain ⟨hjm, hms⟩ := wordAt_le (by omega) hm
            obtain ⟨us, e, hl, ha, hp, hb⟩ := tags_print n m _ b ts hms h
            refine ⟨(s.extract (k + 1) j, s.extract (j + 1) m) :: us, by rw [e]; simp, by simp; omega, ?_, ?_, hb⟩
            · rw [List.all_cons, ha]
              unfold tagOk
              simp [(wordAt_some hj).2, (wordAt_some hm).2]
            · rw [List.flatMap_cons, show tagL (s.extract (k + 1) j, s.extract (j + 1) m) = 44 :: (s.extract (k + 1) j).data.toList ++ 61 :: (s.extract (j + 1) m).data.toList from rfl]
              rw [chr_from (c := 44) hc (by decide), drop_cut s hkj, chr_from (c := 61) hd (by decide), drop_cut s hjm, hp]
              simp
        · cases h
    · cases h; exact ⟨[], by simp, by simp, by simp, by simp, hk⟩
theorem num_print {s : ByteArray} {k : Nat} {v lo hi : Int} (hk : k ≤ s.size) (h : numAt s k lo hi = some v) : s.data.toList.drop k = Lib.itoa v ++ s.data.toList.drop (numEnd s k) ∧ lo ≤ v ∧ v ≤ hi := by
  unfold numAt at h
  split at h
  · rename_i u hu
    split at h
    · rename_i hr
      cases h
      refine ⟨?_, hr⟩
      have e : Lib.itoa v = (s.extract k (numEnd s k)).data.toList := by
        unfold valOf at hu
        split at hu
        · split at hu
          · cases hu; assumption
          · cases hu
        · cases hu
      rw [e]
      exact drop_cut s (numEnd_le hk).1
    · cases h
  · cases h
theorem kind_letter {c : Nat} {k : Int} (h : kindOf c = some k) : (k = 1 ∨ k = 2 ∨ k = 3) ∧ c = (letter k).toNat := by
  unfold kindOf at h
  split at h
  · cases h; exact ⟨.inl rfl, by subst_vars; rfl⟩
  split at h
  · cases h; exact ⟨.inr (.inl rfl), by subst_vars; rfl⟩
  split at h
  · cases h; exact ⟨.inr (.inr rfl), by subst_vars; rfl⟩
  · cases h
theorem print_parse {s : ByteArray} {ev : Ev} (h : parseF s = .good ev) :
    mayB ev.name ev.tags ev.kind ev.time = true ∧ -9223372036854775808 ≤ ev.value ∧ ev.value ≤ 9223372036854775807 ∧ printL ev.name ev.tags ev.kind ev.value ev.time = s.data.toList := by
  unfold parseF at h
  split at h
  · cases h
  rename_i a ha
  obtain ⟨ha0, has⟩ := wordAt_le (Nat.zero_le _) ha
  have hw := (wordAt_some ha).2
  cases ht : tagsFrom s 6 a [] with
  | bad p => rw [ht] at h; cases h
  | good b ts =>
    obtain ⟨us, e, hl, hall, hp, hb⟩ := tags_print 6 a [] b ts has ht
    rw [List.nil_append] at e
    subst e
    rw [ht] at h
    simp only [parseTags, parseKind] at h
    split at h
    · rename_i c1
      split at h
      · cases h
      rename_i k hk
      obtain ⟨hk3, hkc⟩ := kind_letter hk
      have l0 : (letter k).toNat ≠ 0 := by rcases hk3 with rfl | rfl | rfl <;> decide
      simp only [parseNum] at h
      split at h
      · rename_i c2
        split at h
        · cases h
        rename_i v hv
        have b2 := chr_lt_size (s := s) (k := b + 1 + 1) (by omega)
        obtain ⟨pv, v0, v1⟩ := num_print (by omega) hv
        simp only [parseEnd] at h
        split at h
        · rename_i c3
          split at h
          · cases h
          rename_i t hT
          have b3 := chr_lt_size (s := s) (k := numEnd s (b + 1 + 1 + 1)) (by omega)
          obtain ⟨pt, t0, t1⟩ := num_print (by omega) hT
          split at h
          · cases h
          rename_i hend
          cases h
          refine ⟨?_, v0, v1, ?_⟩
          · unfold mayB restOk
            simp only [hw, hall, Bool.true_and, Bool.and_true, Bool.and_eq_true, decide_eq_true_eq]
            omega
          · show printL (s.extract 0 a) ts k v t = s.data.toList
            have e0 : s.data.toList = s.data.toList.drop 0 := rfl
            rw [e0, drop_cut s ha0, hp, chr_from (c := 32) c1 (by decide), chr_from hkc l0, chr_from (c := 32) c2 (by decide), pv, chr_from (c := 32) c3 (by decide), pt, List.drop_eq_nil_of_le (by simpa using hend)]
            simp [printL, headL]
        · cases h
      · cases h
    · cases h
theorem printL_le {n : ByteArray} {ts : Tags} {k v t : Int} (hm : mayB n ts k t = true) (v0 : -9223372036854775808 ≤ v) (v1 : v ≤ 9223372036854775807) : (printL n ts k v t).length ≤ 300 := by
  obtain ⟨hk, t0, t1, h6⟩ := may_open hm
  have hn : n.size ≤ 16 ∧ ts.all tagOk = true := by
    unfold mayB wordB at hm
    simp only [Bool.and_eq_true, decide_eq_true_eq] at hm
    exact ⟨hm.1.1.1.2, hm.1.2⟩
  have key : ∀ l : Tags, l.all tagOk = true → (l.flatMap tagL).length ≤ l.length * 34 := by
    intro l
    induction l with
    | nil => intro _; simp
    | cons a r ih =>
      intro hl
      rw [List.all_cons, Bool.and_eq_true] at hl
      have := ih hl.2
      obtain ⟨x, y⟩ := a
      have hx : x.size ≤ 16 ∧ y.size ≤ 16 := by
        have := hl.1
        unfold tagOk wordB at this
        simp only [Bool.and_eq_true, decide_eq_true_eq] at this
        exact ⟨this.1.2, this.2.2⟩
      rw [List.flatMap_cons, List.length_append, List.length_cons, tagL_len]
      omega
  have h1 := key ts hn.2
  have e : n.data.toList.length = n.size := by simp
  have lv : (Lib.itoa v).length ≤ 21 := by
    unfold Lib.itoa
    split
    · have := nDigits_le v.natAbs (by omega); simp only [List.length_cons]; omega
    · have := nDigits_le v.toNat (by omega); omega
  have lt : (Lib.itoa t).length ≤ 20 := by
    unfold Lib.itoa
    rw [if_neg (by omega)]
    exact nDigits_le t.toNat (by omega)
  unfold printL headL
  simp only [List.length_append, List.length_cons, List.length_nil]
  omega
theorem small_of_may {n : ByteArray} {ts : Tags} {k t : Int} (hm : mayB n ts k t = true) : Small n ts := by
  obtain ⟨hk, t0, t1, h6⟩ := may_open hm
  unfold mayB wordB at hm
  simp only [Bool.and_eq_true, decide_eq_true_eq, List.all_eq_true] at hm
  refine ⟨by have := hm.1.1.1.2; omega, by omega, fun x y h => ?_⟩
  have := hm.1.2 (x, y) h
  unfold tagOk wordB at this
  simp only [Bool.and_eq_true, decide_eq_true_eq] at this
  omega
end Go.Proofs.YtgeahpfdaehjaaaGreatDoor
