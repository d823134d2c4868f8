/-
  Layer 8: the parts stay in order and within the room; the head of its laws: the document's example.
-/
import Derived.Test.YtgohgmihoggcpaaDiskCrash
import Derived.Test.YtgohgmihoggcpaaEqlCode
import Derived.Lib.SlBytesConst
namespace Go.Proofs.Ytgohgmihoggcpaa
open Go.ChangeShapes Go.WideShapes Go.ChangeAt Go.RowKit
set_option linter.unusedVariables false

theorem inv_upd {rm : Nat} {L : List Pt} {n : Int} {f : Option Pt → Pt} (h : Inv rm L) (hf : ∀ q, q.n = n → q ∈ L → (f (some q)).n = n ∧ (f (some q)).s ≤ (f (some q)).b.length ∧ (f (some q)).b.length ≤ rm - used L + q.b.length)
    (hn : find n L = none → (f none).n = n ∧ (f none).s ≤ (f none).b.length ∧ (f none).b.length ≤ rm - used L ∧ 0 ≤ n ∧ n ≤ 9223372036854775807) : Inv rm (upd n f L) := by
  have hs := split n L h.rise
  cases hs with
  | has x q y hq hx hy =>
    rw [upd_has hq hx]
    obtain ⟨h1, h2, h3⟩ := hf q hq (by simp)
    have hu := h.fits
    rw [used_app, used_cons] at h3 hu
    exact h.mid (by rw [h1, hq]) h2 (by omega)
  | no x y hx hy =>
    rw [upd_no hy hx]
    obtain ⟨h1, h2, h3, h4, h5⟩ := hn (find_no hx hy)
    have hu := h.fits
    rw [used_app] at h3 hu
    exact h.into (fun q hq => by rw [h1]; exact hx q hq) (fun q hq => by rw [h1]; exact hy q hq) (by omega) (by omega) h2 (by omega)
theorem upd_length (n : Int) (f : Option Pt → Pt) : ∀ L, (upd n f L).length ≤ L.length + 1
  | [] => by simp [upd]
  | q :: r => by
    have := upd_length n f r
    unfold upd
    split
    · simp
    · split
      · simp
      · simp only [List.length_cons]; omega
theorem upd_here (n : Int) (f : Option Pt → Pt) : ∀ L, Rises L → find n L ≠ none → (upd n f L).length = L.length
  | [], _, h => absurd rfl h
  | q :: r, hr, h => by
    obtain ⟨h1, h2⟩ := List.pairwise_cons.1 hr
    unfold upd
    unfold find at h
    split
    · rfl
    · rename_i hne
      rw [if_neg hne] at h
      split
      · rename_i hlt
        exact absurd (find_none_of fun p hp => by have := h1 p hp; omega) h
      · rw [List.length_cons, upd_here n f r h2 h, List.length_cons]
theorem del_length (n : Int) : ∀ L, (del n L).length ≤ L.length
  | [] => Nat.le_refl _
  | q :: r => by
    have := del_length n r
    unfold del
    split
    · simp
    · simp only [List.length_cons]; omega
theorem append_inv {rm : Nat} {dn : Bool} {L : List Pt} {n : Int} {bs : List UInt8} (h : Inv rm L) (hn : n ≤ 9223372036854775807) : Inv rm (opAppend rm dn L n bs).2 := by
  unfold opAppend
  split
  · exact h
  · split
    · exact h
    · split
      · exact h
      · refine inv_upd h (fun q hq hm => ⟨hq, ?_, ?_⟩) (fun _ => ⟨rfl, Nat.zero_le _, ?_, by omega, hn⟩)
        · have := h.syn q hm
          simp only [joinP, List.length_append]; omega
        · simp only [joinP, List.length_append]; omega
        · simp only [joinP]; omega
theorem append_len (rm : Nat) (dn : Bool) (L : List Pt) (n : Int) (bs : List UInt8) : (opAppend rm dn L n bs).2.length ≤ L.length + 1 := by
  unfold opAppend
  split
  · exact Nat.le_succ _
  · split
    · exact Nat.le_succ _
    · split
      · exact Nat.le_succ _
      · exact upd_length _ _ _
theorem miss_find {dn : Bool} {L : List Pt} {n : Int} (h : missC dn L n = 0) : find n L ≠ none := by
  intro e
  unfold missC at h
  rw [e] at h
  cases dn <;> simp at h
theorem sync_inv {rm : Nat} {dn : Bool} {L : List Pt} {n : Int} (h : Inv rm L) : Inv rm (opSync dn L n).2 := by
  unfold opSync
  split
  · rename_i hm
    exact inv_upd h (fun q hq _ => ⟨hq, Nat.le_refl _, by simp only [syncP]; omega⟩) (fun e => absurd e (miss_find hm))
  · exact h
theorem sync_len {rm : Nat} {dn : Bool} {L : List Pt} {n : Int} (h : Inv rm L) : (opSync dn L n).2.length = L.length := by
  unfold opSync
  split
  · rename_i hm
    exact upd_here _ _ _ h.rise (miss_find hm)
  · rfl
theorem cut_inv {rm : Nat} {dn : Bool} {L : List Pt} {n m : Int} (h : Inv rm L) : Inv rm (opCut dn L n m).2 := by
  unfold opCut
  split
  · rename_i hm
    split
    · exact h
    · rename_i hc
      refine inv_upd h (fun q hq hq' => ⟨hq, ?_, ?_⟩) (fun e => absurd e (miss_find hm))
      · have hs := split n L h.rise
        have hl : lenOf n L = q.b.length := by
          cases hs with
          | has x p y hp hx hy =>
            have hpq : q = p := by
              rcases List.mem_append.1 hq' with h1 | h1
              · have := hx q h1; omega
              · rcases List.mem_cons.1 h1 with h1 | h1
                · exact h1
                · have := hy q h1; omega
            rw [hpq]
            exact len_some (find_has hp hx)
          | no x y hx hy => exact absurd (find_no hx hy) (miss_find hm)
        simp only [cutP, List.length_take]
        omega
      · simp only [cutP, List.length_take]; omega
  · exact h
theorem cut_len {rm : Nat} {dn : Bool} {L : List Pt} {n m : Int} (h : Inv rm L) : (opCut dn L n m).2.length = L.length := by
  unfold opCut
  split
  · rename_i hm
    split
    · rfl
    · exact upd_here _ _ _ h.rise (miss_find hm)
  · rfl
theorem remove_inv {rm : Nat} {dn : Bool} {L : List Pt} {n : Int} (h : Inv rm L) : Inv rm (opRemove dn L n).2 := by
  unfold opRemove
  split
  · rename_i hm
    have hs := split n L h.rise
    cases hs with
    | has x q y hq hx hy => show Inv rm (del n _); rw [del_has hq hx]; exact h.out
    | no x y hx hy => exact absurd (find_no hx hy) (miss_find hm)
  · exact h
theorem remove_len (dn : Bool) (L : List Pt) (n : Int) : (opRemove dn L n).2.length ≤ L.length := by
  unfold opRemove
  split
  · exact del_length _ _
  · exact Nat.le_refl _
theorem crash_inv {rm : Nat} {dn : Bool} {L : List Pt} {k : Int} (h : Inv rm L) : Inv rm (opCrash dn L k) := by
  unfold opCrash
  split
  · exact h
  · exact h.crash _
theorem opCrash_len (dn : Bool) (L : List Pt) (k : Int) : (opCrash dn L k).length = L.length := by
  unfold opCrash
  split
  · rfl
  · exact crash_length _ _

theorem Ops.out {w w' : World} {F : Nat → Prop} {a rm : Nat} {dn : Bool} {r : Nat × List Pt} {e : Ending} (h : Ops w F a rm dn r e w') : e = .returned (ErrV r.1) ∧ ∃ F', Dsk w' F' a rm dn r.2 ∧ Mv8 w F w' F' := h
/-- A row of two bytes, laid. -/
theorem two_row (w : World) (x y : UInt8) : RdS (w.alloc (.cells #[.int .u8 x.toNat, .int .u8 y.toNat] 5 (2, 3))) (some ⟨w.heap.size, 0, none⟩) 2 [x, y] :=
  by
  refine ⟨Nat.le_refl _, fun e => (by cases e), ?_⟩
  intro ad ha i c hc
  cases ha
  rw [Addr.add_lit, Nat.zero_add, cell_of_block (heap_alloc_new w _)]
  match i, hc with
  | 0, hc => cases hc; rfl
  | 1, hc => cases hc; rfl
theorem Mv8.below {w w' : World} {F F' : Nat → Prop} {B : Nat} (h : Mv8 w F w' F') (hF : ∀ g, F g → B ≤ g) (hB : B ≤ w.heap.size) : Below B w w' ∧ ∀ g, F' g → B ≤ g :=
  ⟨h.keeps.below hF hB, fun g hg => by
    rcases h.own g hg with e | e
    · exact hF g e
    · omega⟩
/-- A disk that is the call's own, and what was there is as it was. -/
def Own8 (W w : World) (a rm : Nat) (dn : Bool) (L : List Pt) : Prop := ∃ F, Dsk w F a rm dn L ∧ (∀ g, F g → W.heap.size ≤ g) ∧ Below W.heap.size W w
theorem Own8.step {W w w' : World} {F F' : Nat → Prop} {a rm : Nat} {dn : Bool} {L : List Pt} (hF : ∀ g, F g → W.heap.size ≤ g) (hB : Below W.heap.size W w) (hd : Dsk w' F' a rm dn L) (hm : Mv8 w F w' F') : Own8 W w' a rm dn L := by
  obtain ⟨h1, h2⟩ := hm.below hF hB.size
  exact ⟨F', hd, h2, hB.trans h1⟩
theorem Own8.still {W w w' : World} {a rm : Nat} {dn : Bool} {L : List Pt} (h : Own8 W w a rm dn L) (hb : Below w.heap.size w w') : Own8 W w' a rm dn L := by
  obtain ⟨F, h1, h2, h3⟩ := h
  exact ⟨F, h1.below hb, h2, h3.trans (hb.mono h3.size)⟩
section
variable {W w : World} {a rm : Nat} {dn : Bool} {L : List Pt}
theorem Own8.new (rm : Nat) (h0 : 1 ≤ rm) (h1 : rm ≤ 65536) (hb : Below W.heap.size W w) :
    Calls Try.prog 5 #[.int .i64 (rm : Nat)] w fun e w' => ∃ a, e = .returned (.tuple #[.pointer (some ⟨a, 0, none⟩), .nilIface]) ∧ Own8 W w' a rm false [] ∧ Below w.heap.size w w' := by
  refine (new_good w rm h0 h1).mono ?_
  rintro e w' ⟨a, F, rfl, hd, hb', hF⟩
  exact ⟨a, rfl, ⟨F, hd, fun g hg => Nat.le_trans hb.size (hF g hg), hb.trans (hb'.mono hb.size)⟩, hb'⟩
theorem Own8.append (h : Own8 W w a rm dn L) (n : Int) {B : Option Addr} {cb : Nat} {bs : List UInt8} (hr : RdS w B cb bs) (hi : Inv rm L) (hl : L.length ≤ 1000) (hn : n ≤ 9223372036854775807) (hb : bs.length ≤ 1000000) :
    Calls Try.prog 18 #[.pointer (some ⟨a, 0, none⟩), .int .i64 n, .slice B bs.length cb] w fun e w' => e = .returned (ErrV (opAppend rm dn L n bs).1) ∧ Own8 W w' a rm dn (opAppend rm dn L n bs).2 := by
  obtain ⟨F, h1, h2, h3⟩ := h
  refine (appendD w F a rm dn L n B cb bs h1 hr hi hl hn hb).mono ?_
  rintro e w' ⟨rfl, F', d, m⟩
  exact ⟨rfl, Own8.step h2 h3 d m⟩
theorem Own8.sync (h : Own8 W w a rm dn L) (n : Int) (hi : Inv rm L) (hl : L.length ≤ 1000) (h0 : -9223372036854775808 ≤ n) (h1 : n ≤ 9223372036854775807) :
    Calls Try.prog 21 #[.pointer (some ⟨a, 0, none⟩), .int .i64 n] w fun e w' => e = .returned (ErrV (opSync dn L n).1) ∧ Own8 W w' a rm dn (opSync dn L n).2 := by
  obtain ⟨F, h2, h3, h4⟩ := h
  refine (syncD w F a rm dn L n h2 hi hl h0 h1).mono ?_
  rintro e w' ⟨rfl, F', d, m⟩
  exact ⟨rfl, Own8.step h3 h4 d m⟩
theorem Own8.crash (h : Own8 W w a rm dn L) (k : Int) (hi : Inv rm L) (hl : L.length ≤ 1000) (hk : k ≤ 9223372036854775807) :
    Calls Try.prog 9 #[.pointer (some ⟨a, 0, none⟩), .int .i64 k] w fun e w' => e = .returned (.tuple #[]) ∧ Own8 W w' a rm true (opCrash dn L k) := by
  obtain ⟨F, h2, h3, h4⟩ := h
  refine (crashD w F a rm dn L k h2 hi hl hk).mono ?_
  rintro e w' ⟨rfl, F', d, m⟩
  exact ⟨rfl, Own8.step h3 h4 d m⟩
theorem Own8.up (h : Own8 W w a rm dn L) :
    Calls Try.prog 13 #[.pointer (some ⟨a, 0, none⟩)] w fun e w' => e = .returned (.tuple #[]) ∧ Own8 W w' a rm false L := by
  obtain ⟨F, h2, h3, h4⟩ := h
  refine (up_walk w F a rm dn L h2).mono ?_
  rintro e w' ⟨rfl, d, m⟩
  exact ⟨rfl, Own8.step h3 h4 d m⟩
theorem Own8.read (h : Own8 W w a rm dn L) (n : Int) (hi : Inv rm L) (h0 : -9223372036854775808 ≤ n) (h1 : n ≤ 9223372036854775807) :
    Calls Try.prog 31 #[.pointer (some ⟨a, 0, none⟩), .int .i64 n] w fun e w' => ∃ A cap, e = .returned (.tuple #[.slice A (opRead dn L n).2.length cap, ErrV (opRead dn L n).1]) ∧ RdS w' A cap (opRead dn L n).2 ∧ Own8 W w' a rm dn L ∧ Below w.heap.size w w' := by
  obtain ⟨F, h2, h3, h4⟩ := h
  refine (readD w F a rm dn L n h2 hi h0 h1).mono ?_
  rintro e w' ⟨v, rfl, o, b⟩
  obtain ⟨A, cap, rfl, r⟩ := o.rd
  exact ⟨A, cap, rfl, r, Own8.still ⟨F, h2, h3, h4⟩ b, b⟩
end
def exL1 : List Pt := [⟨0, [97, 98], 0⟩]
def exL2 : List Pt := [⟨0, [97, 98], 2⟩]
def exL3 : List Pt := [⟨0, [97, 98, 99, 100], 2⟩]
def exL4 : List Pt := [⟨0, [97, 98, 99], 3⟩]
theorem ex1 : opAppend 10 false [] 0 [97, 98] = (0, exL1) := rfl
theorem ex2 : opSync false exL1 0 = (0, exL2) := rfl
theorem ex3 : opAppend 10 false exL2 0 [99, 100] = (0, exL3) := rfl
theorem ex4 : opCrash false exL3 1 = exL4 := rfl
theorem ex5 : opAppend 10 true exL4 0 [] = (10, exL4) := rfl
theorem ex6 : opRead false exL4 0 = (0, [97, 98, 99]) := rfl

theorem conv_two (w : World) (x y : Value) : (convert 32 32 (.slice (some ⟨w.heap.size, 0, none⟩) 2 2)).run Try.prog (w.alloc (.cells #[x, y] 5)) = .ok (.slice (some ⟨w.heap.size, 0, none⟩) 2 2) (w.alloc (.cells #[x, y] 5 (2, 3))) :=
  Lib.run_convert_bytes_const (P := Try.prog) w 32 5 #[x, y] 2 2 Try.underlying32 Try.underlying5
theorem ErrV_code (c : Nat) (h : c ≠ 0) : ErrV c = .iface 40 (.int .i64 (c : Nat)) := errV_ne h
end Go.Proofs.Ytgohgmihoggcpaa
