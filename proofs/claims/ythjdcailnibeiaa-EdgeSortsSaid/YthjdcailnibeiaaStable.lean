/-
  The library's stable sort at float64, walked: a sorted permutation.
-/
import Derived.Test.YthjdcailnibeiaaSymMain
namespace Go.Proofs.Ythjdcailnibeiaa
open Go.Shelf Go.RowKit Go.Lib Go.Sort
set_option linter.unusedVariables false

/-- From a on, blocks of so many, each sorted; the last one may be shorter. -/
inductive Runs (bs n : Nat) (d : Array UInt64) : Nat → Prop
  | done (a : Nat) (h : n ≤ a) : Runs bs n d a
  | step (a : Nat) (h : SortedIn ltF a (min n (a + bs)) d) (r : Runs bs n d (a + bs)) : Runs bs n d a
/-- Up to a, blocks of so many, each sorted. -/
inductive Pre (bs : Nat) (d : Array UInt64) : Nat → Prop
  | nil : Pre bs d 0
  | snoc (a : Nat) (p : Pre bs d a) (h : SortedIn ltF a (a + bs) d) : Pre bs d (a + bs)

theorem SortedIn.congr {a b : Nat} {d d' : Array UInt64} (h : SortedIn ltF a b d) (e : ∀ x, a ≤ x → x < b → d'[x]! = d[x]!) : SortedIn ltF a b d' := by
  intro i j h1 h2 h3
  rw [e i h1 (by omega), e j (by omega) h3]
  exact h i j h1 h2 h3
theorem Runs.congr {bs n a : Nat} {d d' : Array UInt64} (h : Runs bs n d a) (e : ∀ x, a ≤ x → d'[x]! = d[x]!) : Runs bs n d' a := by
  induction h with
  | done a h => exact .done a h
  | step a h r ih => exact .step a (SortedIn.congr h fun x h1 _ => e x h1) (ih fun x hx => e x (by omega))
theorem Pre.congr {bs a : Nat} {d d' : Array UInt64} (h : Pre bs d a) (e : ∀ x, x < a → d'[x]! = d[x]!) : Pre bs d' a := by
  induction h with
  | nil => exact .nil
  | snoc a p h ih => exact .snoc a (ih fun x hx => e x (by omega)) (SortedIn.congr h fun x _ h2 => e x h2)
theorem Pre.runs {bs n a : Nat} {d : Array UInt64} (h : Pre bs d a) (hn : a ≤ n) (r : Runs bs n d a) : Runs bs n d 0 := by
  induction h with
  | nil => exact r
  | snoc a p h ih => exact ih (by omega) (.step a (by rw [Nat.min_eq_right (by omega)]; exact h) r)
theorem Runs.first {bs n a : Nat} {d : Array UInt64} (h : Runs bs n d a) : SortedIn ltF a (min n (a + bs)) d := by
  cases h with
  | done _ h => intro i j h1 h2 h3; omega
  | step _ h r => exact h
theorem Runs.next {bs n a : Nat} {d : Array UInt64} (h : Runs bs n d a) : Runs bs n d (a + bs) := by
  cases h with
  | done _ h => exact .done _ (by omega)
  | step _ h r => exact r
theorem Runs.all {bs n : Nat} {d : Array UInt64} (h : Runs bs n d 0) (hn : n ≤ bs) : SortedIn ltF 0 n d := by
  have := h.first
  rwa [Nat.min_eq_left (by omega)] at this
theorem Pre.last {bs n a : Nat} {d d' : Array UInt64} (h : Pre bs d a) (hn : a ≤ n) (hb : n ≤ a + bs) (hP : PermIn a n d d') (hS : SortedIn ltF a n d') : Runs bs n d' 0 := by
  refine (h.congr (d' := d') fun x hx => hP.2.1 x (Or.inl hx)).runs hn (.step a ?_ (.done _ (by omega)))
  rw [Nat.min_eq_left (by omega)]; exact hS
theorem Pre.more {bs a b : Nat} {d d' : Array UInt64} (h : Pre bs d a) (e : b = a + bs) (hP : PermIn a b d d') (hS : SortedIn ltF a b d') : Pre bs d' b := by
  subst e
  exact .snoc a (h.congr fun x hx => hP.2.1 x (Or.inl hx)) hS

set_option maxHeartbeats 8000000 in
set_option maxRecDepth 100000 in
theorem stable_walk (blk off cap : Nat) (d : Array UInt64) (w : World) (R : Row1 encF w blk off d) (hsz : d.size ≤ 1000000) :
    Calls Try.prog 33 #[.slice (some ⟨blk, off, none⟩) d.size cap, .int .i64 d.size, .func (.func 30) #[] #[]] w
      (SortsTo w blk off fun d' => PermIn 0 d.size d d' ∧ SortedIn ltF 0 d.size d') := by
  have S0 : Aside (SW encF w blk off d w) := SW.start R.hH
  have RR : Aside _ := R
  have HIns : Hid (∀ (a b : Nat) (dk : Array UInt64) (wx : World), dk.size = d.size → a ≤ b → b ≤ d.size → SW encF w blk off dk wx →
      Calls Try.prog 35 #[.slice (some ⟨blk, off, none⟩) d.size cap, .int .i64 a, .int .i64 b, .func (.func 30) #[] #[]] wx
        (SortsTo w blk off fun d' => PermIn a b dk d' ∧ SortedIn ltF a b d')) := fun a b dk wx hz h1 h2 hS => by
    have := ins_walk blk off cap a b d dk w wx R hz.symm hS h1 (by omega) (by omega)
    rwa [hz] at this
  have HSym : Hid (∀ (a m b : Nat) (dk : Array UInt64) (wx : World), dk.size = d.size → a < m → m < b → b ≤ d.size → SortedIn ltF a m dk → SortedIn ltF m b dk → SW encF w blk off dk wx →
      Calls Try.prog 36 #[.slice (some ⟨blk, off, none⟩) d.size cap, .int .i64 a, .int .i64 m, .int .i64 b, .func (.func 30) #[] #[]] wx
        (SortsTo w blk off fun d' => PermIn a b dk d' ∧ SortedIn ltF a b d')) := fun a m b dk wx hz h1 h2 h3 h4 h5 hS => by
    have := symMerge_walk blk off cap d w R (by omega) (b - a) a m b dk wx (Nat.le_refl _) h1 h2 (by omega) hz.symm h4 h5 hS
    rwa [hz] at this
  generalize hn : d.size = n at *
  clear R
  go_enter Try.func33, Try.ntmps33
  go_wp2
  go_loopg [7, 8] n (fun g va vb wr => ∃ (a b : Nat) (dk : Array UInt64), va = .int .i64 a ∧ vb = .int .i64 b ∧ Hid (b = a + 20) ∧ a ≤ n ∧ b ≤ n + 20 ∧ n - a ≤ g ∧ dk.size = n ∧ Aside (SW encF w blk off dk wr) ∧ Aside (PermIn 0 n d dk ∧ Pre 20 dk a))
  case atStart => exact ⟨0, 20, d, rfl, rfl, rfl, Nat.zero_le _, by omega, by omega, hn, S0, permIn_refl _ _ _, .nil⟩
  case round =>
    clear S0
    obtain ⟨a, b, dk, rfl, rfl, hb, han, hbn, hg, hz, SJ, T⟩ := hrel
    by_cases hle : b ≤ n
    · have hlez : (b : Int) ≤ (n : Int) := by omega
      have C := Lib.hid (HIns.out a b dk wr hz (by have := hb.out; omega) hle SJ.out)
      go_wp2_with ((go_at_call 35; refine C.out.mono ?_); rintro e1 w' ⟨rfl, d', hR, hS⟩)
      go_roundg (gk - 1)
      case measure => have := hb.out; omega
      case rel =>
        have hb' := hb.out
        refine ⟨b, b + 20, d', rfl, by go_num, rfl, hle, by omega, by omega, by rw [hR.1.1]; exact hz, hS, ?_, ?_⟩
        · exact permIn_trans _ _ _ _ _ T.out.1 (permIn_mono dk d' a b 0 n (by omega) (by omega) (by omega) hR.1)
        · exact T.out.2.more hb' hR.1 hR.2
    · have hlez : ¬ (b : Int) ≤ (n : Int) := by omega
      have C := Lib.hid (HIns.out a n dk wr hz han (Nat.le_refl _) SJ.out)
      go_wp2_with ((go_at_call 35; refine C.out.mono ?_); rintro e1 w1 ⟨rfl, d1, hR, hS⟩)
      have hz1 : d1.size = n := by rw [hR.1.1]; exact hz
      have T1 : Aside (PermIn 0 n d d1 ∧ Runs 20 n d1 0) := ⟨permIn_trans _ _ _ _ _ T.out.1 (permIn_mono dk d1 a n 0 n (by omega) (by omega) (by omega) hR.1), T.out.2.last han (by have := hb.out; omega) hR.1 hR.2⟩
      have S1 : Aside (SW encF w blk off d1 w1) := hS
      clear C hR hS SJ T hz hg
      go_wp2
      go_loopg [6] n (fun g v6 wr => ∃ (bs : Nat) (dk : Array UInt64), v6 = .int .i64 bs ∧ 0 < bs ∧ bs ≤ 2 * n + 20 ∧ n - bs ≤ g ∧ dk.size = n ∧ Aside (SW encF w blk off dk wr) ∧ Aside (PermIn 0 n d dk ∧ Runs bs n dk 0))
      case atStart => exact ⟨20, d1, rfl, by omega, by omega, by omega, hz1, S1, T1⟩
      case round =>
        clear S1 T1 hz1 
        obtain ⟨bs, dk, rfl, hb0, hbb, hg, hz, SJ, T⟩ := hrel
        by_cases hlt : bs < n
        · have hltz : (bs : Int) < (n : Int) := by omega
          obtain ⟨c2, hc2⟩ : ∃ c, c = 2 * bs := ⟨_, rfl⟩
          have z2 : IntKind.i64.wrap (2 * (bs : Int)) = (c2 : Int) := by rw [IntKind.wrap_i64]; omega
          have z3 : IntKind.i64.wrap ((bs : Int) * 2) = (c2 : Int) := by rw [IntKind.wrap_i64]; omega
          have bc2 : c2 ≤ 2 * n := by omega
          have HC2 := Lib.hid hc2
          clear hc2
          go_wp2
          go_loopg [7, 8] n (fun g va vb wr => ∃ (a b : Nat) (dj : Array UInt64), va = .int .i64 a ∧ vb = .int .i64 b ∧ Hid (b = a + c2) ∧ a ≤ n ∧ b ≤ 3 * n ∧ n - a ≤ g ∧ dj.size = n ∧ Aside (SW encF w blk off dj wr) ∧ Aside (PermIn 0 n d dj ∧ Pre c2 dj a ∧ Runs bs n dj a))
          case atStart => exact ⟨0, c2, dk, rfl, rfl, by show c2 = 0 + c2; omega, Nat.zero_le _, by omega, by omega, hz, SJ, T.out.1, .nil, T.out.2⟩
          case round =>
            clear SJ T hz
            obtain ⟨a, b, dj, rfl, rfl, hb, han, hbn, hg2, hz, SJ, T⟩ := hrel
            obtain ⟨m, hm⟩ : ∃ m, m = a + bs := ⟨_, rfl⟩
            have zm : IntKind.i64.wrap ((a : Int) + (bs : Int)) = (m : Int) := by rw [IntKind.wrap_i64]; omega
            have HM := Lib.hid hm
            have hmn : m ≤ 2 * n := by omega
            clear hm
            by_cases hle : b ≤ n
            · have hlez : (b : Int) ≤ (n : Int) := by omega
              have C : Hid (Calls Try.prog 36 #[.slice (some ⟨blk, off, none⟩) n cap, .int .i64 a, .int .i64 m, .int .i64 b, .func (.func 30) #[] #[]] wr
                  (SortsTo w blk off fun d' => PermIn a b dj d' ∧ SortedIn ltF a b d')) := by
                have k1 := HM.out
                have k2 := hb.out
                have k3 := HC2.out
                have f1 := T.out.2.2.first
                have f2 := T.out.2.2.next.first
                rw [Nat.min_eq_right (by omega), ← k1] at f1
                rw [← k1, Nat.min_eq_right (by omega)] at f2
                have k4 : m + bs = b := by omega
                rw [k4] at f2
                exact HSym.out a m b dj wr hz (by omega) (by omega) hle f1 f2 SJ.out
              go_wp2_with ((go_at_call 36; refine C.out.mono ?_); rintro e1 w' ⟨rfl, d', hR, hS⟩)
              go_roundg (gk - 1)
              case measure => have := hb.out; have := HC2.out; omega
              case rel =>
                have k1 := HM.out
                have k2 := hb.out
                have k3 := HC2.out
                refine ⟨b, b + c2, d', rfl, by go_num, rfl, hle, by omega, by omega, by rw [hR.1.1]; exact hz, hS, ?_, ?_, ?_⟩
                · exact permIn_trans _ _ _ _ _ T.out.1 (permIn_mono dj d' a b 0 n (by omega) (by omega) (by omega) hR.1)
                · exact T.out.2.1.more k2 hR.1 hR.2
                · have r := T.out.2.2.next.next
                  have e : a + bs + bs = b := by omega
                  rw [e] at r
                  exact r.congr fun x hx => hR.1.2.1 x (Or.inr hx)
            · have hlez : ¬ (b : Int) ≤ (n : Int) := by omega
              by_cases hmn2 : m < n
              · have hmz : (m : Int) < (n : Int) := by omega
                have C : Hid (Calls Try.prog 36 #[.slice (some ⟨blk, off, none⟩) n cap, .int .i64 a, .int .i64 m, .int .i64 n, .func (.func 30) #[] #[]] wr
                    (SortsTo w blk off fun d' => PermIn a n dj d' ∧ SortedIn ltF a n d')) := by
                  have k1 := HM.out
                  have k2 := hb.out
                  have k3 := HC2.out
                  have f1 := T.out.2.2.first
                  have f2 := T.out.2.2.next.first
                  rw [Nat.min_eq_right (by omega), ← k1] at f1
                  rw [← k1, Nat.min_eq_left (by omega)] at f2
                  exact HSym.out a m n dj wr hz (by omega) hmn2 (Nat.le_refl _) f1 f2 SJ.out
                go_wp2_with ((go_at_call 36; refine C.out.mono ?_); rintro e1 w' ⟨rfl, d', hR, hS⟩)
                go_roundg (n - c2)
                case measure => have := HC2.out; omega
                case rel =>
                  have k1 := HM.out
                  have k2 := hb.out
                  have k3 := HC2.out
                  refine ⟨c2, d', rfl, by omega, by omega, by omega, by rw [hR.1.1]; exact hz, hS, ?_, ?_⟩
                  · exact permIn_trans _ _ _ _ _ T.out.1 (permIn_mono dj d' a n 0 n (by omega) (by omega) (by omega) hR.1)
                  · exact T.out.2.1.last han (by omega) hR.1 hR.2
              · have hmz : ¬ (m : Int) < (n : Int) := by omega
                go_wp2
                go_roundg (n - c2)
                case measure => have := HC2.out; omega
                case rel =>
                  have k1 := HM.out
                  have k2 := hb.out
                  have k3 := HC2.out
                  refine ⟨c2, dj, rfl, by omega, by omega, by omega, hz, SJ, T.out.1, ?_⟩
                  refine T.out.2.1.last han (by omega) (permIn_refl _ _ _) ?_
                  have f1 := T.out.2.2.first
                  rwa [Nat.min_eq_left (by omega)] at f1
        · have hltz : ¬ (bs : Int) < (n : Int) := by omega
          go_wp2
          go_end0
          exact ⟨rfl, dk, ⟨T.out.1, T.out.2.all (by omega)⟩, SJ.out⟩
end Go.Proofs.Ythjdcailnibeiaa
