/-
  Layer 9 (journal): the law's deeds as steps of the invariant: a record appended, all synced, a crash, opened again.
-/
import Derived.Test.YtgohgmihoggcpaaJournalLaw
namespace Go.Proofs.Ytgohgmihoggcpaa
open Go.ChangeShapes Go.WideShapes Go.ChangeAt Go.RowKit
set_option linter.unusedVariables false

section
variable {l : List Rc} {X G : List Sg} {g : Sg} {i sy rm : Nat} {b : Rc} {many : Int}
theorem Lst.more {G' : List Sg} (h : Lst l i sy G) (hb : l[i]? = some b) (hbl : 1 ≤ b.length ∧ b.length ≤ 1000) (hs : ∃ X g, G' = X ++ [g] ∧ St l X g (i + 1) sy) : Lst l (i + 1) sy G' where
  good r hr := by
    rw [List.take_add_one, hb] at hr
    rcases List.mem_append.1 hr with h1 | h1
    · exact h.good r h1
    · simp at h1; subst h1; exact hbl
  il := by have := (List.getElem?_eq_some_iff.1 hb).1; omega
  ll := h.ll
  si := by have := h.si; omega
  st := .inr hs
theorem Lst.stepA (h : Lst l i sy G) (hb : l[i]? = some b) (hbl : 1 ≤ b.length ∧ b.length ≤ 1000) (hi : Inv rm (G.map Sg.pt)) (hrm : 40000 ≤ rm) :
    ∃ G', Lst l (i + 1) sy G' ∧ recs G' = recs G ++ [b] ∧ ((jFull many (G.map (·.n)) (recs G) = true ∧ ∃ L1, jSync false (G.map Sg.pt) (G.map (·.n)) = (0, L1) ∧ opAppend rm false L1 (jNext (G.map (·.n)) (recs G)) (encR b) = (0, G'.map Sg.pt) ∧ G'.map (·.n) = G.map (·.n) ++ [jNext (G.map (·.n)) (recs G)]) ∨
      (jFull many (G.map (·.n)) (recs G) = false ∧ opAppend rm false (G.map Sg.pt) (jLast (G.map (·.n))) (encR b) = (0, G'.map Sg.pt) ∧ G'.map (·.n) = G.map (·.n))) := by
  have he := encR_length (good_of hbl)
  have hil := (List.getElem?_eq_some_iff.1 hb).1
  have hll := h.ll
  have hu := h.room
  have hsi := h.si
  have hcnt := h.count
  rcases h.st with ⟨rfl, rfl⟩ | ⟨X, g, rfl, hs⟩
  · obtain rfl : sy = 0 := by omega
    refine ⟨[⟨0, [b], [], 0⟩], h.more hb hbl ⟨[], _, rfl, St.first hb⟩, rfl, .inl ⟨rfl, [], rfl, ?_, rfl⟩⟩
    exact append_fresh (G := []) (n := 0) (by omega) (by simp) (by simp only [List.map_nil]; show _ ≤ rm - 0; omega)
  · have hc := hs.count h.il
    have ht := hs.t0 g (by simp)
    by_cases hF : jFull many ((X ++ [g]).map (·.n)) (recs (X ++ [g])) = true
    · have hs2 := hs.sync h.il
      have hjn : jNext ((X ++ [g]).map (·.n)) (recs (X ++ [g])) = (i : Nat) := by rw [jNext_all hs.chain, hcnt]
      have hsy := sync_last hi.rise
      rw [ht, List.append_nil] at hsy
      rw [ht] at hs2
      refine ⟨(X ++ [(⟨g.n, g.rs, [], (flat g.rs).length⟩ : Sg)]) ++ [⟨(i : Nat), [b], [], 0⟩], h.more hb hbl ⟨_, _, rfl, hs2.new h.il rfl hb hsi⟩, ?_, .inl ⟨hF, _, hsy, ?_, ?_⟩⟩
      · rw [recs_snoc, recs_snoc, recs_snoc]
      · rw [hjn]
        have hu2 : used ((X ++ [(⟨g.n, g.rs, [], (flat g.rs).length⟩ : Sg)]).map Sg.pt) = used ((X ++ [g]).map Sg.pt) := by rw [used_pts _ hs2.t0, used_pts _ hs.t0, recs_snoc, recs_snoc]
        refine append_fresh (by omega) (fun p hp => ?_) (by rw [hu2]; omega)
        have := chain_all_lt hs2.chain hs2.ne p hp
        rw [recs_snoc] at this
        rw [recs_snoc] at hcnt
        simp only at this
        omega
      · rw [hjn]; simp
    · have hF' : jFull many ((X ++ [g]).map (·.n)) (recs (X ++ [g])) = false := by simpa using hF
      refine ⟨X ++ [(⟨g.n, g.rs ++ [b], g.t, g.s⟩ : Sg)], h.more hb hbl ⟨_, _, rfl, hs.grow hb⟩, by rw [recs_snoc, recs_snoc]; simp, .inr ⟨hF', ?_, by simp⟩⟩
      rw [jLast_snoc]
      exact append_last hi.rise (by omega) ht (by omega)
theorem Lst.stepS (h : Lst l i sy G) (hi : Inv rm (G.map Sg.pt)) : ∃ G', Lst l i i G' ∧ recs G' = recs G ∧ G'.map (·.n) = G.map (·.n) ∧ jSync false (G.map Sg.pt) (G.map (·.n)) = (0, G'.map Sg.pt) := by
  rcases h.st with ⟨rfl, rfl⟩ | ⟨X, g, rfl, hs⟩
  · exact ⟨[], ⟨h.good, h.il, h.ll, Nat.le_refl _, .inl ⟨rfl, rfl⟩⟩, rfl, rfl, rfl⟩
  · have ht := hs.t0 g (by simp)
    have hsy := sync_last hi.rise
    rw [ht, List.append_nil] at hsy
    have hs2 := hs.sync h.il
    rw [ht] at hs2
    exact ⟨X ++ [(⟨g.n, g.rs, [], (flat g.rs).length⟩ : Sg)], ⟨h.good, h.il, h.ll, Nat.le_refl _, .inr ⟨_, _, rfl, hs2⟩⟩, by rw [recs_snoc, recs_snoc], by simp, hsy⟩
theorem crash_full (k : Nat) (p : Pt) : ∀ (X : List Sg), (∀ f ∈ X, f.t = []) → (∀ f ∈ X, f.s = (flat f.rs).length) → crash k (X.map Sg.pt ++ [p]) = X.map Sg.pt ++ crash k [p]
  | [], _, _ => rfl
  | f :: X, ht, hs => by
    have h1 := ht f (by simp)
    have h2 := hs f (by simp)
    have e : f.pt = ⟨f.n, flat f.rs, (flat f.rs).length⟩ := by unfold Sg.pt; rw [h1, h2, List.append_nil]
    rw [List.map_cons, List.cons_append, crash, e]
    simp only [Nat.sub_self, Nat.min_zero, Nat.add_zero, Nat.sub_zero, List.take_length]
    rw [crash_full k p X (fun x hx => ht x (by simp [hx])) (fun x hx => hs x (by simp [hx]))]
    rfl
/-- What a crash leaves: parts that hold the first records, among them all that were synced. -/
theorem Lst.crash (h : Lst l i sy G) (k : Nat) : ∃ G' q, Go.Proofs.Ytgohgmihoggcpaa.crash k (G.map Sg.pt) = G'.map Sg.pt ∧ Segs G' ∧ Chain 0 G' ∧ recs G' = l.take q ∧ sy ≤ q ∧ q ≤ i := by
  have hsi := h.si
  rcases h.st with ⟨rfl, rfl⟩ | ⟨X, g, rfl, hs⟩
  · exact ⟨[], 0, rfl, h.segs, trivial, rfl, hsi, Nat.le_refl _⟩
  · have hc := hs.count h.il
    have ht := hs.t0 g (by simp)
    have hsg := h.segs
    obtain ⟨m, hm1, hm2, hm3⟩ := hs.sg
    have hg := fun r hr => (hsg.good g (by simp)).good r hr
    obtain ⟨q, t, hq1, hq2, hq3, hq4⟩ := cut_records g.rs hg (g.s + min k ((flat g.rs).length - g.s))
    have hmq := hq4 m hm1 (by rw [← hm2]; omega)
    have hrc := hs.rec_
    rw [recs_snoc] at hrc
    have hch : Chain 0 (X ++ [(⟨g.n, g.rs.take q, t, g.s + min k ((flat g.rs).length - g.s)⟩ : Sg)]) := chain_snoc (g := g) (g' := ⟨g.n, g.rs.take q, t, g.s + min k ((flat g.rs).length - g.s)⟩) rfl X 0 hs.chain
    have hrn : recs (X ++ [(⟨g.n, g.rs.take q, t, g.s + min k ((flat g.rs).length - g.s)⟩ : Sg)]) = l.take ((recs X).length + q) := by
      rw [recs_snoc]
      have e1 : l.take ((recs X).length + q) = (l.take i).take ((recs X).length + q) := by rw [List.take_take]; congr 1; omega
      rw [e1, ← hrc, List.take_append, List.take_of_length_le (l := recs X) (by omega), Nat.add_sub_cancel_left]
    have hil := h.il
    have hll := h.ll
    refine ⟨_, (recs X).length + q, ?_, segs_of hch (snoc_all (fun f hf => hsg.good f (by simp [hf])) ⟨fun r hr => hg r (List.mem_of_mem_take hr), hq3⟩) (by rw [hrn, List.length_take]; omega) ?_, hch, hrn, by omega, by omega⟩
    · rw [List.map_append, show List.map Sg.pt [g] = [g.pt] from rfl, crash_full k g.pt X (fun f hf => hs.t0 f (by simp [hf])) hs.sX, List.map_append]
      have e : g.pt = ⟨g.n, flat g.rs, g.s⟩ := by unfold Sg.pt; rw [ht, List.append_nil]
      rw [e]
      simp only [Go.Proofs.Ytgohgmihoggcpaa.crash]
      rw [hq2]
      rfl
    · have h2 := recs_count _ hs.ne
      rw [h.count] at h2
      simp only [List.length_append, List.length_singleton] at h2 ⊢
      omega
end
section
variable {W w : World} {ad aj : Nat} {l : List Rc} {G : List Sg} {i sy rm : Nat} {b : Rc} {many : Int}
/-- The call's own disk and journal, which have these records. -/
def Jl (W w : World) (ad aj rm : Nat) (many : Int) (l : List Rc) (i sy : Nat) : Prop :=
  ∃ G, Lst l i sy G ∧ Inv rm (G.map Sg.pt) ∧ Jn W w ad aj rm false (G.map Sg.pt) many (G.map (·.n)) (recs G)
theorem Jl.still {w' : World} (h : Jl W w ad aj rm many l i sy) (hb : Below w.heap.size w w') : Jl W w' ad aj rm many l i sy := by
  obtain ⟨G, h1, h2, h3⟩ := h
  exact ⟨G, h1, h2, h3.still hb⟩
theorem Jl.below (h : Jl W w ad aj rm many l i sy) : Below W.heap.size W w := by
  obtain ⟨G, h1, h2, h3⟩ := h
  exact h3.below
theorem Jl.append (h : Jl W w ad aj rm many l i sy) (hm : 0 ≤ many ∧ many ≤ 1000) (hrm : 40000 ≤ rm) (hb : l[i]? = some b) (hbl : 1 ≤ b.length ∧ b.length ≤ 1000) {A : Option Addr} {cap : Nat} (hr : RdS w A cap b) :
    Calls Try.prog 7 #[.pointer (some ⟨aj, 0, none⟩), .slice A b.length cap] w fun e w' => e = .returned .nilIface ∧ Jl W w' ad aj rm many l (i + 1) sy := by
  obtain ⟨G, h1, h2, h3⟩ := h
  have hsg := h1.segs
  have hf := seg_fits (X := G) (Y := []) hsg (by simp)
  have hl : (G.map Sg.pt).length ≤ 1000 := by rw [List.length_map]; exact hsg.len
  have hn := hf.next
  have hlo := hf.last
  obtain ⟨G', g1, g2, hc⟩ := h1.stepA (many := many) hb hbl h2 hrm
  rcases hc with ⟨hF, L1, hs, ha, hp⟩ | ⟨hF, ha, hp⟩
  · have i1 : Inv rm L1 := by have := jSync_inv (dn := false) (P := G.map (·.n)) h2; rw [hs] at this; exact this
    have i2 : Inv rm (G'.map Sg.pt) := by have := append_inv (dn := false) (n := jNext (G.map (·.n)) (recs G)) (bs := encR b) i1 (by omega); rw [ha] at this; exact this
    refine (appendJ_full h3 hm hr hF rfl hf h2 hl (good_of hbl) hs ha).mono ?_
    rintro e w' ⟨rfl, j⟩
    exact ⟨rfl, G', g1, i2, by rw [hp, g2]; exact j⟩
  · have i2 : Inv rm (G'.map Sg.pt) := by have := append_inv (dn := false) (n := jLast (G.map (·.n))) (bs := encR b) h2 (by omega); rw [ha] at this; exact this
    refine (appendJ_in h3 hm hr hF hf h2 hl (good_of hbl) ha).mono ?_
    rintro e w' ⟨rfl, j⟩
    exact ⟨rfl, G', g1, i2, by rw [hp, g2]; exact j⟩
theorem Jl.sync (h : Jl W w ad aj rm many l i sy) :
    Calls Try.prog 8 #[.pointer (some ⟨aj, 0, none⟩)] w fun e w' => e = .returned .nilIface ∧ Jl W w' ad aj rm many l i i := by
  obtain ⟨G, h1, h2, h3⟩ := h
  have hsg := h1.segs
  have hf := seg_fits (X := G) (Y := []) hsg (by simp)
  have hl : (G.map Sg.pt).length ≤ 1000 := by rw [List.length_map]; exact hsg.len
  obtain ⟨G', g1, g2, g3, hs⟩ := h1.stepS h2
  have i1 : Inv rm (G'.map Sg.pt) := by have := jSync_inv (dn := false) (P := G.map (·.n)) h2; rw [hs] at this; exact this
  refine (syncJ_ok h3 hs hf h2 hl).mono ?_
  rintro e w' ⟨rfl, j⟩
  exact ⟨rfl, G', g1, i1, by rw [g3, g2]; exact j⟩
/-- A disk that went down, with what can be opened on it. -/
def Jd (W w : World) (ad rm : Nat) (l : List Rc) (i sy : Nat) : Prop :=
  ∃ G q, Segs G ∧ Chain 0 G ∧ recs G = l.take q ∧ sy ≤ q ∧ q ≤ i ∧ Inv rm (G.map Sg.pt) ∧ Own8 W w ad rm true (G.map Sg.pt)
theorem Jl.crash (h : Jl W w ad aj rm many l i sy) (k : Int) (hk : k ≤ 9223372036854775807) :
    Calls Try.prog 9 #[.pointer (some ⟨ad, 0, none⟩), .int .i64 k] w fun e w' => e = .returned (.tuple #[]) ∧ Jd W w' ad rm l i sy := by
  obtain ⟨G, h1, h2, h3⟩ := h
  have hl : (G.map Sg.pt).length ≤ 1000 := by rw [List.length_map]; exact h1.segs.len
  obtain ⟨G', q, e, g1, g2, g3, g4, g5⟩ := h1.crash (keepN k)
  have i1 : Inv rm (G'.map Sg.pt) := by rw [← e]; exact h2.crash _
  refine (h3.1.crash k h2 hl hk).mono ?_
  rintro e' w' ⟨rfl, o⟩
  have : opCrash false (G.map Sg.pt) k = G'.map Sg.pt := by unfold opCrash; rw [if_neg (by simp)]; exact e
  rw [this] at o
  exact ⟨rfl, G', q, g1, g2, g3, g4, g5, i1, o⟩
/-- A journal that was opened, and has the first q records. -/
def Jo (W w : World) (aj : Nat) (l : List Rc) (q : Nat) : Prop :=
  Below W.heap.size W w ∧ ∃ B ad many vp vr P R, JrG w B ad aj many vp vr P R ∧ Fits P R ∧ R = l.take q ∧ jFirst P = 0 ∧ jNext P R = (q : Nat) ∧ ∀ r ∈ l.take q, r.length ≤ 4096
theorem Jd.open_ (h : Jd W w ad rm l i sy) (hil : i ≤ l.length) (hm : 1 ≤ many ∧ many ≤ 100) :
    Calls Try.prog 6 #[.pointer (some ⟨ad, 0, none⟩), .int .i64 many] w fun e w' => ∃ aj q, e = .returned (.tuple #[.pointer (some ⟨aj, 0, none⟩), .nilIface]) ∧ Jo W w' aj l q ∧ sy ≤ q ∧ q ≤ i := by
  obtain ⟨G, q, h1, h2, h3, h4, h5, h6, h7⟩ := h
  refine (openJ h7 h6 h1 hm).mono ?_
  rintro e w' ⟨aj, rfl, j⟩
  obtain ⟨o, vp, vr, g⟩ := id j
  have hf := seg_fits (X := G) (Y := []) h1 (by simp)
  have hn := jNext_all h2
  rw [h3, List.length_take] at hn
  refine ⟨aj, q, rfl, ⟨j.below, _, _, _, vp, vr, _, _, g, hf, h3, ?_, ?_, fun r hr => ?_⟩, h4, h5⟩
  · unfold jFirst
    cases G with
    | nil => rfl
    | cons g G => exact h2.1
  · rw [h3, hn]; congr 1; omega
  · rw [← h3] at hr
    unfold recs at hr
    obtain ⟨rs, hrs, hr⟩ := List.mem_flatten.1 hr
    obtain ⟨f, hf, rfl⟩ := List.mem_map.1 hrs
    exact ((h1.good f hf).good r hr).2
theorem start_lst (l : List Rc) (hl : l.length ≤ 30) : Lst l 0 0 [] := ⟨by simp, Nat.zero_le _, hl, Nat.le_refl _, .inl ⟨rfl, rfl⟩⟩
theorem open_first (h : Own8 W w ad rm false []) (hrm : rm ≤ 65536) (hl : l.length ≤ 30) (hm : 1 ≤ many ∧ many ≤ 100) :
    Calls Try.prog 6 #[.pointer (some ⟨ad, 0, none⟩), .int .i64 many] w fun e w' => ∃ aj, e = .returned (.tuple #[.pointer (some ⟨aj, 0, none⟩), .nilIface]) ∧ Jl W w' ad aj rm many l 0 0 := by
  refine (openJ (G := []) h (Inv.nil hrm) (start_lst l hl).segs hm).mono ?_
  rintro e w' ⟨aj, rfl, j⟩
  exact ⟨aj, rfl, [], start_lst l hl, Inv.nil hrm, j⟩
theorem Jo.still {w' : World} {q : Nat} (h : Jo W w aj l q) (hb : Below w.heap.size w w') : Jo W w' aj l q := by
  obtain ⟨h0, B, ad, many, vp, vr, P, R, h1, h2, h3, h4, h5, h6⟩ := h
  exact ⟨h0.trans (hb.mono h0.size), B, ad, many, vp, vr, P, R, h1.still hb, h2, h3, h4, h5, h6⟩
theorem Jo.first {q : Nat} (h : Jo W w aj l q) : Calls Try.prog 10 #[.pointer (some ⟨aj, 0, none⟩)] w fun e w' => e = .returned (.int .i64 0) ∧ w' = w := by
  obtain ⟨h0, B, ad, many, vp, vr, P, R, h1, h2, h3, h4, h5, h6⟩ := h
  have := firstJ h1
  rw [h4] at this
  exact this
theorem Jo.next {q : Nat} (h : Jo W w aj l q) : Calls Try.prog 11 #[.pointer (some ⟨aj, 0, none⟩)] w fun e w' => e = .returned (.int .i64 (q : Nat)) ∧ ∃ m, w' = w.drewN m := by
  obtain ⟨h0, B, ad, many, vp, vr, P, R, h1, h2, h3, h4, h5, h6⟩ := h
  have := nextJ h1 h2
  rw [h5] at this
  exact this
theorem Jo.record {q k : Nat} {r : Rc} (h : Jo W w aj l q) (hk : k < q) (hr : l[k]? = some r) :
    Calls Try.prog 12 #[.pointer (some ⟨aj, 0, none⟩), .int .i64 (k : Nat)] w fun e w' => ∃ A cap, e = .returned (.tuple #[.slice A r.length cap, .nilIface]) ∧ RdS w' A cap r ∧ Below w.heap.size w w' := by
  obtain ⟨h0, B, ad, many, vp, vr, P, R, h1, h2, h3, h4, h5, h6⟩ := h
  have hq : (l.take q)[k]? = some r := by rw [List.getElem?_take, if_pos hk]; exact hr
  have hb := h6 r (List.mem_of_getElem? hq)
  exact recordJ h1 h2 (k := k) (by rw [h3]; exact hq) (by omega) (by rw [h4]; omega)
end
end Go.Proofs.Ytgohgmihoggcpaa
