/-
  Layer 9 (journal): a journal that records are appended to, one after another, on its own disk: its parts, what a crash leaves of them, and what is opened then.
-/
import Derived.Test.YtgohgmihoggcpaaJournalOpen
namespace Go.Proofs.Ytgohgmihoggcpaa
open Go.ChangeShapes Go.WideShapes Go.ChangeAt Go.RowKit
set_option linter.unusedVariables false

structure St (l : List Rc) (X : List Sg) (g : Sg) (i sy : Nat) : Prop where
  rec_ : recs (X ++ [g]) = l.take i
  chain : Chain 0 (X ++ [g])
  t0 : ∀ f ∈ X ++ [g], f.t = []
  ne : ∀ f ∈ X ++ [g], f.rs ≠ []
  sX : ∀ f ∈ X, f.s = (flat f.rs).length
  sg : ∃ m, m ≤ g.rs.length ∧ g.s = (flat (g.rs.take m)).length ∧ (sy : Int) ≤ g.n + (m : Nat)
structure Lst (l : List Rc) (i sy : Nat) (G : List Sg) : Prop where
  good : ∀ r ∈ l.take i, 1 ≤ r.length ∧ r.length ≤ 1000
  il : i ≤ l.length
  ll : l.length ≤ 30
  si : sy ≤ i
  st : (G = [] ∧ i = 0) ∨ ∃ X g, G = X ++ [g] ∧ St l X g i sy
theorem snoc_all {T : Sg → Prop} {X : List Sg} {g : Sg} (hX : ∀ f ∈ X, T f) (hg : T g) : ∀ f ∈ X ++ [g], T f := fun f hf => by
  rcases List.mem_append.1 hf with h | h
  · exact hX f h
  · simp only [List.mem_singleton] at h; subst h; exact hg
theorem recs_snoc (X : List Sg) (g : Sg) : recs (X ++ [g]) = recs X ++ g.rs := by rw [recs_app, recs_cons, recs_nil, List.append_nil]
theorem chain_snoc {g g' : Sg} (hn : g'.n = g.n) : ∀ (X : List Sg) (n : Int), Chain n (X ++ [g]) → Chain n (X ++ [g'])
  | [], n, h => ⟨by rw [hn]; exact h.1, trivial⟩
  | x :: X, n, h => ⟨h.1, chain_snoc hn X _ h.2⟩
theorem chain_more {g : Sg} : ∀ (X : List Sg) (n : Int), Chain n X → g.n = n + ((recs X).length : Nat) → Chain n (X ++ [g])
  | [], n, _, h => ⟨by rw [recs_nil] at h; simpa using h, trivial⟩
  | x :: X, n, hc, h => ⟨hc.1, chain_more X _ hc.2 (by rw [recs_cons, List.length_append] at h; omega)⟩
theorem recs_count : ∀ (G : List Sg), (∀ f ∈ G, f.rs ≠ []) → G.length ≤ (recs G).length
  | [], _ => Nat.le_refl _
  | g :: G, h => by
    have h1 := recs_count G (fun f hf => h f (by simp [hf]))
    have h2 := List.length_pos_iff.2 (h g (by simp))
    rw [recs_cons, List.length_append, List.length_cons]; omega
theorem used_pts : ∀ (G : List Sg), (∀ f ∈ G, f.t = []) → used (G.map Sg.pt) = (flat (recs G)).length
  | [], _ => rfl
  | g :: G, h => by
    rw [List.map_cons, used_cons, used_pts G (fun f hf => h f (by simp [hf])), recs_cons, flat_app, List.length_append]
    have : g.pt.b = flat g.rs := by show flat g.rs ++ g.t = _; rw [h g (by simp), List.append_nil]
    rw [this]
theorem good_of {r : Rc} (h : 1 ≤ r.length ∧ r.length ≤ 1000) : GoodR r := ⟨h.1, by omega⟩
theorem flat_few : ∀ (x : List Rc), (∀ r ∈ x, 1 ≤ r.length ∧ r.length ≤ 1000) → (flat x).length ≤ 1010 * x.length
  | [], _ => by simp [flat]
  | r :: x, h => by
    have h1 := flat_few x (fun y hy => h y (by simp [hy]))
    have h2 := h r (by simp)
    have h3 := encR_length (good_of h2)
    rw [flat, List.length_append, List.length_cons]; omega
section
variable {l : List Rc} {X G : List Sg} {g : Sg} {i sy rm : Nat} {b : Rc}
theorem St.count (h : St l X g i sy) (hi : i ≤ l.length) : g.n = ((recs X).length : Nat) ∧ (recs X).length + g.rs.length = i := by
  have h1 := chain_at (Y := []) X 0 h.chain
  have h2 := congrArg List.length h.rec_
  rw [recs_snoc, List.length_append, List.length_take] at h2
  exact ⟨by omega, by omega⟩
theorem St.sync (h : St l X g i sy) (hi : i ≤ l.length) : St l X ⟨g.n, g.rs, g.t, (flat g.rs).length⟩ i i where
  rec_ := by have := h.rec_; rw [recs_snoc] at this ⊢; exact this
  chain := chain_snoc (g := g) (g' := ⟨g.n, g.rs, g.t, (flat g.rs).length⟩) rfl X 0 h.chain
  t0 := snoc_all (fun f hf => h.t0 f (by simp [hf])) (h.t0 g (by simp))
  ne := snoc_all (fun f hf => h.ne f (by simp [hf])) (h.ne g (by simp))
  sX := h.sX
  sg := ⟨g.rs.length, Nat.le_refl _, by simp, by have := h.count hi; simp only; omega⟩
theorem St.grow (h : St l X g i sy) (hb : l[i]? = some b) : St l X ⟨g.n, g.rs ++ [b], g.t, g.s⟩ (i + 1) sy where
  rec_ := by
    have := h.rec_
    rw [recs_snoc] at this ⊢
    rw [List.take_add_one, hb, ← this]
    simp
  chain := chain_snoc (g := g) (g' := ⟨g.n, g.rs ++ [b], g.t, g.s⟩) rfl X 0 h.chain
  t0 := snoc_all (fun f hf => h.t0 f (by simp [hf])) (h.t0 g (by simp))
  ne := snoc_all (fun f hf => h.ne f (by simp [hf])) (by simp)
  sX := h.sX
  sg := by
    obtain ⟨m, h1, h2, h3⟩ := h.sg
    exact ⟨m, by simp; omega, by simp only; rw [List.take_append_of_le_length h1]; exact h2, h3⟩
theorem St.new (h : St l X g i sy) (hi : i ≤ l.length) (hs : g.s = (flat g.rs).length) (hb : l[i]? = some b) {sy' : Nat} (hsy : sy' ≤ i) : St l (X ++ [g]) ⟨(i : Nat), [b], [], 0⟩ (i + 1) sy' where
  rec_ := by
    rw [recs_snoc, h.rec_, List.take_add_one, hb]
    simp
  chain := by
    have h2 := congrArg List.length h.rec_
    rw [List.length_take] at h2
    exact chain_more _ 0 h.chain (by simp only; omega)
  t0 := snoc_all h.t0 rfl
  ne := snoc_all h.ne (by simp)
  sX := snoc_all h.sX hs
  sg := ⟨0, Nat.zero_le _, by simp [flat], by simp only; omega⟩
theorem St.first (hb : l[0]? = some b) : St l [] ⟨0, [b], [], 0⟩ 1 0 where
  rec_ := by rw [List.take_add_one, hb]; rfl
  chain := ⟨rfl, trivial⟩
  t0 := snoc_all (by simp) rfl
  ne := snoc_all (by simp) (by simp)
  sX := by simp
  sg := ⟨0, Nat.zero_le _, by simp [flat], by simp⟩
theorem Lst.rec_ (h : Lst l i sy G) : recs G = l.take i := by
  rcases h.st with ⟨rfl, rfl⟩ | ⟨X, g, rfl, hs⟩
  · simp [recs_nil]
  · exact hs.rec_
theorem Lst.t0 (h : Lst l i sy G) : ∀ f ∈ G, f.t = [] := by
  rcases h.st with ⟨rfl, rfl⟩ | ⟨X, g, rfl, hs⟩
  · simp
  · exact hs.t0
theorem Lst.ne (h : Lst l i sy G) : ∀ f ∈ G, f.rs ≠ [] := by
  rcases h.st with ⟨rfl, rfl⟩ | ⟨X, g, rfl, hs⟩
  · simp
  · exact hs.ne
theorem Lst.chain (h : Lst l i sy G) : Chain 0 G := by
  rcases h.st with ⟨rfl, rfl⟩ | ⟨X, g, rfl, hs⟩
  · trivial
  · exact hs.chain
theorem Lst.count (h : Lst l i sy G) : (recs G).length = i := by rw [h.rec_, List.length_take]; have := h.il; omega
theorem Lst.room (h : Lst l i sy G) : used (G.map Sg.pt) ≤ 1010 * i := by
  rw [used_pts G h.t0, h.rec_]
  have := flat_few _ h.good
  rw [List.length_take] at this
  have := h.il
  omega
theorem chain_lo {G X Y : List Sg} {g : Sg} (hc : Chain 0 G) (h : G = X ++ g :: Y) : 0 ≤ g.n ∧ g.n ≤ ((recs G).length : Nat) := by
  subst h
  have h1 := chain_at X 0 hc
  rw [recs_app, List.length_append]
  omega
theorem segs_of (hc : Chain 0 G) (hg : ∀ f ∈ G, f.Good) (hl : (recs G).length ≤ 30) (hn : G.length ≤ 31) : Segs G where
  good := hg
  chain := ⟨0, hc⟩
  lo g hgm := by
    obtain ⟨X, Y, e⟩ := List.append_of_mem hgm
    have := chain_lo hc e
    omega
  len := by omega
  rl := by omega
theorem mem_recs {r : Rc} : ∀ {G : List Sg} {g : Sg}, g ∈ G → r ∈ g.rs → r ∈ recs G
  | f :: G, g, hg, hr => by
    rw [recs_cons]
    rcases List.mem_cons.1 hg with rfl | hg
    · exact List.mem_append.2 (.inl hr)
    · exact List.mem_append.2 (.inr (mem_recs hg hr))
theorem Lst.segs (h : Lst l i sy G) : Segs G := by
  have h1 := h.count
  have h2 := recs_count G h.ne
  have := h.il
  have := h.ll
  refine segs_of h.chain (fun f hf => ⟨fun r hr => good_of (h.good r ?_), by rw [h.t0 f hf]; exact torn_nil⟩) (by omega) (by omega)
  rw [← h.rec_]
  exact mem_recs hf hr
theorem last_pt (X : List Sg) (g : Sg) (x : Pt) : (X ++ [g]).map Sg.pt = X.map Sg.pt ++ g.pt :: [] := by rw [List.map_append]; rfl
theorem jLast_snoc (X : List Sg) (g : Sg) : jLast ((X ++ [g]).map (·.n)) = g.n := by unfold jLast; rw [List.map_append]; simp
theorem rises_lt {X : List Sg} {g : Sg} (h : Rises ((X ++ [g]).map Sg.pt)) : ∀ p ∈ X.map Sg.pt, p.n < g.n := by
  rw [List.map_append] at h
  exact (h.mid (q := g.pt) (y := [])).1
theorem sync_last (h : Rises ((X ++ [g]).map Sg.pt)) : jSync false ((X ++ [g]).map Sg.pt) ((X ++ [g]).map (·.n)) = (0, (X ++ [(⟨g.n, g.rs, g.t, (flat g.rs ++ g.t).length⟩ : Sg)]).map Sg.pt) := by
  have hx := rises_lt h
  unfold jSync
  rw [if_neg (by simp), jLast_snoc]
  rw [List.map_append, List.map_append]
  have hf := find_has (n := g.n) (q := g.pt) (y := []) rfl hx
  unfold opSync
  rw [show List.map Sg.pt [g] = [g.pt] from rfl, if_pos (miss_some hf), upd_has (n := g.n) (q := g.pt) rfl hx]
  rfl
theorem append_last (h : Rises ((X ++ [g]).map Sg.pt)) (hn : 0 ≤ g.n) (ht : g.t = []) (hr : (encR b).length ≤ rm - used ((X ++ [g]).map Sg.pt)) :
    opAppend rm false ((X ++ [g]).map Sg.pt) g.n (encR b) = (0, (X ++ [(⟨g.n, g.rs ++ [b], g.t, g.s⟩ : Sg)]).map Sg.pt) := by
  have hx := rises_lt h
  unfold opAppend
  rw [if_neg (by simp), if_neg (by omega), if_neg (by omega), List.map_append, List.map_append, show List.map Sg.pt [g] = [g.pt] from rfl, upd_has (n := g.n) (q := g.pt) rfl hx]
  unfold joinP Sg.pt
  simp only [List.map_cons, List.map_nil, ht, List.append_nil, flat_snoc]
theorem append_fresh {n : Int} (hn : 0 ≤ n) (hx : ∀ p ∈ G.map Sg.pt, p.n < n) (hr : (encR b).length ≤ rm - used (G.map Sg.pt)) :
    opAppend rm false (G.map Sg.pt) n (encR b) = (0, (G ++ [(⟨n, [b], [], 0⟩ : Sg)]).map Sg.pt) := by
  unfold opAppend
  rw [if_neg (by simp), if_neg (by omega), if_neg (by omega), List.map_append]
  have := upd_no (n := n) (f := joinP n (encR b)) (y := []) (by simp) hx
  rw [List.append_nil] at this
  rw [this]
  unfold joinP Sg.pt
  simp only [List.map_cons, List.map_nil, List.append_nil, flat_one]
theorem chain_all_lt {G : List Sg} (hc : Chain 0 G) (hne : ∀ f ∈ G, f.rs ≠ []) : ∀ p ∈ G.map Sg.pt, p.n < ((recs G).length : Nat) := fun p hp => by
  obtain ⟨f, hf, rfl⟩ := List.mem_map.1 hp
  obtain ⟨X, Y, e⟩ := List.append_of_mem hf
  have h2 := List.length_pos_iff.2 (hne f hf)
  subst e
  have h1 := chain_at X 0 hc
  rw [recs_app, recs_cons, List.length_append, List.length_append]
  show f.n < _
  omega
theorem jNext_all (hc : Chain 0 G) : jNext (G.map (·.n)) (recs G) = ((recs G).length : Nat) := by
  unfold jNext jFirst
  cases G with
  | nil => simp
  | cons g G =>
    have : g.n = 0 := hc.1
    simp only [List.map_cons, List.headD_cons]
    omega
end
end Go.Proofs.Ytgohgmihoggcpaa
