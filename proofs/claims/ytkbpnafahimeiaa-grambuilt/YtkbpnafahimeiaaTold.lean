/-
  The law's told: Sizes and Grammar of both builders; what was told is spoilt behind.
-/
import Derived.Test.YtkbpnafahimeiaaListM
import Derived.Test.YtkbpnafahimeiaaSameAny
namespace Go.Proofs.Ytkbpnafahimeiaa
open Go.RowKit

def GR.none : GR := ⟨[], [], [], 0, []⟩
/-- What Grammar answers. -/
def BS.told (S : BS) : GR × Int := if S.tells then (S.gram, 0) else (GR.none, 1)

theorem told_yes {S : BS} (h : S.tells = true) : S.told = (S.gram, 0) := by simp [BS.told, h]
theorem told_no {S : BS} (h : S.tells = false) : S.told = (GR.none, 1) := by simp [BS.told, h]

theorem gramNew_none (w : World) (B : Nat) : GramNew w B GR.none (.slice none 0 0) (.slice none 0 0) (.slice none 0 0) (.slice none 0 0) :=
  ⟨World.ownsRow_nil _ _ _ _, World.ownsRow_nil _ _ _ _, World.ownsRow_nil _ _ _ _, ⟨fun _ => undef, World.ownsRow_nil _ _ _ _, fun i hi => absurd hi (Nat.not_lt_zero i)⟩⟩

theorem grammar_any (b : Nat) (S : BS) (w : World) (hB : BAt w b S) (G : GR) (c : Int) (hG : S.told = (G, c)) :
    Calls Try.prog 20 #[.pointer (some ⟨b, 0, none⟩)] w fun e w' => ∃ vt vn vl vp, e = .returned (.tuple #[.agg #[vt, vn, vl, .int .i64 G.start, vp], .int .i64 c]) ∧ GramNew w' w.heap.size G vt vn vl vp ∧ w.grownBy w' none := by
  by_cases h0 : 0 < S.prods.length
  · by_cases hs : S.nons.length ≤ (ordOf S.prods).length
    · have ht : S.tells = true := by simp [BS.tells, h0, hs]
      rw [told_yes ht] at hG
      obtain ⟨rfl, rfl⟩ := Prod.mk.inj hG
      exact grammar_told b S w hB h0 hs
    · have ht : S.tells = false := by simp [BS.tells, hs]
      rw [told_no ht] at hG
      obtain ⟨rfl, rfl⟩ := Prod.mk.inj hG
      refine (grammar_short b S w hB h0 (by omega)).mono ?_
      rintro e w' ⟨rfl, hg⟩
      exact ⟨_, _, _, _, rfl, gramNew_none _ _, hg⟩
  · have ht : S.tells = false := by simp [BS.tells, h0]
    rw [told_no ht] at hG
    obtain ⟨rfl, rfl⟩ := Prod.mk.inj hG
    refine (grammar_empty b S w hB (by omega)).mono ?_
    rintro e w' ⟨rfl, hg⟩
    exact ⟨_, _, _, _, rfl, gramNew_none _ _, hg⟩

theorem rgrammar_any (r : Nat) (S : BS) (w : World) (Q : Nat → Prop) (hok : S.OK) (hR : RAt w r S Q) (G : GR) (c : Int) (hG : S.told = (G, c)) :
    Calls Try.prog 28 #[.pointer (some ⟨r, 0, none⟩)] w fun e w' => ∃ vt vn vl vp, e = .returned (.tuple #[.agg #[vt, vn, vl, .int .i64 G.start, vp], .int .i64 c]) ∧ GramNew w' w.heap.size G vt vn vl vp ∧ w.grownBy w' none := by
  refine rgrammar_core r S w Q hok hR _ (fun w' vt vn vl vp ht hN hg => ?_) (fun w' ht hg => ?_)
  · rw [told_yes ht] at hG
    obtain ⟨rfl, rfl⟩ := Prod.mk.inj hG
    exact ⟨_, _, _, _, rfl, hN, hg⟩
  · rw [told_no ht] at hG
    obtain ⟨rfl, rfl⟩ := Prod.mk.inj hG
    exact ⟨_, _, _, _, rfl, gramNew_none _ _, hg⟩

theorem ordFold_len (ps : List PR) : ∀ out, (ps.foldl ordStep out).length ≤ out.length + ps.length := by
  induction ps with
  | nil => intro out; simp
  | cons p ps ih =>
    intro out
    have h1 := ih (ordStep out p)
    have h2 : (ordStep out p).length ≤ out.length + 1 := by unfold ordStep; split <;> simp
    simp only [List.foldl_cons, List.length_cons]
    omega
theorem ordOf_len (ps : List PR) : (ordOf ps).length ≤ ps.length := by have := ordFold_len ps []; simp only [List.length_nil, Nat.zero_add] at this; exact this

theorem told_sizes {S : BS} (hok : S.OK) {G : GR} {c : Int} (hG : S.told = (G, c)) : G.terms.length ≤ 17592186044416 ∧ G.nons.length ≤ 17592186044416 ∧ G.levels.length ≤ 17592186044416 ∧ G.prods.length ≤ 17592186044416 ∧ ∀ i, i < G.prods.length → (G.prods.getD i ⟨0, [], 0⟩).right.length ≤ 17592186044416 := by
  cases ht : S.tells with
  | false =>
    rw [told_no ht] at hG
    obtain ⟨rfl, rfl⟩ := Prod.mk.inj hG
    exact ⟨by decide, by decide, by decide, by decide, fun i hi => absurd hi (Nat.not_lt_zero i)⟩
  | true =>
    rw [told_yes ht] at hG
    obtain ⟨rfl, rfl⟩ := Prod.mk.inj hG
    have h1 := hok.syms
    have h2 := hok.sides
    have h3 := hok.prods
    have h4 := ordOf_len S.prods
    refine ⟨?_, ?_, ?_, ?_, ?_⟩
    · show (S.tms S.terms.length).length ≤ _; rw [tms_length]; omega
    · show ((ordOf S.prods).map _).length ≤ _; rw [List.length_map]; omega
    · show S.sides.length ≤ _; omega
    · show (S.prods.map _).length ≤ _; rw [List.length_map]; omega
    · intro i hi
      have hi' : i < S.prods.length := by
        have : i < (S.prods.map fun p => (⟨sg S.sym p.left, p.right.map (sg S.sym), p.level⟩ : PR)).length := hi
        simpa using this
      have e : S.gram.prods.getD i ⟨0, [], 0⟩ = ⟨sg S.sym S.prods[i].left, S.prods[i].right.map (sg S.sym), S.prods[i].level⟩ := by simp [BS.gram, List.getD, hi']
      rw [e]
      simpa using hok.plen _ (List.getElem_mem hi')

/-- A row of n cells or more lies in block g. -/
def Blk (w : World) (g e n : Nat) : Prop := ∃ cs : Array Value, w.heap[g]? = some (.cells cs e (0, 0)) ∧ n ≤ cs.size

theorem Blk.kept {w w' : World} {g e n : Nat} (h : Blk w g e n) (hg : w.grownBy w' none) : Blk w' g e n := by
  obtain ⟨cs, h1, h2⟩ := h
  exact ⟨cs, (hg.block g (Array.getElem?_eq_some_iff.1 h1).1 (by simp)).trans h1, h2⟩
theorem Blk.set {w : World} {g e n : Nat} (h : Blk w g e n) (g' k : Nat) (v : Value) : Blk (w.setCell ⟨g', k, none⟩ v) g e n := by
  obtain ⟨cs, h1, h2⟩ := h
  by_cases hgg : g = g'
  · subst hgg
    exact ⟨_, heap_setCell_same w g k _ _ _ h1, by simpa using h2⟩
  · exact ⟨cs, ((grown_setCell g' k v).block g (Array.getElem?_eq_some_iff.1 h1).1 (by simpa using hgg)).trans h1, h2⟩
theorem Blk.cell {w : World} {g e n : Nat} (h : Blk w g e n) (k : Nat) (hk : k < n) : (∃ v, w.cell? ⟨g, k, none⟩ = some v) ∧ w.frozen? ⟨g, k, none⟩ = false := by
  obtain ⟨cs, hr, hn⟩ := h
  exact ⟨⟨cs[k], by rw [cell_of_row w g k _ _ _ hr]; simp⟩, frozen_of_row w _ _ _ _ hr⟩
theorem Blk.lt {w : World} {g e n : Nat} (h : Blk w g e n) : g < w.heap.size := (Array.getElem?_eq_some_iff.1 h.choose_spec.1).1

theorem owns_blk {w : World} {B e s n c : Nat} {a : Option Addr} {xs : List Value} (h : w.ownsRow B e s (.slice a n c) n xs) : n = 0 ∨ ∃ g, a = some ⟨g, 0, none⟩ ∧ B ≤ g ∧ Blk w g e (n * s) := by
  rcases h.2 with ⟨_, h0⟩ | ⟨g, cap, cur, hv, hb, hh, hle, _, hs, _⟩
  · exact .inl h0
  · simp at hv
    obtain ⟨rfl, rfl⟩ := hv
    exact .inr ⟨g, rfl, hb, cur, hh, by rw [hs]; exact Nat.mul_le_mul_right s hle⟩

/-- The told grammar's memory: where its lists lie. -/
structure Shp (w : World) (B T : Nat) (ta la pa : Option Addr) (tn ln pn : Nat) (rn : Nat → Nat) (ra : Nat → Option Addr) (rc : Nat → Nat) : Prop where
  t : tn = 0 ∨ ∃ g, ta = some ⟨g, 0, none⟩ ∧ B ≤ g ∧ g < T ∧ Blk w g 74 (tn * 2)
  l : ln = 0 ∨ ∃ g, la = some ⟨g, 0, none⟩ ∧ B ≤ g ∧ g < T ∧ Blk w g 3 ln
  p : pn = 0 ∨ ∃ g cs, pa = some ⟨g, 0, none⟩ ∧ w.heap[g]? = some (.cells cs 52 (0, 0)) ∧ ∀ i, i < pn → cs[i * 3 + 1]? = some (.slice (ra i) (rn i) (rc i))
  r : ∀ i, i < pn → rn i = 0 ∨ ∃ g, ra i = some ⟨g, 0, none⟩ ∧ B ≤ g ∧ g < T ∧ Blk w g 3 (rn i)

theorem Shp.kept {w w' : World} {B T tn ln pn : Nat} {ta la pa : Option Addr} {rn : Nat → Nat} {ra : Nat → Option Addr} {rc : Nat → Nat} (h : Shp w B T ta la pa tn ln pn rn ra rc) (hg : w.grownBy w' none) : Shp w' B T ta la pa tn ln pn rn ra rc where
  t := h.t.imp id fun ⟨g, h1, h2, h3, h4⟩ => ⟨g, h1, h2, h3, h4.kept hg⟩
  l := h.l.imp id fun ⟨g, h1, h2, h3, h4⟩ => ⟨g, h1, h2, h3, h4.kept hg⟩
  p := h.p.imp id fun ⟨g, cs, h1, h2, h3⟩ => ⟨g, cs, h1, (hg.block g (Array.getElem?_eq_some_iff.1 h2).1 (by simp)).trans h2, h3⟩
  r := fun i hi => (h.r i hi).imp id fun ⟨g, h1, h2, h3, h4⟩ => ⟨g, h1, h2, h3, h4.kept hg⟩

theorem Shp.set {w : World} {B T tn ln pn : Nat} {ta la pa : Option Addr} {rn : Nat → Nat} {ra : Nat → Option Addr} {rc : Nat → Nat} (h : Shp w B T ta la pa tn ln pn rn ra rc) {g e n : Nat} (hb : Blk w g e n) (he : e ≠ 52) (k : Nat) (v : Value) : Shp (w.setCell ⟨g, k, none⟩ v) B T ta la pa tn ln pn rn ra rc where
  t := h.t.imp id fun ⟨g', h1, h2, h3, h4⟩ => ⟨g', h1, h2, h3, h4.set g k v⟩
  l := h.l.imp id fun ⟨g', h1, h2, h3, h4⟩ => ⟨g', h1, h2, h3, h4.set g k v⟩
  p := h.p.imp id fun ⟨g', cs, h1, h2, h3⟩ => ⟨g', cs, h1, by
    refine ((grown_setCell g k v).block g' (Array.getElem?_eq_some_iff.1 h2).1 ?_).trans h2
    intro e1
    have e2 : g' = g := by simpa using e1
    obtain ⟨cs', hc, _⟩ := hb
    rw [e2, hc] at h2
    simp at h2
    exact he h2.2, h3⟩
  r := fun i hi => (h.r i hi).imp id fun ⟨g', h1, h2, h3, h4⟩ => ⟨g', h1, h2, h3, h4.set g k v⟩

theorem GramNew.shp {w : World} {B : Nat} {G : GR} {ta na la pa : Option Addr} {tc nc lc pc : Nat} (h : GramNew w B G (.slice ta G.terms.length tc) (.slice na G.nons.length nc) (.slice la G.levels.length lc) (.slice pa G.prods.length pc)) (h5 : ∀ i, i < G.prods.length → (G.prods.getD i ⟨0, [], 0⟩).right.length ≤ 17592186044416) :
    ∃ rn ra rc, (∀ i, i < G.prods.length → rn i ≤ 17592186044416) ∧ Shp w B w.heap.size ta la pa G.terms.length G.levels.length G.prods.length rn ra rc := by
  obtain ⟨rg, hp, hr⟩ := h.prods
  have hI : ∀ k, ∃ a c, k < G.prods.length → rg k = .slice a (G.prods.getD k ⟨0, [], 0⟩).right.length c := fun k => by
    by_cases hk : k < G.prods.length
    · obtain ⟨a, c, hv⟩ := owns_slice (hr k hk)
      exact ⟨a, c, fun _ => hv⟩
    · exact ⟨none, 0, fun h => absurd h hk⟩
  refine ⟨fun k => (G.prods.getD k ⟨0, [], 0⟩).right.length, fun k => Classical.choose (hI k), fun k => Classical.choose (Classical.choose_spec (hI k)), fun k hk => ?_, ?_, ?_, ?_, ?_⟩
  · exact h5 k hk
  · exact (owns_blk h.terms).imp id fun ⟨g, h1, h2, h3⟩ => ⟨g, h1, h2, h3.lt, h3⟩
  · exact (owns_blk h.levels).imp id fun ⟨g, h1, h2, h3⟩ => ⟨g, h1, h2, h3.lt, by simpa using h3⟩
  · rcases hp.2 with ⟨_, h0⟩ | ⟨g, cap, cur, hv, _, hh, _⟩
    · exact .inl h0
    · simp at hv
      obtain ⟨rfl, rfl⟩ := hv
      refine .inr ⟨g, cur, rfl, hh, fun k hk => ?_⟩
      have e := Classical.choose_spec (Classical.choose_spec (hI k)) hk
      have c1 := prodRow_at (fun i => (G.prods.getD i ⟨0, [], 0⟩).left) rg (fun i => (G.prods.getD i ⟨0, [], 0⟩).level) G.prods.length k hk 1 (by omega)
      have c2 := owns_cell hp c1
      rw [e] at c2
      have c3 := cell_of_row w g (k * 3 + 1) _ _ _ hh
      rw [c2] at c3
      exact c3.symm
  · intro k hk
    have e := Classical.choose_spec (Classical.choose_spec (hI k)) hk
    have := hr k hk
    rw [e] at this
    exact (owns_blk this).imp id fun ⟨g, h1, h2, h3⟩ => ⟨g, h1, h2, h3.lt, by simpa using h3⟩

/-- Both builders, and the told grammar's memory in neither's part. -/
structure TlAt (X w : World) (K : Nat → Prop) (x b r : Nat) (S : BS) (B T gb : Nat) (gv : Array Value) (ta la pa : Option Addr) (tn ln pn : Nat) (rn : Nat → Nat) (ra : Nat → Option Addr) (rc : Nat → Nat) : Prop where
  two : ∃ P Q, Two w K x b r S S P Q ∧ ∀ g, B ≤ g → g < T → ¬ P g ∧ ¬ Q g
  gX : Frm K X w
  xB : x < B
  BX : ∀ g, B ≤ g → ¬ K g
  Tw : T ≤ w.heap.size
  shp : Shp w B T ta la pa tn ln pn rn ra rc
  box : w.heap[gb]? = some (.cells gv 42 (0, 0))

theorem TlAt.kept {X w w' : World} {K : Nat → Prop} {x b r B T gb tn ln pn : Nat} {S : BS} {gv : Array Value} {ta la pa : Option Addr} {rn : Nat → Nat} {ra : Nat → Option Addr} {rc : Nat → Nat} (h : TlAt X w K x b r S B T gb gv ta la pa tn ln pn rn ra rc) (hg : w.grownBy w' none) : TlAt X w' K x b r S B T gb gv ta la pa tn ln pn rn ra rc := by
  obtain ⟨P, Q, hT, hn⟩ := h.two
  have hz := hg.size
  have hTw := h.Tw
  refine ⟨⟨_, _, hT.kept hg, fun g h1 h2 => ⟨?_, (hn g h1 h2).2⟩⟩, h.gX.kept hg, h.xB, h.BX, by omega, h.shp.kept hg, (hg.block gb (Array.getElem?_eq_some_iff.1 h.box).1 (by simp)).trans h.box⟩
  rintro (⟨h3, _⟩ | h3)
  · exact (hn g h1 h2).1 h3
  · omega

theorem TlAt.set {X w : World} {K : Nat → Prop} {x b r B T gb tn ln pn : Nat} {S : BS} {gv : Array Value} {ta la pa : Option Addr} {rn : Nat → Nat} {ra : Nat → Option Addr} {rc : Nat → Nat} (h : TlAt X w K x b r S B T gb gv ta la pa tn ln pn rn ra rc) {g e n : Nat} (hb : Blk w g e n) (he : e ≠ 52 ∧ e ≠ 69 ∧ e ≠ 42) (h1 : B ≤ g) (h2 : g < T) (k : Nat) (v : Value) : TlAt X (w.setCell ⟨g, k, none⟩ v) K x b r S B T gb gv ta la pa tn ln pn rn ra rc := by
  obtain ⟨P, Q, hT, hn⟩ := h.two
  have hg : w.grownBy (w.setCell ⟨g, k, none⟩ v) (some g) := grown_setCell g k v
  have hz : (w.setCell ⟨g, k, none⟩ v).heap.size = w.heap.size := by simp
  have hTw := h.Tw
  have hxB := h.xB
  obtain ⟨cs, hc, hcn⟩ := hb
  refine ⟨⟨_, _, hT.spoil hg hc he.2.1 (hn g h1 h2).1 (hn g h1 h2).2 (by omega), fun g' h3 h4 => ⟨?_, (hn g' h3 h4).2⟩⟩, h.gX.grown hg (fun g' e => by cases e; exact h.BX g h1), h.xB, h.BX, by omega, h.shp.set ⟨cs, hc, hcn⟩ he.1 k v, ?_⟩
  · rintro (⟨h5, _⟩ | h5)
    · exact (hn g' h3 h4).1 h5
    · omega
  · refine (hg.block gb (Array.getElem?_eq_some_iff.1 h.box).1 ?_).trans h.box
    intro e1
    have e2 : gb = g := by simpa using e1
    have e3 := h.box
    rw [e2, hc] at e3
    simp at e3
    exact he.2.2 e3.2

theorem TlAt.cells {X w : World} {K : Nat → Prop} {x b r B T gb tn ln pn : Nat} {S : BS} {v0 v1 v2 v3 v4 : Value} {ta la pa : Option Addr} {rn : Nat → Nat} {ra : Nat → Option Addr} {rc : Nat → Nat} (h : TlAt X w K x b r S B T gb #[v0, v1, v2, v3, v4] ta la pa tn ln pn rn ra rc) : w.cell? ⟨gb, 0, none⟩ = some v0 ∧ w.cell? ⟨gb, 2, none⟩ = some v2 ∧ w.cell? ⟨gb, 4, none⟩ = some v4 := by
  refine ⟨?_, ?_, ?_⟩ <;> rw [cell_of_row _ _ _ _ _ _ h.box] <;> rfl

/-- The document's builder's lengths, as the law reads them. -/
theorem TlAt.lens {X w : World} {K : Nat → Prop} {x b r B T gb tn ln pn : Nat} {S : BS} {gv : Array Value} {ta la pa : Option Addr} {rn : Nat → Nat} {ra : Nat → Option Addr} {rc : Nat → Nat} (h : TlAt X w K x b r S B T gb gv ta la pa tn ln pn rn ra rc) :
    w.cell? ⟨x, 1, none⟩ = some (.pointer (some ⟨r, 0, none⟩)) ∧ ∃ a0 c0 a1 c1 a2 c2 a3 c3, w.cell? ⟨r, 0, none⟩ = some (.slice a0 S.terms.length c0) ∧ w.cell? ⟨r, 1, none⟩ = some (.slice a1 S.nons.length c1) ∧ w.cell? ⟨r, 2, none⟩ = some (.slice a2 S.sides.length c2) ∧ w.cell? ⟨r, 3, none⟩ = some (.slice a3 S.prods.length c3) := by
  obtain ⟨P, Q, hT, _⟩ := h.two
  refine ⟨by rw [cell_of_row _ _ _ _ _ _ hT.box]; rfl, ?_⟩
  obtain ⟨_, _, vt, vn, vl, vr, h3, h4⟩ := hT.rb
  obtain ⟨a0, c0, e0⟩ := owns_form h4.tl
  obtain ⟨a1, c1, e1⟩ := owns_form h4.nl
  obtain ⟨a2, c2, e2⟩ := owns_form h4.ll
  obtain ⟨rs, _, hr, _⟩ := h4.rl
  obtain ⟨a3, c3, e3⟩ := owns_form hr
  obtain ⟨k0, k1, k2, k3, _⟩ := h3.cells
  subst e0 e1 e2 e3
  exact ⟨_, _, _, _, _, _, _, _, k0, k1, k2, k3⟩

/-- How it begins. -/
theorem TlAt.start {X w w1 w2 : World} {K : Nat → Prop} {x b r : Nat} {S : BS} {P Q : Nat → Prop} (hT : Two w K x b r S S P Q) (hX : Frm K X w) (hg1 : w.grownBy w1 none) {tn ln pn : Nat} {ta la pa : Option Addr} {rn : Nat → Nat} {ra : Nat → Option Addr} {rc : Nat → Nat} (hs : Shp w1 w.heap.size w1.heap.size ta la pa tn ln pn rn ra rc) {gv : Array Value} (h2 : w2 = w1.alloc (.cells gv 42)) :
    TlAt X w2 K x b r S w.heap.size w1.heap.size w1.heap.size gv ta la pa tn ln pn rn ra rc := by
  have hg2 : w1.grownBy w2 none := by rw [h2]; exact World.grownBy_alloc w1 _ none
  have hz : w2.heap.size = w1.heap.size + 1 := by rw [h2]; simp
  have h12 := grown_trans hg1 hg2
  have hz1 := hg1.size
  refine ⟨⟨_, _, hT.fresh h12, fun g h3 h4 => ⟨?_, ?_⟩⟩, hX.kept h12, hT.xlt, fun g hg hk => (by have := hT.ltK g hk; omega), by omega, hs.kept hg2, by rw [h2]; exact heap_alloc_last w1 _⟩
  · rintro (⟨_, h5⟩ | h5) <;> omega
  · rintro (⟨_, h5⟩ | h5) <;> omega

end Go.Proofs.Ytkbpnafahimeiaa

namespace Go.Proofs.Ytkbpnafahimeiaa
open Go.RowKit Go.Maps Go.Shelf

set_option maxRecDepth 100000 in
set_option maxHeartbeats 4000000 in
theorem told_any (X w : World) (K : Nat → Prop) (x b r : Nat) (S : BS) (P Q : Nat → Prop) (hT : Two w K x b r S S P Q) (hX : Frm K X w) :
    Calls Try.prog 9 #[.pointer (some ⟨x, 0, none⟩)] w fun e w' => LEnd X K x b r S e w' := by
  obtain ⟨G, c, hGc⟩ : ∃ G c, S.told = (G, c) := ⟨_, _, rfl⟩
  have hok := hT.ok
  obtain ⟨z1, z2, z3, z4, z5⟩ := told_sizes hok hGc
  have HSZ : Hid (Calls Try.prog 19 #[.pointer (some ⟨b, 0, none⟩)] w fun e w' => e = .returned (.tuple #[.int .i64 S.terms.length, .int .i64 S.nons.length, .int .i64 S.sides.length, .int .i64 S.prods.length]) ∧ ∃ k, w' = w.drewN k) := sizes_any b { S with P := P } w hT.pb
  have HT1 : Hid (∀ k, ∃ P' Q', Two (w.drewN k) K x b r S S P' Q') := fun k => ⟨_, _, hT.kept (grown_drewN w k)⟩
  have HXW : Hid (∀ k, Frm K X (w.drewN k)) := fun k => hX.kept (grown_drewN w k)
  have HGR : Hid (∀ W P' Q', Two W K x b r S S P' Q' → Calls Try.prog 20 #[.pointer (some ⟨b, 0, none⟩)] W fun e w' => ∃ vt vn vl vp, e = .returned (.tuple #[.agg #[vt, vn, vl, .int .i64 G.start, vp], .int .i64 c]) ∧ GramNew w' W.heap.size G vt vn vl vp ∧ W.grownBy w' none) := fun W P' Q' h => grammar_any b { S with P := P' } W h.pb G c hGc
  have HRG : Hid (∀ W P' Q', Two W K x b r S S P' Q' → Calls Try.prog 28 #[.pointer (some ⟨r, 0, none⟩)] W fun e w' => ∃ vt vn vl vp, e = .returned (.tuple #[.agg #[vt, vn, vl, .int .i64 G.start, vp], .int .i64 c]) ∧ GramNew w' W.heap.size G vt vn vl vp ∧ W.grownBy w' none) := fun W P' Q' h => rgrammar_any r S W Q' hok h.rb G c hGc
  have HGAT : Hid (∀ {W : World} {B : Nat} {ta na la pa : Option Addr} {tc nc lc pc : Nat}, GramNew W B G (.slice ta G.terms.length tc) (.slice na G.nons.length nc) (.slice la G.levels.length lc) (.slice pa G.prods.length pc) → ∃ ra rc, GAt W ta na la pa tc nc lc pc G.terms G.nons G.levels G.prods.length (fun i => (G.prods.getD i ⟨0, [], 0⟩).left) (fun i => (G.prods.getD i ⟨0, [], 0⟩).right) ra rc (fun i => (G.prods.getD i ⟨0, [], 0⟩).level)) := fun h => h.gat z1 z2 z3 z4 z5
  have HZ5 : Hid (∀ i, i < G.prods.length → (G.prods.getD i ⟨0, [], 0⟩).right.length ≤ 17592186044416) := z5
  have x0 : w.cell? ⟨x, 0, none⟩ = some (.pointer (some ⟨b, 0, none⟩)) := by rw [cell_of_row _ _ _ _ _ _ hT.box]; rfl
  clear hT hX z2 z5
  go_enter Try.func9, Try.ntmps9
  go_wp2_with fail
  refine Calls.mono HSZ.out ?_
  rintro e w1 ⟨rfl, k, hk⟩
  have HX1 : Hid (Frm K X w1) := by rw [hk]; exact HXW.out k
  obtain ⟨P1, Q1, hT1⟩ : ∃ P' Q', Two w1 K x b r S S P' Q' := by rw [hk]; exact HT1.out k
  have x1 : w1.cell? ⟨x, 0, none⟩ = some (.pointer (some ⟨b, 0, none⟩)) := by rw [cell_of_row _ _ _ _ _ _ hT1.box]; rfl
  have HW1 : Hid (Two w1 K x b r S S P1 Q1) := hT1
  clear hT1 hk x0 HSZ HT1 HXW
  go_wp2_with fail
  refine Calls.mono (HGR.out w1 P1 Q1 HW1.out) ?_
  rintro e w2 ⟨vt, vn, vl, vp, rfl, hN, hg2⟩
  obtain ⟨ta, tc, rfl⟩ := owns_slice hN.terms
  obtain ⟨na, nc, rfl⟩ := owns_slice hN.nons
  obtain ⟨la, lc, rfl⟩ := owns_slice hN.levels
  obtain ⟨pa, pc, rfl⟩ : ∃ pa pc, vp = .slice pa G.prods.length pc := by obtain ⟨rg, h1, _⟩ := hN.prods; exact owns_slice h1
  obtain ⟨rn, ra, rc, hrn, hsh⟩ := hN.shp HZ5.out
  obtain ⟨ra1, rc1, hG1⟩ := HGAT.out hN
  obtain ⟨W2, hW2⟩ : ∃ W2, W2 = w2.alloc (.cells #[.slice ta G.terms.length tc, .slice na G.nons.length nc, .slice la G.levels.length lc, .int .i64 G.start, .slice pa G.prods.length pc] 42) := ⟨_, rfl⟩
  have HW2 : Hid (W2 = w2.alloc (.cells #[.slice ta G.terms.length tc, .slice na G.nons.length nc, .slice la G.levels.length lc, .int .i64 G.start, .slice pa G.prods.length pc] 42)) := hW2
  have HTL := TlAt.start HW1.out HX1.out hg2 hsh hW2
  have HG1' := hG1.kept (show w2.grownBy W2 none by rw [hW2]; exact World.grownBy_alloc _ _ none)
  have HRN : Hid (∀ i, i < G.prods.length → rn i ≤ 17592186044416) := hrn
  have HX2 : Hid (w2.cell? ⟨x, 1, none⟩ = some (.pointer (some ⟨r, 0, none⟩))) := by rw [cell_of_row _ _ _ _ _ _ (HW1.out.kept hg2).box]; rfl
  have HXL : Hid (x < w2.heap.size) := (HW1.out.kept hg2).xlt
  clear hN hg2 hsh hG1 hrn hW2 x1 HGR HW1 HX1
  have x1 : w2.cell? ⟨x, 1, none⟩ = some (.pointer (some ⟨r, 0, none⟩)) := HX2.out
  have xl : x < w2.heap.size := HXL.out
  have HTL2 := show Hid _ from HTL
  have HGA := show Hid _ from HG1'
  clear HTL HG1' HX2 HXL
  go_wp2_with fail
  rw [← HW2.out]
  obtain ⟨P2, Q2, hT2, _⟩ := HTL2.out.two
  refine Calls.mono (HRG.out W2 P2 Q2 hT2) ?_
  rintro e w3 ⟨vt', vn', vl', vp', rfl, hN, hg3⟩
  obtain ⟨ta', tc', rfl⟩ := owns_slice hN.terms
  obtain ⟨na', nc', rfl⟩ := owns_slice hN.nons
  obtain ⟨la', lc', rfl⟩ := owns_slice hN.levels
  obtain ⟨pa', pc', rfl⟩ : ∃ pa pc, vp' = .slice pa G.prods.length pc := by obtain ⟨rg, h1, _⟩ := hN.prods; exact owns_slice h1
  obtain ⟨ra2, rc2, hG2⟩ := HGAT.out hN
  obtain ⟨W3, hW3⟩ : ∃ W3, W3 = w3.alloc (.cells #[.slice ta' G.terms.length tc', .slice na' G.nons.length nc', .slice la' G.levels.length lc', .int .i64 G.start, .slice pa' G.prods.length pc'] 42) := ⟨_, rfl⟩
  have HW3 : Hid (W3 = w3.alloc (.cells #[.slice ta' G.terms.length tc', .slice na' G.nons.length nc', .slice la' G.levels.length lc', .int .i64 G.start, .slice pa' G.prods.length pc'] 42)) := hW3
  have hga : w3.grownBy W3 none := by rw [hW3]; exact World.grownBy_alloc _ _ none
  have hT3 := HTL2.out.kept hg3
  have HTL3 := show Hid _ from hT3.kept hga
  have HRS := show Hid _ from rsame_any G.start G.start (HGA.out.kept (grown_trans hg3 hga)) (hG2.kept hga) true ⟨fun _ => ⟨rfl, rfl, rfl, rfl, rfl, fun _ _ => ⟨rfl, rfl, rfl⟩⟩, fun _ => rfl⟩
  have hTlt : w2.heap.size < w3.heap.size := (Array.getElem?_eq_some_iff.1 hT3.box).1
  have m0 : w3.cell? ⟨w2.heap.size, 0, none⟩ = some (.slice ta G.terms.length tc) := by rw [cell_of_row _ _ _ _ _ _ hT3.box]; rfl
  have m1 : w3.cell? ⟨w2.heap.size, 1, none⟩ = some (.slice na G.nons.length nc) := by rw [cell_of_row _ _ _ _ _ _ hT3.box]; rfl
  have m2 : w3.cell? ⟨w2.heap.size, 2, none⟩ = some (.slice la G.levels.length lc) := by rw [cell_of_row _ _ _ _ _ _ hT3.box]; rfl
  have m3 : w3.cell? ⟨w2.heap.size, 3, none⟩ = some (.int .i64 G.start) := by rw [cell_of_row _ _ _ _ _ _ hT3.box]; rfl
  have m4 : w3.cell? ⟨w2.heap.size, 4, none⟩ = some (.slice pa G.prods.length pc) := by rw [cell_of_row _ _ _ _ _ _ hT3.box]; rfl
  clear hN hg3 hG2 hW3 hT2 hT3 hga HRG HGAT HGA HTL2 HW2 x1 xl
  generalize w1.heap.size = B at *
  generalize w2.heap.size = T at *
  go_wp2_with fail
  rw [← HW3.out]
  refine Calls.mono HRS.out ?_
  rintro e w4 ⟨rfl, hg4⟩
  have HTL4 := show Hid _ from HTL3.out.kept hg4
  clear hg4 HTL3 HRS m0 m1 m2 m3 m4 HW3
  generalize G.terms.length = tn at *
  generalize G.levels.length = ln at *
  generalize G.prods.length = pn at *
  generalize G.nons.length = nn at *
  generalize G.start = st at *
  go_wp2_with fail
  go_loopg [12, 13] pn (fun gk i v13 wr => ∃ k : Nat, k ≤ pn ∧ gk = pn - k ∧ i = .int .i64 k ∧ TlAt X wr K x b r S B T T #[.slice ta tn tc, .slice na nn nc, .slice la ln lc, .int .i64 st, .slice pa pn pc] ta la pa tn ln pn rn ra rc)
  case atStart => exact ⟨0, Nat.zero_le _, rfl, rfl, HTL4.out⟩
  case round =>
    obtain ⟨k, hk, hgk, rfl, hL⟩ := hrel
    have HL := show Hid _ from hL
    have HGK : Hid (gk = pn - k) := hgk
    obtain ⟨m0, m2, m4⟩ := hL.cells
    clear hL hgk HTL4
    by_cases hlt : k < pn
    · obtain ⟨gp, cs, hpa, hrow, hcs⟩ : ∃ g cs, pa = some ⟨g, 0, none⟩ ∧ wr.heap[g]? = some (.cells cs 52 (0, 0)) ∧ ∀ i, i < pn → cs[i * 3 + 1]? = some (.slice (ra i) (rn i) (rc i)) := by
        rcases HL.out.shp.p with h0 | h0
        · omega
        · exact h0
      subst hpa
      have hrl := HRN.out k hlt
      have HCS : Hid (cs[k * 3 + 1]? = some (.slice (ra k) (rn k) (rc k))) := hcs k hlt
      have HSR : Hid (rn k = 0 ∨ ∃ g, ra k = some ⟨g, 0, none⟩ ∧ B ≤ g ∧ g < T ∧ Blk wr g 3 (rn k)) := HL.out.shp.r k hlt
      clear hcs hrow
      obtain ⟨len, hlen⟩ : ∃ len, len = rn k := ⟨_, rfl⟩
      have HLE : Hid (rn k = len) := hlen.symm
      rw [← hlen] at hrl
      obtain ⟨rk, hrk⟩ : ∃ rk, rk = ra k := ⟨_, rfl⟩
      have HRK : Hid (ra k = rk) := hrk.symm
      obtain ⟨ck, hck⟩ : ∃ ck, ck = rc k := ⟨_, rfl⟩
      have HCK : Hid (rc k = ck) := hck.symm
      clear hlen hrk hck HCS HSR
      go_wp2_with fail
      go_loopg [13] len (fun gx i wz => ∃ j : Nat, j ≤ len ∧ gx = len - j ∧ i = .int .i64 j ∧ TlAt X wz K x b r S B T T #[.slice ta tn tc, .slice na nn nc, .slice la ln lc, .int .i64 st, .slice (some ⟨gp, 0, none⟩) pn pc] ta la (some ⟨gp, 0, none⟩) tn ln pn rn ra rc)
      case atStart => exact ⟨0, Nat.zero_le _, rfl, rfl, HL.out⟩
      case round =>
        obtain ⟨j, hj, hgx, rfl, hL⟩ := hrel
        have HGX : Hid (gk = len - j) := hgx
        have HL2 := show Hid _ from hL
        obtain ⟨n0, n2, n4⟩ := hL.cells
        have hcell : wr.cell? ⟨gp, k * 3 + 1, none⟩ = some (.slice rk len ck) := by
          obtain ⟨g, cs, e1, e2, e3⟩ : ∃ g cs, some (⟨gp, 0, none⟩ : Addr) = some ⟨g, 0, none⟩ ∧ wr.heap[g]? = some (.cells cs 52 (0, 0)) ∧ ∀ i, i < pn → cs[i * 3 + 1]? = some (.slice (ra i) (rn i) (rc i)) := by
            rcases hL.shp.p with h0 | h0
            · omega
            · exact h0
          have : gp = g := by simpa using e1
          subst this
          rw [cell_of_row _ _ _ _ _ _ e2, e3 k hlt, HLE.out, HRK.out, HCK.out]
        have HSR : Hid (len = 0 ∨ ∃ g, rk = some ⟨g, 0, none⟩ ∧ B ≤ g ∧ g < T ∧ Blk wr g 3 len) := by
          have := hL.shp.r k hlt
          rw [HLE.out, HRK.out] at this
          exact this
        clear hL hgx
        by_cases hlj : j < len
        · obtain ⟨g, rfl, hg1, hg2, hblk⟩ : ∃ g, rk = some ⟨g, 0, none⟩ ∧ B ≤ g ∧ g < T ∧ Blk wr g 3 len := by
            rcases HSR.out with h0 | h0
            · omega
            · exact h0
          obtain ⟨⟨v0, hc⟩, hf⟩ := hblk.cell j hlj
          have HFIN := show Hid _ from HL2.out.set hblk (by decide) hg1 hg2 j (.int .i64 99)
          clear hblk HSR
          go_wp2_with fail
          go_roundg (len - (j + 1))
          case measure => have := HGX.out; omega
          case rel => exact ⟨j + 1, by omega, rfl, by go_num, HFIN.out⟩
        · go_wp2_with fail
          go_roundg (pn - (k + 1))
          case measure => have := HGK.out; omega
          case rel => exact ⟨k + 1, by omega, rfl, by go_num, HL2.out⟩
    · go_wp2_with fail
      go_loopg [14] tn (fun gk i wr => ∃ k : Nat, k ≤ tn ∧ gk = tn - k ∧ i = .int .i64 k ∧ TlAt X wr K x b r S B T T #[.slice ta tn tc, .slice na nn nc, .slice la ln lc, .int .i64 st, .slice pa pn pc] ta la pa tn ln pn rn ra rc)
      case atStart => exact ⟨0, Nat.zero_le _, rfl, rfl, HL.out⟩
      case round =>
        clear m0 m2 m4
        obtain ⟨k2, hk2, hgk2, rfl, hL⟩ := hrel
        have HGK2 := show Hid _ from hgk2
        have HL2 := show Hid _ from hL
        obtain ⟨m0, m2, m4⟩ := hL.cells
        clear hL hgk2 HL
        by_cases hlt2 : k2 < tn
        · obtain ⟨g, rfl, hg1, hg2, hblk⟩ : ∃ g, ta = some ⟨g, 0, none⟩ ∧ B ≤ g ∧ g < T ∧ Blk wr g 74 (tn * 2) := by
            rcases HL2.out.shp.t with h0 | h0
            · omega
            · exact h0
          obtain ⟨⟨v0, hc⟩, hf⟩ := hblk.cell (k2 * 2) (by omega)
          have HFIN := show Hid _ from HL2.out.set hblk (by decide) hg1 hg2 (k2 * 2) (.string { data := #[109, 105, 110, 101] })
          clear hblk
          go_wp2_with fail
          go_roundg (tn - (k2 + 1))
          case measure => have := HGK2.out; omega
          case rel => exact ⟨k2 + 1, by omega, rfl, by go_num, HFIN.out⟩
        · go_wp2_with fail
          go_loopg [15] ln (fun gk i wr => ∃ k : Nat, k ≤ ln ∧ gk = ln - k ∧ i = .int .i64 k ∧ TlAt X wr K x b r S B T T #[.slice ta tn tc, .slice na nn nc, .slice la ln lc, .int .i64 st, .slice pa pn pc] ta la pa tn ln pn rn ra rc)
          case atStart => exact ⟨0, Nat.zero_le _, rfl, rfl, HL2.out⟩
          case round =>
            clear m0 m2 m4
            obtain ⟨k3, hk3, hgk3, rfl, hL⟩ := hrel
            have HGK3 := show Hid _ from hgk3
            have HL3 := show Hid _ from hL
            obtain ⟨m0, m2, m4⟩ := hL.cells
            obtain ⟨y0, a0, c0, a1, c1, a2, c2, a3, c3, y1, y2, y3, y4⟩ := hL.lens
            clear hL hgk3 HL2
            by_cases hlt3 : k3 < ln
            · obtain ⟨g, rfl, hg1, hg2, hblk⟩ : ∃ g, la = some ⟨g, 0, none⟩ ∧ B ≤ g ∧ g < T ∧ Blk wr g 3 ln := by
                rcases HL3.out.shp.l with h0 | h0
                · omega
                · exact h0
              obtain ⟨⟨v0, hc⟩, hf⟩ := hblk.cell k3 hlt3
              have HFIN := show Hid _ from HL3.out.set hblk (by decide) hg1 hg2 k3 (.int .i64 9)
              clear hblk
              go_wp2_with fail
              go_roundg (ln - (k3 + 1))
              case measure => have := HGK3.out; omega
              case rel => exact ⟨k3 + 1, by omega, rfl, by go_num, HFIN.out⟩
            · go_wp2_with fail
              go_ret
              obtain ⟨P', Q', hT', _⟩ := HL3.out.two
              exact ⟨rfl, P', Q', hT', HL3.out.gX⟩

end Go.Proofs.Ytkbpnafahimeiaa
