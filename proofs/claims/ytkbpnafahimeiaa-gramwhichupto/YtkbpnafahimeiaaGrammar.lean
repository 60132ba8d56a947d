/-
  Grammar of a builder: what is told, and the memory that it lies in.
-/
import Derived.Test.YtkbpnafahimeiaaNumberedWalk
namespace Go.Proofs.Ytkbpnafahimeiaa
open Go.RowKit Go.Maps Go.Shelf

/-- A grammar as it is told. -/
structure GR where
  terms : List (ByteArray × Int)
  nons : List ByteArray
  levels : List Int
  start : Int
  prods : List PR

/-- A grammar in memory of its own, from block B on. -/
structure GramNew (w : World) (B : Nat) (G : GR) (vt vn vl vp : Value) : Prop where
  terms : w.ownsRow B 74 2 vt G.terms.length (tmsL G.terms)
  nons : w.ownsRow B 9 1 vn G.nons.length (G.nons.map Value.string)
  levels : w.ownsRow B 3 1 vl G.levels.length (G.levels.map (Value.int .i64))
  prods : ∃ rg : Nat → Value, w.ownsRow B 52 3 vp G.prods.length (prodRow G.prods.length (fun i => (G.prods.getD i ⟨0, [], 0⟩).left) rg (fun i => (G.prods.getD i ⟨0, [], 0⟩).level)) ∧
    ∀ i, i < G.prods.length → w.ownsRow B 3 1 (rg i) (G.prods.getD i ⟨0, [], 0⟩).right.length ((G.prods.getD i ⟨0, [], 0⟩).right.map (Value.int .i64))

theorem GramNew.kept {w w' : World} {B : Nat} {G : GR} {vt vn vl vp : Value} (h : GramNew w B G vt vn vl vp) (hg : w.grownBy w' none) : GramNew w' B G vt vn vl vp := by
  obtain ⟨rg, h1, h2⟩ := h.prods
  exact ⟨h.terms.kept hg (by cases hv : vt.ownBlock <;> simp), h.nons.kept hg (by cases hv : vn.ownBlock <;> simp), h.levels.kept hg (by cases hv : vl.ownBlock <;> simp), rg, h1.kept hg (by cases hv : vp.ownBlock <;> simp), fun i hi => (h2 i hi).kept hg (by cases hv : (rg i).ownBlock <;> simp)⟩

def BS.sym (S : BS) (i : Nat) : Int := symOf (S.terms.length + 1) (ordOf S.prods) i
def BS.first (S : BS) : Int := if S.start = 0 then (S.prods.getD 0 ⟨0, [], 0⟩).left else S.start
/-- Is there a grammar to tell? -/
def BS.tells (S : BS) : Bool := decide (0 < S.prods.length) && decide (S.nons.length ≤ (ordOf S.prods).length)
/-- The grammar that is told. -/
def BS.gram (S : BS) : GR :=
  { terms := S.tms S.terms.length, nons := (ordOf S.prods).map (fun i => S.nons.getD (i - 1) ⟨#[]⟩), levels := S.sides, start := S.sym (-S.first).toNat,
    prods := S.prods.map fun p => ⟨sg S.sym p.left, p.right.map (sg S.sym), p.level⟩ }

theorem outL_map (S : BS) (out : List Nat) : outL S out = (out.map (fun i => S.nons.getD (i - 1) ⟨#[]⟩)).map Value.string := by simp [outL]

theorem owns_lower {w : World} {B B' e size n : Nat} {v : Value} {xs : List Value} (h : w.ownsRow B e size v n xs) (hle : B' ≤ B) : w.ownsRow B' e size v n xs := by
  refine ⟨h.1, ?_⟩
  rcases h.2 with h' | ⟨g, cap, cur, hv, hb, rest⟩
  · exact .inl h'
  · exact .inr ⟨g, cap, cur, hv, Nat.le_trans hle hb, rest⟩

/-- The builder's productions, as numbered takes them. -/
theorem BAt.prodsAt {w : World} {b : Nat} {S : BS} (hB : BAt w b S) (h0 : 0 < S.prods.length) : ∃ g cap ra rc, w.cell? ⟨b, 70, none⟩ = some (.slice (some ⟨g, 0, none⟩) S.prods.length cap) ∧ (∀ X, w.grownBy X none → ProdsAt X (some ⟨g, 0, none⟩) S.prods.length (fun i => (S.prods.getD i ⟨0, [], 0⟩).left) (fun i => (S.prods.getD i ⟨0, [], 0⟩).right) ra rc (fun i => (S.prods.getD i ⟨0, [], 0⟩).level)) := by
  obtain ⟨hok, c, hr, hc⟩ := hB
  obtain ⟨rs, h1, h2, h3⟩ := hc.pr
  have h2' := h2
  rcases h2.2 with ⟨_, hn⟩ | ⟨g, cap, cur, hv, _, hg, hle, _⟩
  · omega
  · rw [hv] at h2'
    have hI : ∀ k, ∃ a c, k < S.prods.length → rs.getD k undef = .slice a (S.prods.getD k ⟨0, [], 0⟩).right.length c ∧ IntsAt w a (S.prods.getD k ⟨0, [], 0⟩).right ∧ (a = none → c = 0) := fun k => by
      by_cases hk : k < S.prods.length
      · obtain ⟨a, c, hv', h4, _, h5⟩ := (h3 k hk).at
        exact ⟨a, c, fun _ => ⟨hv', h4, fun h => (h5 h).2⟩⟩
      · exact ⟨none, 0, fun h => absurd h hk⟩
    refine ⟨g, cap, fun k => Classical.choose (hI k), fun k => Classical.choose (Classical.choose_spec (hI k)), by rw [hr.cell 70 (by omega), hv], fun X hX => .inr ⟨g, 0, rfl, fun k hk => ?_⟩⟩
    obtain ⟨e1, e2, e3⟩ := Classical.choose_spec (Classical.choose_spec (hI k)) hk
    have cell : ∀ i, i < 3 → ∀ u, (prL (S.prods.getD k ⟨0, [], 0⟩) (rs.getD k undef))[i]? = some u → X.cell? ⟨g, 0 + k * 3 + i, none⟩ = some u := fun i hi u hu => by
      have h5 := World.ownsRow.cells h2' (g := g) rfl (k * 3 + i) u (by rw [flat_at S.prods rs k h1 hk i hi]; exact hu)
      rw [Addr.add_mid] at h5
      rw [Nat.add_assoc]
      exact hX.cell h5 (by simp)
    rw [e1] at cell
    have hp : S.prods.getD k ⟨0, [], 0⟩ ∈ S.prods := by
      have : S.prods.getD k ⟨0, [], 0⟩ = S.prods[k] := by simp [List.getD, hk]
      rw [this]; exact List.getElem_mem _
    exact ⟨cell 0 (by omega) _ rfl, cell 1 (by omega) _ rfl, cell 2 (by omega) _ rfl, e2.kept hX, e3, hok.plen _ hp⟩

/-- numbered, in a world that has grown from the one that the order was made in. -/
theorem numbered_at {w X : World} {b Bs : Nat} {S : BS} {v : Value} (hB : BAt w b S) (h0 : 0 < S.prods.length) (hO : OrdAt w X S Bs (S.terms.length + 1) (ordOf S.prods) v) :
    Calls Try.prog 47 #[.pointer (some ⟨b, 0, none⟩), .slice (some ⟨Bs, 0, none⟩) (S.nons.length + 1) (S.nons.length + 1)] X fun e w' => ∃ g c rg, e = .returned (.slice (some ⟨g, 0, none⟩) S.prods.length c) ∧
      NewProds X w' X.heap.size (.slice (some ⟨g, 0, none⟩) S.prods.length c) S.prods.length S.prods.length (fun i => sg S.sym (S.prods.getD i ⟨0, [], 0⟩).left) (fun i => (S.prods.getD i ⟨0, [], 0⟩).right.map (sg S.sym)) (fun i => (S.prods.getD i ⟨0, [], 0⟩).level) rg := by
  obtain ⟨g, cap, ra, rc, hc, hP⟩ := hB.prodsAt h0
  have hok := hB.1
  have hsy := hok.syms
  have mem : ∀ i, i < S.prods.length → S.prods.getD i ⟨0, [], 0⟩ ∈ S.prods := fun i hi => by
    have : S.prods.getD i ⟨0, [], 0⟩ = S.prods[i] := by simp [List.getD, hi]
    rw [this]; exact List.getElem_mem _
  exact numbered_core b g 0 S.prods.length cap Bs S.nons.length _ _ ra rc _ S.sym X (hO.grown.cell hc (by simp)) (hP X hO.grown) h0 hok.prods (by omega) (fun i hi => hO.cell i hi) (fun i hi => hok.pl _ (mem i hi))
    (fun i hi h hh => by
      rcases hok.pr _ (mem i hi) h hh with h' | h'
      · left; omega
      · exact .inr h')

theorem gram_prods (S : BS) (i : Nat) (hi : i < S.prods.length) : S.gram.prods.getD i ⟨0, [], 0⟩ = ⟨sg S.sym (S.prods.getD i ⟨0, [], 0⟩).left, (S.prods.getD i ⟨0, [], 0⟩).right.map (sg S.sym), (S.prods.getD i ⟨0, [], 0⟩).level⟩ := by
  simp [BS.gram, List.getD, hi]

theorem gram_new {w X : World} {S : BS} {vt vn vl vp : Value} {rg : Nat → Value} (ht : X.ownsRow w.heap.size 74 2 vt (S.terms.length + 1) (tmsL (S.tms S.terms.length))) (hn : X.ownsRow w.heap.size 9 1 vn (ordOf S.prods).length (outL S (ordOf S.prods)))
    (hl : X.ownsRow w.heap.size 3 1 vl S.sides.length (S.sides.map (Value.int .i64)))
    (hp : X.ownsRow w.heap.size 52 3 vp S.prods.length (prodRow S.prods.length (fun i => sg S.sym (S.prods.getD i ⟨0, [], 0⟩).left) rg (fun i => (S.prods.getD i ⟨0, [], 0⟩).level)))
    (hr : ∀ i, i < S.prods.length → X.ownsRow w.heap.size 3 1 (rg i) ((S.prods.getD i ⟨0, [], 0⟩).right.map (sg S.sym)).length (((S.prods.getD i ⟨0, [], 0⟩).right.map (sg S.sym)).map (Value.int .i64))) : GramNew X w.heap.size S.gram vt vn vl vp := by
  have hlen : S.gram.prods.length = S.prods.length := by simp [BS.gram]
  refine ⟨?_, ?_, hl, rg, ?_, fun i hi => ?_⟩
  · have : S.gram.terms.length = S.terms.length + 1 := tms_length S _
    rw [this]; exact ht
  · have : S.gram.nons.length = (ordOf S.prods).length := by simp [BS.gram]
    rw [this]
    rw [outL_map] at hn
    exact hn
  · rw [hlen, prodRow_ext (L' := fun i => sg S.sym (S.prods.getD i ⟨0, [], 0⟩).left) (r' := rg) (V' := fun i => (S.prods.getD i ⟨0, [], 0⟩).level) (fun i hi => by rw [gram_prods S i hi]) (fun _ _ => rfl) (fun i hi => by rw [gram_prods S i hi])]
    exact hp
  · rw [hlen] at hi
    rw [gram_prods S i hi]
    exact hr i hi

end Go.Proofs.Ytkbpnafahimeiaa
