/-
  What the law's listed holds: both builders, the box of the call, and the lent list.
-/
import Derived.Test.YtkbpnafahimeiaaLent
import Derived.Test.YtkbpnafahimeiaaRbLevel
namespace Go.Proofs.Ytkbpnafahimeiaa
open Go.RowKit

structure LstAt (X w : World) (K : Nat → Prop) (x b r : Nat) (S1 S2 : BS) (ob gl : Nat) (ov : Array Value) (l : List Int) (P Q : Nat → Prop) : Prop where
  two : Two w K x b r S1 S2 P Q
  gX : Frm K X w
  lent : LentAt w gl l 8
  op : w.heap[ob]? = some (.cells ov 38 (0, 0))
  nP : ¬ P gl
  nQ : ¬ Q gl
  glb : gl ≠ b
  glx : x ≠ gl
  glB : ¬ K gl
  obb : ob ≠ b
  obQ : ¬ Q ob

theorem LstAt.prog {X w w' : World} {K : Nat → Prop} {x b r : Nat} {S1 S2 S1' : BS} {ob gl : Nat} {ov : Array Value} {l : List Int} {P Q : Nat → Prop} (h : LstAt X w K x b r S1 S2 ob gl ov l P Q) (hB : BAt w' b { S1' with P := P }) (hg : w.grownBy w' (some b)) :
    LstAt X w' K x b r S1' S2 ob gl ov l P (fun g => (Q g ∧ g < w.heap.size) ∨ w'.heap.size ≤ g) where
  two := h.two.prog hB hg
  gX := h.two.grownP h.gX hg
  lent := (hg.block gl h.lent.lt (by have := h.glb; simp; exact this)).trans h.lent
  op := (hg.block ob (Array.getElem?_eq_some_iff.1 h.op).1 (by have := h.obb; simp; exact this)).trans h.op
  nP := h.nP
  nQ := fun hQ => by
    rcases hQ with ⟨hq, _⟩ | hl
    · exact h.nQ hq
    · have := hg.size; have := h.lent.lt; omega
  glb := h.glb
  glx := h.glx
  glB := h.glB
  obb := h.obb
  obQ := fun hQ => by
    rcases hQ with ⟨hq, _⟩ | hl
    · exact h.obQ hq
    · have := hg.size; have := (Array.getElem?_eq_some_iff.1 h.op).1; omega

theorem LstAt.doc {X w w' : World} {K : Nat → Prop} {x b r : Nat} {S1 S2 S2' : BS} {ob gl : Nat} {ov : Array Value} {l : List Int} {P Q : Nat → Prop} (h : LstAt X w K x b r S1 S2 ob gl ov l P Q) (hR : RAt w' r S2' Q) (hg : GrownOff w w' Q) :
    LstAt X w' K x b r S1 S2' ob gl ov l (fun g => (P g ∧ g < w.heap.size) ∨ w'.heap.size ≤ g) Q where
  two := h.two.doc hR hg
  gX := h.two.grownD h.gX hg
  lent := by
    rcases hg.block gl h.lent.lt with ⟨hq, _⟩ | h1
    · exact absurd hq h.nQ
    · exact h1.trans h.lent
  op := by
    rcases hg.block ob (Array.getElem?_eq_some_iff.1 h.op).1 with ⟨hq, _⟩ | h1
    · exact absurd hq h.obQ
    · exact h1.trans h.op
  nP := fun hP => by
    rcases hP with ⟨hq, _⟩ | hl
    · exact h.nP hq
    · have := hg.size; have := h.lent.lt; omega
  nQ := h.nQ
  glb := h.glb
  glx := h.glx
  glB := h.glB
  obb := h.obb
  obQ := h.obQ

theorem LstAt.kept {X w w' : World} {K : Nat → Prop} {x b r : Nat} {S1 S2 : BS} {ob gl : Nat} {ov : Array Value} {l : List Int} {P Q : Nat → Prop} (h : LstAt X w K x b r S1 S2 ob gl ov l P Q) (hg : w.grownBy w' none) :
    LstAt X w' K x b r S1 S2 ob gl ov l (fun g => (P g ∧ g < w.heap.size) ∨ w'.heap.size ≤ g) Q := h.doc (h.two.rb.kept0 hg) (GrownOff.of_none hg)

theorem LstAt.ints {X w : World} {K : Nat → Prop} {x b r : Nat} {S1 S2 : BS} {ob gl : Nat} {ov : Array Value} {l : List Int} {P Q : Nat → Prop} (h : LstAt X w K x b r S1 S2 ob gl ov l P Q) {a : Option Addr} (hl : ∀ W, Frm K X W → IntsAt W a l) : ∀ W, GrownOff w W Q → IntsAt W a l :=
  fun _ hg => hl _ (h.two.grownD h.gX hg)

/-- How it begins: the box of the call, and Lent. -/
theorem LstAt.start {X w w1 w2 : World} {K : Nat → Prop} {x b r : Nat} {S : BS} {ov : Array Value} {l : List Int} {P Q : Nat → Prop} (hT : Two w K x b r S S P Q) (hX : Frm K X w) (h1 : w1 = w.alloc (.cells ov 38)) (hL : LentAt w2 w1.heap.size l 8) (hb : Below w1.heap.size w1 w2) :
    ∃ P' Q', LstAt X w2 K x b r S S w.heap.size w1.heap.size ov l P' Q' := by
  have hg1 : w.grownBy w1 none := by rw [h1]; exact World.grownBy_alloc w _ none
  have hg2 : w1.grownBy w2 none := below_grown hb
  have hz : w1.heap.size = w.heap.size + 1 := by rw [h1]; simp
  have hz2 := hL.lt
  have hop : w1.heap[w.heap.size]? = some (.cells ov 38 (0, 0)) := by rw [h1]; exact heap_alloc_last w _
  have hbl : b < w.heap.size := by
    obtain ⟨_, c, hr, _⟩ := hT.pb
    exact (Array.getElem?_eq_some_iff.1 hr).1
  have hxl := hT.xlt
  have h12 := grown_trans hg1 hg2
  refine ⟨_, _, hT.fresh h12, hX.kept h12, hL, (hg2.block _ (by omega) (by simp)).trans hop, ?_, ?_, by omega, by omega, fun hk => (by have := hT.ltK _ hk; omega), by omega, ?_⟩
  · rintro (⟨_, h⟩ | h) <;> omega
  · rintro (⟨_, h⟩ | h) <;> omega
  · rintro (⟨_, h⟩ | h) <;> omega

theorem Two.ok {w : World} {K : Nat → Prop} {x b r : Nat} {S1 S2 : BS} {P Q : Nat → Prop} (hT : Two w K x b r S1 S2 P Q) : S1.OK := by
  have h9 := hT.pb.1
  exact ⟨h9.syms, h9.tnames, h9.nnames, h9.tnd, h9.nnd, h9.sides, h9.sdv, h9.prods, h9.lev, h9.lev0, h9.levT, h9.has, h9.pl, h9.pr, h9.plen, h9.pv, h9.st⟩

/-- While the lent list is spoilt. -/
structure Spl (X w : World) (K : Nat → Prop) (x b r : Nat) (S : BS) (gl n : Nat) : Prop where
  two : ∃ P Q, Two w K x b r S S P Q ∧ ¬ P gl ∧ ¬ Q gl
  gX : Frm K X w
  row : ∃ cs : Array Value, w.heap[gl]? = some (.cells cs 3 (0, 0)) ∧ n ≤ cs.size
  glx : x ≠ gl
  glB : ¬ K gl

theorem LstAt.spl {X w : World} {K : Nat → Prop} {x b r : Nat} {S : BS} {ob gl : Nat} {ov : Array Value} {l : List Int} {P Q : Nat → Prop} (h : LstAt X w K x b r S S ob gl ov l P Q) : Spl X w K x b r S gl l.length :=
  ⟨⟨P, Q, h.two, h.nP, h.nQ⟩, h.gX, ⟨_, h.lent, by simp [lentL_length]⟩, h.glx, h.glB⟩

theorem Spl.drewN {X w : World} {K : Nat → Prop} {x b r : Nat} {S : BS} {gl n : Nat} (h : Spl X w K x b r S gl n) (k : Nat) : Spl X (w.drewN k) K x b r S gl n := by
  obtain ⟨P, Q, hT, hP, hQ⟩ := h.two
  obtain ⟨cs, hr, hn⟩ := h.row
  have hlt := (Array.getElem?_eq_some_iff.1 hr).1
  refine ⟨⟨_, _, hT.kept (grown_drewN w k), ?_, hQ⟩, h.gX.kept (grown_drewN w k), ⟨cs, hr, hn⟩, h.glx, h.glB⟩
  rintro (⟨h1, _⟩ | h1)
  · exact hP h1
  · have : w.heap.size ≤ gl := h1
    omega

theorem Spl.cell {X w : World} {K : Nat → Prop} {x b r : Nat} {S : BS} {gl n : Nat} (h : Spl X w K x b r S gl n) (k : Nat) (hk : k < n) : (∃ v, w.cell? ⟨gl, k, none⟩ = some v) ∧ w.frozen? ⟨gl, k, none⟩ = false := by
  obtain ⟨cs, hr, hn⟩ := h.row
  exact ⟨⟨cs[k], by rw [cell_of_row w gl k _ _ _ hr]; simp⟩, frozen_of_row w _ _ _ _ hr⟩

theorem Spl.set {X w : World} {K : Nat → Prop} {x b r : Nat} {S : BS} {gl n : Nat} (h : Spl X w K x b r S gl n) (k : Nat) (v : Value) : Spl X (w.setCell ⟨gl, k, none⟩ v) K x b r S gl n := by
  obtain ⟨P, Q, hT, hP, hQ⟩ := h.two
  obtain ⟨cs, hr, hn⟩ := h.row
  have hlt := (Array.getElem?_eq_some_iff.1 hr).1
  have hg : w.grownBy (w.setCell ⟨gl, k, none⟩ v) (some gl) := grown_setCell gl k v
  have hz : (w.setCell ⟨gl, k, none⟩ v).heap.size = w.heap.size := by simp
  refine ⟨⟨_, _, hT.spoil hg hr (by decide) hP hQ h.glx, ?_, hQ⟩, h.gX.grown hg (fun g e => by cases e; exact h.glB), ⟨_, heap_setCell_same w gl k _ _ _ hr, by simpa using hn⟩, h.glx, h.glB⟩
  rintro (⟨h1, _⟩ | h1)
  · exact hP h1
  · omega

/-- The end: both builders stand. -/
abbrev LEnd (X : World) (K : Nat → Prop) (x b r : Nat) (S : BS) (e : Ending) (w' : World) : Prop := e = .returned (.bool true) ∧ ∃ P' Q', Two w' K x b r S S P' Q' ∧ Frm K X w'

end Go.Proofs.Ytkbpnafahimeiaa
