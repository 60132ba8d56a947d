/-
  A copy in its own memory, while it is spoilt.
-/
import Derived.Test.YtkbpnafahimeiaaWholeW
import Derived.Test.YtkbpnafahimeiaaAwakeWalk
namespace Go.Proofs.Ytkbpnafahimeiaa
open Go.RowKit

/-- A row of n cells or more lies in block g. -/
def BlkW (w : World) (g e n : Nat) : Prop := ∃ cs : Array Value, w.heap[g]? = some (.cells cs e (0, 0)) ∧ n ≤ cs.size
theorem BlkW.set {w : World} {g e n : Nat} (h : BlkW w g e n) (g' k : Nat) (v : Value) : BlkW (w.setCell ⟨g', k, none⟩ v) g e n := by
  obtain ⟨cs, h1, h2⟩ := h
  by_cases hgg : g = g'
  · subst hgg
    exact ⟨_, heap_setCell_same w g k _ _ _ h1, by simpa using h2⟩
  · exact ⟨cs, ((grown_setCell g' k v).block g (Array.getElem?_eq_some_iff.1 h1).1 (by simpa using hgg)).trans h1, h2⟩
theorem BlkW.kept {w w' : World} {g e n : Nat} (h : BlkW w g e n) (hg : w.grownBy w' none) : BlkW w' g e n := by
  obtain ⟨cs, h1, h2⟩ := h
  exact ⟨cs, (hg.block g (Array.getElem?_eq_some_iff.1 h1).1 (by simp)).trans h1, h2⟩
theorem BlkW.cell {w : World} {g e n : Nat} (h : BlkW w g e n) (k : Nat) (hk : k < n) : (∃ v, w.cell? ⟨g, k, none⟩ = some v) ∧ w.frozen? ⟨g, k, none⟩ = false := by
  obtain ⟨cs, hr, hn⟩ := h
  exact ⟨⟨cs[k], by rw [cell_of_row w g k _ _ _ hr]; simp⟩, frozen_of_row w _ _ _ _ hr⟩
theorem owns_blkW {w : World} {B e s n c : Nat} {a : Option Addr} {xs : List Value} (h : w.ownsRow B e s (.slice a n c) n xs) : n = 0 ∨ ∃ g, a = some ⟨g, 0, none⟩ ∧ B ≤ g ∧ BlkW w g e (n * s) := by
  rcases h.2 with ⟨_, h0⟩ | ⟨g, cap, cur, hv, hb, hh, hle, _, hs, _⟩
  · exact .inl h0
  · simp at hv
    obtain ⟨rfl, rfl⟩ := hv
    exact .inr ⟨g, rfl, hb, cur, hh, by rw [hs]; exact Nat.mul_le_mul_right s hle⟩

structure CpAt (Y wr : World) (cb : Nat) (cv : Array Value) (na pa : Option Addr) (nn pn : Nat) (rn : Nat → Nat) (ra : Nat → Option Addr) (rc : Nat → Nat) : Prop where
  grown : Y.grownBy wr none
  s : nn = 0 ∨ ∃ g, na = some ⟨g, 0, none⟩ ∧ Y.heap.size ≤ g ∧ BlkW wr g 9 nn
  p : pn = 0 ∨ ∃ g cs, pa = some ⟨g, 0, none⟩ ∧ Y.heap.size ≤ g ∧ wr.heap[g]? = some (.cells cs 52 (0, 0)) ∧ pn * 3 ≤ cs.size ∧ ∀ i, i < pn → cs[i * 3 + 1]? = some (.slice (ra i) (rn i) (rc i))
  r : ∀ i, i < pn → rn i = 0 ∨ ∃ g, ra i = some ⟨g, 0, none⟩ ∧ Y.heap.size ≤ g ∧ BlkW wr g 3 (rn i)
  box : wr.heap[cb]? = some (.cells cv 42 (0, 0))

section
variable {Y wr : World} {cb nn pn : Nat} {cv : Array Value} {na pa : Option Addr} {rn : Nat → Nat} {ra : Nat → Option Addr} {rc : Nat → Nat}
theorem CpAt.kept {wx : World} (h : CpAt Y wr cb cv na pa nn pn rn ra rc) (hg : wr.grownBy wx none) : CpAt Y wx cb cv na pa nn pn rn ra rc :=
  ⟨grown_trans h.grown hg, h.s.imp id fun ⟨g, h1, h2, h3⟩ => ⟨g, h1, h2, h3.kept hg⟩, h.p.imp id fun ⟨g, cs, h1, h2, h3, h4⟩ => ⟨g, cs, h1, h2, (hg.block g (Array.getElem?_eq_some_iff.1 h3).1 (by simp)).trans h3, h4⟩, fun i hi => (h.r i hi).imp id fun ⟨g, h1, h2, h3⟩ => ⟨g, h1, h2, h3.kept hg⟩, (hg.block cb (Array.getElem?_eq_some_iff.1 h.box).1 (by simp)).trans h.box⟩
theorem CpAt.set (h : CpAt Y wr cb cv na pa nn pn rn ra rc) {g e n : Nat} (hb : BlkW wr g e n) (he : e ≠ 52 ∧ e ≠ 42) (hY : Y.heap.size ≤ g) (k : Nat) (v : Value) : CpAt Y (wr.setCell ⟨g, k, none⟩ v) cb cv na pa nn pn rn ra rc := by
  obtain ⟨cs', hc, _⟩ := hb
  have hP : ∀ (g' : Nat) (cs : Array Value), wr.heap[g']? = some (.cells cs 52 (0, 0)) → (wr.setCell ⟨g, k, none⟩ v).heap[g']? = some (.cells cs 52 (0, 0)) := fun g' cs h3 => by
    refine ((grown_setCell g k v).block g' (Array.getElem?_eq_some_iff.1 h3).1 ?_).trans h3
    intro e1
    have e2 : g' = g := by simpa using e1
    rw [e2, hc] at h3
    simp at h3
    exact he.1 h3.2
  refine ⟨grown_new h.grown (grown_setCell g k v) hY, h.s.imp id fun ⟨g', h1, h2, h3⟩ => ⟨g', h1, h2, h3.set g k v⟩, h.p.imp id fun ⟨g', cs, h1, h2, h3, h4⟩ => ⟨g', cs, h1, h2, hP g' cs h3, h4⟩, fun i hi => (h.r i hi).imp id fun ⟨g', h1, h2, h3⟩ => ⟨g', h1, h2, h3.set g k v⟩, ?_⟩
  refine ((grown_setCell g k v).block cb (Array.getElem?_eq_some_iff.1 h.box).1 ?_).trans h.box
  intro e1
  have e2 : cb = g := by simpa using e1
  have e3 := h.box
  rw [e2, hc] at e3
  simp at e3
  exact he.2 e3.2
theorem CpAt.setL (h : CpAt Y wr cb cv na pa nn pn rn ra rc) {g : Nat} (hp : pa = some ⟨g, 0, none⟩) (h0 : 0 < pn) (i : Nat) (v : Value) : CpAt Y (wr.setCell ⟨g, i * 3, none⟩ v) cb cv na pa nn pn rn ra rc := by
  rcases h.p with h' | ⟨g', cs, h1, h2, h3, h4, h5⟩
  · omega
  have e0 : g' = g := by rw [hp] at h1; simpa using h1.symm
  subst e0
  refine ⟨grown_new h.grown (grown_setCell g' _ v) h2, h.s.imp id fun ⟨q, k1, k2, k3⟩ => ⟨q, k1, k2, k3.set g' _ v⟩, .inr ⟨g', cs.setIfInBounds (i * 3) v, hp, h2, heap_setCell_same wr g' _ _ _ v h3, by simpa using h4, fun j hj => ?_⟩, fun j hj => (h.r j hj).imp id fun ⟨q, k1, k2, k3⟩ => ⟨q, k1, k2, k3.set g' _ v⟩, ?_⟩
  · rw [Array.getElem?_setIfInBounds_ne (by omega)]
    exact h5 j hj
  · refine ((grown_setCell g' _ v).block cb (Array.getElem?_eq_some_iff.1 h.box).1 ?_).trans h.box
    intro e1
    have e2 : cb = g' := by simpa using e1
    have e3 := h.box
    rw [e2, h3] at e3
    simp at e3
theorem CpAt.cells {v0 v1 v2 v3 v4 : Value} (h : CpAt Y wr cb #[v0, v1, v2, v3, v4] na pa nn pn rn ra rc) : wr.cell? ⟨cb, 1, none⟩ = some v1 ∧ wr.cell? ⟨cb, 4, none⟩ = some v4 := by
  refine ⟨?_, ?_⟩ <;> rw [cell_of_row _ _ _ _ _ _ h.box] <;> rfl
end

theorem GramNew.cp {Y w w' : World} {ts : List (ByteArray × Int)} {ns : List ByteArray} {lv : List Int} {st : Int} {n : Nat} {L : Nat → Int} {R : Nat → List Int} {V : Nat → Int} {vt vl : Value} {na pa : Option Addr} {nc pc : Nat} (h : GramNew w Y.heap.size (grOf ts ns lv st n L R V) vt (.slice na ns.length nc) vl (.slice pa n pc)) (hg : Y.grownBy w none) {cv : Array Value} (hw : w' = w.alloc (.cells cv 42)) :
    ∃ rn ra rc, (∀ i, i < n → rn i = (R i).length) ∧ CpAt Y w' w.heap.size cv na pa ns.length n rn ra rc := by
  have hgw : w.grownBy w' none := by rw [hw]; exact World.grownBy_alloc w _ none
  obtain ⟨rg, hp, hr⟩ := h.prods
  rw [grOf_len] at hp
  have hI : ∀ k, ∃ a c, k < n → rg k = .slice a (R k).length c := fun k => by
    by_cases hk : k < n
    · have h0 := hr k (by rw [grOf_len]; exact hk)
      rw [grOf_at _ _ _ _ _ _ _ _ hk] at h0
      obtain ⟨a, c, hv⟩ := owns_slice h0
      exact ⟨a, c, fun _ => hv⟩
    · exact ⟨none, 0, fun h => absurd h hk⟩
  refine ⟨fun k => (R k).length, fun k => Classical.choose (hI k), fun k => Classical.choose (Classical.choose_spec (hI k)), fun _ _ => rfl, grown_trans hg hgw, ?_, ?_, fun i hi => ?_, by rw [hw]; exact heap_alloc_last w _⟩
  · exact (owns_blkW h.nons).imp id fun ⟨g, h1, h2, h3⟩ => ⟨g, h1, h2, by have := h3.kept hgw; rw [Nat.mul_one] at this; exact this⟩
  · rcases hp.2 with ⟨_, h0⟩ | ⟨g, cap, cur, hv, hb, hh, hle, _, hs, _⟩
    · exact .inl h0
    · simp at hv
      obtain ⟨rfl, rfl⟩ := hv
      refine .inr ⟨g, cur, rfl, hb, (hgw.block g (Array.getElem?_eq_some_iff.1 hh).1 (by simp)).trans hh, by rw [hs]; exact Nat.mul_le_mul_right 3 hle, fun k hk => ?_⟩
      have e := Classical.choose_spec (Classical.choose_spec (hI k)) hk
      have c1 := prodRow_at (fun i => ((grOf ts ns lv st n L R V).prods.getD i ⟨0, [], 0⟩).left) rg (fun i => ((grOf ts ns lv st n L R V).prods.getD i ⟨0, [], 0⟩).level) n k hk 1 (by omega)
      have c2 := owns_cell hp c1
      rw [e] at c2
      have c3 := cell_of_row w g (k * 3 + 1) _ _ _ hh
      rw [c2] at c3
      exact c3.symm
  · have e := Classical.choose_spec (Classical.choose_spec (hI i)) hi
    have h0 := hr i (by rw [grOf_len]; exact hi)
    rw [grOf_at _ _ _ _ _ _ _ _ hi, e] at h0
    exact (owns_blkW h0).imp id fun ⟨g, h1, h2, h3⟩ => ⟨g, h1, h2, by have := h3.kept hgw; rw [Nat.mul_one] at this; exact this⟩

end Go.Proofs.Ytkbpnafahimeiaa
