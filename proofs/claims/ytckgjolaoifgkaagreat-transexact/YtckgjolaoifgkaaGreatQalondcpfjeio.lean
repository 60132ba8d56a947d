/-
  lr0: a row of items, sorted by the library.
-/
import Derived.Test.YtckgjolaoifgkaaGreatQmgghdphbncjm
import Derived.Shelf.SlSortCmp.WholeK
import Derived.Shelf.SlSortCmp.NoneTotal
import Derived.Shelf.SlGeneric
import Derived.Ground.SlsfProg
import Derived.Sort.OwnSortedInts
namespace Go.Proofs.YtckgjolaoifgkaaGreat
open Go.Shelf Go.RowKit Go.Lib Go.Sort
shelf_lay_g SlLaysF0.n6 Slsf 6 at Tryz 81 as Tryz.sortItems
end Go.Proofs.YtckgjolaoifgkaaGreat

namespace Go.Proofs.YtckgjolaoifgkaaGreat.J
open Go.RowKit Go.Maps Go.Shelf Go.Sort

theorem cmpI_lt (x y : It) : cmpI x y < 0 ↔ ltI x y := by
  unfold cmpI cmpN ltI
  by_cases h1 : x.1 < y.1
  · simp [h1]
  · by_cases h2 : y.1 < x.1
    · simp [h1, h2]; omega
    · by_cases h3 : x.2 < y.2
      · simp [h1, h2, h3]; omega
      · by_cases h4 : y.2 < x.2
        · simp [h1, h2, h3, h4]
        · simp [h1, h2, h3, h4]
theorem lt_iff (x y : It) : ltOf cmpI x y = true ↔ ltI x y := by unfold ltOf; rw [decide_eq_true_eq]; exact cmpI_lt x y
theorem lt_false (x y : It) : ltOf cmpI x y = false ↔ ¬ ltI x y := by
  rw [← lt_iff]
  cases ltOf cmpI x y <;> simp
theorem swoI : SWO (ltOf cmpI) where
  irrefl x := by rw [lt_false]; unfold ltI; omega
  trans x y z h1 h2 := by rw [lt_iff] at *; unfold ltI at *; omega
  ntrans x y z h1 h2 := by rw [lt_false] at *; unfold ltI at *; omega

theorem flat_its (l : List It) : flatK encIt 2 l.toArray = (itsV l).toArray := by
  apply ext_get!
  · simp [itsV_length]
  · intro t ht
    have ht2 : t < l.length * 2 := by simpa using ht
    rw [get_flatK _ _ _ _ (by simpa using ht2)]
    have hi : t / 2 < l.length := by omega
    obtain ⟨h1, h2⟩ := itsV_at l (t / 2) hi
    have hg : (l.toArray)[t / 2]! = l.getD (t / 2) (0, 0) := by
      rw [getElem!_pos _ _ (by simpa using hi)]
      simp [List.getD, hi]
    rw [hg]
    have ht3 : t < (itsV l).toArray.size := by simp [itsV_length]; omega
    rw [getElem!_pos (itsV l).toArray t ht3]
    have ht4 : t < (itsV l).length := by simpa using ht3
    have key : (itsV l)[t]? = some ((encIt (l.getD (t / 2) (0, 0)))[t % 2]!) := by
      have hm : t % 2 = 0 ∨ t % 2 = 1 := by omega
      rcases hm with hm | hm
      · rw [hm, show t = t / 2 * 2 by omega]
        rw [show t / 2 * 2 / 2 = t / 2 by omega]
        exact h1
      · rw [hm, show t = t / 2 * 2 + 1 by omega]
        rw [show (t / 2 * 2 + 1) / 2 = t / 2 by omega]
        exact h2
    rw [List.getElem?_eq_getElem ht4] at key
    simpa using (Option.some.inj key).symm

theorem take_putV (cur : Array Value) (ts : List Value) (h : ts.length ≤ cur.size) : (putCells id 0 ts.toArray cur).toList.take ts.length = ts := by
  apply List.ext_getElem?
  intro j
  by_cases hj : j < ts.length
  · rw [List.getElem?_take_of_lt hj, Array.getElem?_toList]
    simp [putCells, hj, show j < cur.size by omega]
  · rw [List.getElem?_take_eq_none (by omega), List.getElem?_eq_none (by omega)]

theorem heap_sortedV {w : World} {g n : Nat} {os : Array Obj} {cur : Array Value} {e : TypeId} {fr : Nat × Nat} (d : Array Value) (hb : w.heap[g]? = some (.cells cur e fr)) :
    (grow (putRow id (Sort.ahead w n) g 0 d) os).heap[g]? = some (.cells (putCells id 0 d cur) e fr) := by
  have hg : g < w.heap.size := (Array.getElem?_eq_some_iff.1 hb).1
  rw [heap_grow_old _ _ (by simpa using hg)]
  simp [putRow, mapBlock, Sort.ahead, Array.getElem?_modify, hb, onCells]
theorem grownBy_sortedV {w : World} {g n : Nat} {os : Array Obj} (d : Array Value) : w.grownBy (grow (putRow id (Sort.ahead w n) g 0 d) os) (some g) := by
  refine ⟨rfl, rfl, rfl, by simp, fun k hk hne => ?_⟩
  rw [heap_grow_old _ _ (by simpa using hk)]
  have : g ≠ k := fun e => hne (by rw [e])
  simp [putRow, mapBlock, Sort.ahead, Array.getElem?_modify, this]

theorem cmpLaysI (blk off size : Nat) (w : World) : CmpLays Tryz.prog 82 #[] encIt 2 cmpI blk off size w := fun _ _ _ _ x y => inOrder_any x y _

/-- What the sort leaves. -/
def SortTold (B : Nat) (a : Option Addr) (c : Nat) (l : List It) (w : World) (e : Ending) (y : World) : Prop := e = .returned (.tuple #[]) ∧ ∃ l' : List It, l'.Perm l ∧ Srt l' ∧ y.ownsRow B 68 2 (.slice a l.length c) l.length (itsV l') ∧ w.grownBy y (Value.slice a l.length c).ownBlock

set_option maxRecDepth 100000 in
theorem sort_any (w : World) (B : Nat) (a : Option Addr) (c : Nat) (l : List It) (hown : w.ownsRow B 68 2 (.slice a l.length c) l.length (itsV l)) (hlen : l.length < 4611686018427387904) :
    Calls Tryz.prog 81 #[.slice a l.length c, .func (.func 82) #[] #[]] w fun e y => SortTold B a c l w e y := by
  have eg : ∀ args w, (callFunc 82 args).run Tryz.prog w = .ok (.enter 82 args) w := enters_of Tryz.func82 (by kernel_rfl) rfl
  rcases hown.2 with ⟨hv, h0⟩ | ⟨g, cap, cur, hv, hB, hh, hn, hm, hs, ht⟩
  · have hl0 : l = [] := List.eq_nil_of_length_eq_zero h0
    subst hl0
    simp only [Value.slice.injEq] at hv
    obtain ⟨rfl, _, rfl⟩ := hv
    have hcon := AnyF.slices_SortFunc_none (P := Tryz.prog) { Tryz.sortItems with } none 0 (.func (.func 82) #[] #[]) w
    change Calls Tryz.prog 81 _ _ _ at hcon
    refine hcon.mono ?_
    rintro e y ⟨rfl, rfl⟩
    exact ⟨rfl, [], List.Perm.nil, List.Pairwise.nil, hown, ⟨rfl, rfl, rfl, Nat.le_refl _, fun _ _ _ => rfl⟩⟩
  · simp only [Value.slice.injEq] at hv
    obtain ⟨rfl, _, rfl⟩ := hv
    have hH : HoldsK encIt 2 w g 0 l.toArray := by
      unfold HoldsK
      rw [flat_its]
      intro j hj
      have hj' : j < (itsV l).length := by simpa using hj
      refine ⟨?_, frozen_of_row _ _ _ _ _ hh⟩
      rw [Nat.zero_add, cell_of_row _ _ _ _ _ _ hh]
      have h1 : (cur.toList.take (l.length * 2))[j]? = (itsV l)[j]? := by rw [ht]
      rw [List.getElem?_take, if_pos (by rw [itsV_length] at hj'; exact hj')] at h1
      rw [getElem!_pos _ _ (by simpa using hj')]
      simp only [id, List.getElem_toArray]
      rw [← Array.getElem?_toList, h1, List.getElem?_eq_getElem hj']
    have hcon := AnyQ.slices_SortFunc Tryz.sortItems 2 Tryz.isAgg68 Tryz.sizeOf68 encIt (fun _ => rfl) (fun x v hv => by simp [encIt] at hv; rcases hv with rfl | rfl <;> rfl) cmpI swoI 82 #[] g 0 c l.toArray w eg (cmpLaysI g 0 _ w) hH (Array.getElem?_eq_some_iff.1 hh).1 (by simpa using hlen)
    change Calls Tryz.prog 81 _ _ _ at hcon
    have es : l.toArray.size = l.length := by simp
    rw [es] at hcon
    refine hcon.mono ?_
    rintro e y ⟨rfl, d', nn, os, hp, hso, rfl⟩
    obtain ⟨p1, p2, p3⟩ := hp
    have hd : d'.size = l.length := by rw [p1, es]
    have hperm : d'.toList.Perm l := by
      have e1 : d'.extract 0 l.length = d' := by rw [← hd]; exact Array.extract_size
      have e2 : l.toArray.extract 0 l.length = l.toArray := by
        have : l.length = l.toArray.size := by simp
        rw [this]; exact Array.extract_size
      rw [e1, e2] at p3
      simpa using p3
    refine ⟨rfl, d'.toList, hperm, ?_, ?_, ?_⟩
    · unfold Srt
      rw [List.pairwise_iff_getElem]
      intro i j hi hj hij
      have h7 := hso i j (Nat.zero_le _) hij (by simpa [hd] using hj)
      rw [lt_false, getElem!_pos _ _ (by simpa using hj), getElem!_pos _ _ (by simpa using hi)] at h7
      simpa using h7
    · have e3 : sortWorldK encIt 2 w g 0 nn d' os = grow (putRow id (Sort.ahead w nn) g 0 (itsV d'.toList).toArray) os := by
        unfold sortWorldK putRowK
        rw [← flat_its]
      rw [e3]
      refine ⟨by rw [itsV_length]; simp [hd], .inr ⟨g, c, _, rfl, hB, heap_sortedV _ hh, hn, hm, by simp [putCells, hs], ?_⟩⟩
      have h8 : (itsV d'.toList).length = l.length * 2 := by rw [itsV_length]; simp [hd]
      rw [← h8]
      exact take_putV cur _ (by rw [h8, hs]; omega)
    · have e3 : sortWorldK encIt 2 w g 0 nn d' os = grow (putRow id (Sort.ahead w nn) g 0 (itsV d'.toList).toArray) os := by
        unfold sortWorldK putRowK
        rw [← flat_its]
      rw [e3]
      exact grownBy_sortedV _

end Go.Proofs.YtckgjolaoifgkaaGreat.J
