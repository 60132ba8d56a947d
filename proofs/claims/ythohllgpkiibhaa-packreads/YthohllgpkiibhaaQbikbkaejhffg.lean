/-
  pack: the chapter's example, as the laws hold it.
-/
import Derived.Test.YthohllgpkiibhaaQcjfplpmimddd
import Derived.Test.YthohllgpkiibhaaQbjpogfjllfkh
import Derived.Test.YthohllgpkiibhaaQlgaffddfiibh
namespace Go.Proofs.Ythohllgpkiibhaa.J
open Go.RowKit Go.Maps Go.Shelf Pk

attribute [local go_sem] Oper.semAt_some

/-- The example's rows. -/
def kR (i : Nat) : List It := if i = 0 then [(0, 7), (2, 8)] else if i = 2 then [(0, 5), (1, 6), (2, 4)] else if i = 3 then [(1, 9)] else []
theorem k_lay : lay kR 4 = ⟨[3, 0, 0, 3], [2, 2, 2, 0, 3, 0], [5, 6, 4, 7, 9, 8]⟩ := by kernel_rfl
theorem k_at : atF [3, 0, 0, 3] [5, 6, 4, 7, 9, 8] [2, 2, 2, 0, 3, 0] 0 2 = (8, true) := by decide
theorem k_row (i : Nat) (h : i < 4) : IsRow (kR i) := by
  match i, h with
  | 0, _ => exact ⟨by decide, by decide, by decide⟩
  | 1, _ => exact ⟨by decide, by decide, by decide⟩
  | 2, _ => exact ⟨by decide, by decide, by decide⟩
  | 3, _ => exact ⟨by decide, by decide, by decide⟩
theorem k_may : MayLay 4 kR := ⟨by decide, k_row⟩
theorem heap_new {w : World} {o : Obj} {k : Nat} (h : k = w.heap.size) : (w.alloc o).heap[k]? = some o := by
  subst h
  exact heap_alloc_last w o
theorem heap_old {w : World} {o x : Obj} {k : Nat} (h : w.heap[k]? = some x) : (w.alloc o).heap[k]? = some x :=
  (heap_alloc_old w o (Array.getElem?_eq_some_iff.1 h).1).trans h
theorem ints_litP {X : World} {b : Nat} (l : List Int) (h : X.heap[b]? = some (.cells (l.map (Value.int .i64)).toArray 3 (0, 0))) : IntsAt X (some ⟨b, 0, none⟩) l := .inr ⟨b, 0, rfl, fun i hi => by
  rw [cell_of_row _ _ _ _ _ _ h]
  simp [hi, List.getD_eq_getElem?_getD]⟩
/-- The example's rows in memory. -/
def kW (w : World) : World := (((w.alloc (.cells #[.int .i64 0, .int .i64 7, .int .i64 2, .int .i64 8] 60)).alloc (.cells #[.int .i64 0, .int .i64 5, .int .i64 1, .int .i64 6, .int .i64 2, .int .i64 4] 60)).alloc (.cells #[.int .i64 1, .int .i64 9] 60)).alloc (.cells #[.slice (some ⟨w.heap.size, 0, none⟩) 2 2, .slice none 0 0, .slice (some ⟨w.heap.size + 1, 0, none⟩) 3 3, .slice (some ⟨w.heap.size + 1 + 1, 0, none⟩) 1 1] 58)
def kA (w : World) (i : Nat) : Option Addr := if i = 0 then some ⟨w.heap.size, 0, none⟩ else if i = 2 then some ⟨w.heap.size + 1, 0, none⟩ else if i = 3 then some ⟨w.heap.size + 1 + 1, 0, none⟩ else none
theorem kW_grown (w : World) : w.grownBy (kW w) none := grown_trans (grown_trans (grown_trans (World.grownBy_alloc _ _ none) (World.grownBy_alloc _ _ none)) (World.grownBy_alloc _ _ none)) (World.grownBy_alloc _ _ none)
theorem kW_rows (w : World) : RsAt (kW w) (some ⟨w.heap.size + 1 + 1 + 1, 0, none⟩) 4 kR (kA w) (fun i => (kR i).length) := by
  have hd : (kW w).heap[w.heap.size + 1 + 1 + 1]? = some (.cells #[.slice (some ⟨w.heap.size, 0, none⟩) 2 2, .slice none 0 0, .slice (some ⟨w.heap.size + 1, 0, none⟩) 3 3, .slice (some ⟨w.heap.size + 1 + 1, 0, none⟩) 1 1] 58 (0, 0)) := heap_new (by simp)
  have h0 : (kW w).heap[w.heap.size]? = some (.cells #[.int .i64 0, .int .i64 7, .int .i64 2, .int .i64 8] 60 (0, 0)) := heap_old (heap_old (heap_old (heap_new rfl)))
  have h2 : (kW w).heap[w.heap.size + 1]? = some (.cells #[.int .i64 0, .int .i64 5, .int .i64 1, .int .i64 6, .int .i64 2, .int .i64 4] 60 (0, 0)) := heap_old (heap_old (heap_new (by simp)))
  have h3 : (kW w).heap[w.heap.size + 1 + 1]? = some (.cells #[.int .i64 1, .int .i64 9] 60 (0, 0)) := heap_old (heap_new (by simp))
  refine ⟨.inr ⟨_, 0, rfl, fun i hi => ?_⟩, fun i hi => ?_⟩
  · rw [cell_of_row _ _ _ _ _ _ hd]
    match i, hi with
    | 0, _ => rfl
    | 1, _ => rfl
    | 2, _ => rfl
    | 3, _ => rfl
  · match i, hi with
    | 0, _ => exact .inr ⟨_, 0, rfl, fun j hj => by
        rw [cell_of_row _ _ _ _ _ _ h0, cell_of_row _ _ _ _ _ _ h0]
        match j, hj with
        | 0, _ => exact ⟨rfl, rfl⟩
        | 1, _ => exact ⟨rfl, rfl⟩⟩
    | 1, _ => exact .inl rfl
    | 2, _ => exact .inr ⟨_, 0, rfl, fun j hj => by
        rw [cell_of_row _ _ _ _ _ _ h2, cell_of_row _ _ _ _ _ _ h2]
        match j, hj with
        | 0, _ => exact ⟨rfl, rfl⟩
        | 1, _ => exact ⟨rfl, rfl⟩
        | 2, _ => exact ⟨rfl, rfl⟩⟩
    | 3, _ => exact .inr ⟨_, 0, rfl, fun j hj => by
        rw [cell_of_row _ _ _ _ _ _ h3, cell_of_row _ _ _ _ _ _ h3]
        match j, hj with
        | 0, _ => exact ⟨rfl, rfl⟩⟩

set_option maxRecDepth 100000 in
set_option maxHeartbeats 2000000 in
theorem aw_ok : AwOk := fun w => by
  have HL := hidP (layM_any (some ⟨w.heap.size + 1 + 1 + 1, 0, none⟩) 4 4 kR (kA w) (fun i => (kR i).length) (kW w) (kW_rows w) (by decide) (fun i hi => Nat.le_trans (k_row i hi).1 (by decide)))
  have HGW := hidP (kW_grown w)
  obtain ⟨W, hW⟩ : ∃ W, W = kW w := ⟨_, rfl⟩
  rw [← hW] at HL HGW
  unfold kW at hW
  go_enter Try.func15, Try.ntmps15
  go_wp2_with fail
  rw [← hW]
  clear hW
  refine Calls.mono HL.out ?_
  rintro e y (⟨h1, -, -⟩ | ⟨-, ua, uc, rfl, hT, hy⟩)
  · exact absurd k_may h1
  rw [k_lay] at hT ⊢
  have HI : Hid (∀ X, y.grownBy X none → RwsAt X (ua 0) (ua 1) (ua 2) [3, 0, 0, 3] [5, 6, 4, 7, 9, 8] [2, 2, 2, 0, 3, 0]) := fun X hX => ⟨(hT.kept hX).ints (j := 0) (by decide), (hT.kept hX).ints (j := 1) (by decide), (hT.kept hX).ints (j := 2) (by decide)⟩
  have HY : Hid (w.grownBy y none) := grown_trans HGW.out hy
  clear hT hy HL HGW
  obtain ⟨a0, ha0⟩ : ∃ v, v = ua 0 := ⟨_, rfl⟩
  obtain ⟨a1, ha1⟩ : ∃ v, v = ua 1 := ⟨_, rfl⟩
  obtain ⟨a2, ha2⟩ : ∃ v, v = ua 2 := ⟨_, rfl⟩
  obtain ⟨c0, hc0⟩ : ∃ v, v = uc 0 := ⟨_, rfl⟩
  obtain ⟨c1, hc1⟩ : ∃ v, v = uc 1 := ⟨_, rfl⟩
  obtain ⟨c2, hc2⟩ : ∃ v, v = uc 2 := ⟨_, rfl⟩
  rw [← ha0, ← ha1, ← ha2] at HI
  rw [← ha0, ← ha1, ← ha2, ← hc0, ← hc1, ← hc2]
  clear ha0 ha1 ha2 hc0 hc1 hc2
  have HAT : Hid (∀ X, y.grownBy X none → Calls Try.prog 16 #[.agg #[.slice a0 4 c0, .slice a1 6 c1, .slice a2 6 c2], .int .i64 0, .int .i64 2] X fun e z => e = .returned (.tuple #[.int .i64 8, .bool true]) ∧ X.grownBy z none) := fun X hX => by
    have h := pkAt_any a0 a1 a2 c0 c1 c2 [3, 0, 0, 3] [5, 6, 4, 7, 9, 8] [2, 2, 2, 0, 3, 0] 0 2 X (HI.out X hX).1 (HI.out X hX).2.1 (HI.out X hX).2.2 (by decide) (by decide) (by decide)
    rw [k_at] at h
    exact h
  have HSA : Hid (∀ X b0 b1 b2, y.grownBy X none → X.heap[b0]? = some (.cells (([3, 0, 0, 3] : List Int).map (Value.int .i64)).toArray 3 (0, 0)) → X.heap[b1]? = some (.cells (([5, 6, 4, 7, 9, 8] : List Int).map (Value.int .i64)).toArray 3 (0, 0)) → X.heap[b2]? = some (.cells (([2, 2, 2, 0, 3, 0] : List Int).map (Value.int .i64)).toArray 3 (0, 0)) → Calls Try.prog 12 #[.agg #[.slice a0 4 c0, .slice a1 6 c1, .slice a2 6 c2], .agg #[.slice (some ⟨b0, 0, none⟩) 4 4, .slice (some ⟨b1, 0, none⟩) 6 6, .slice (some ⟨b2, 0, none⟩) 6 6]] X fun e z => e = .returned (.bool true) ∧ X.grownBy z none) := fun X b0 b1 b2 hX h0 h1 h2 =>
    rpSameRows_same a0 a1 a2 _ _ _ c0 c1 c2 4 6 6 [3, 0, 0, 3] [5, 6, 4, 7, 9, 8] [2, 2, 2, 0, 3, 0] X (HI.out X hX) ⟨ints_litP _ h0, ints_litP _ h1, ints_litP _ h2⟩ (by decide) (by decide) (by decide)
  have HB : Hid (∀ X, (y.alloc (.cells #[.slice a0 4 c0, .slice a1 6 c1, .slice a2 6 c2] 26)).grownBy X none → X.heap[y.heap.size]? = some (.cells #[.slice a0 4 c0, .slice a1 6 c1, .slice a2 6 c2] 26 (0, 0))) := fun X hX => box_kept (heap_alloc_last y _) hX
  clear HI
  go_wp2_with fail
  refine Calls.mono (HAT.out _ (World.grownBy_alloc _ _ none)) ?_
  rintro e z ⟨rfl, hz⟩
  have b := HB.out z hz
  have q0 : z.cell? ⟨y.heap.size, 0, none⟩ = some (.slice a0 4 c0) := by rw [cell_of_row _ _ _ _ _ _ b]; rfl
  have q1 : z.cell? ⟨y.heap.size, 1, none⟩ = some (.slice a1 6 c1) := by rw [cell_of_row _ _ _ _ _ _ b]; rfl
  have q2 : z.cell? ⟨y.heap.size, 2, none⟩ = some (.slice a2 6 c2) := by rw [cell_of_row _ _ _ _ _ _ b]; rfl
  have HZ : Hid (y.grownBy z none) := grown_trans (World.grownBy_alloc _ _ none) hz
  clear hz b HAT HB
  go_wp2_with fail
  refine Calls.mono (HSA.out _ _ _ _ (grown_trans (grown_trans (grown_trans HZ.out (World.grownBy_alloc _ _ none)) (World.grownBy_alloc _ _ none)) (World.grownBy_alloc _ _ none)) (heap_old (heap_old (heap_new rfl))) (heap_old (heap_new (by simp))) (heap_new (by simp))) ?_
  rintro e u ⟨rfl, hu⟩
  have HU : Hid (w.grownBy u none) := grown_trans (grown_trans HY.out (grown_trans (grown_trans (grown_trans HZ.out (World.grownBy_alloc _ _ none)) (World.grownBy_alloc _ _ none)) (World.grownBy_alloc _ _ none))) hu
  clear hu
  go_wp2_with fail
  go_ret
  exact ⟨rfl, HU.out⟩

end Go.Proofs.Ythohllgpkiibhaa.J
