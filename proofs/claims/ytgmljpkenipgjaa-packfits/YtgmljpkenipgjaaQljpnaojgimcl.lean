import Derived.Test.YtgmljpkenipgjaaQhiiiojkojjel
import Derived.Test.YtgmljpkenipgjaaQbhcjapkbmkpo
import Derived.Test.YtgmljpkenipgjaaQolknbdgdjnlb
import Derived.Test.YtgmljpkenipgjaaQjdheofldfmjg
import Derived.Test.YtgmljpkenipgjaaQfcohkanboffc

/-
  pack: the chapter's example, as the laws hold it.
-/
namespace Go.Proofs.Ytgmljpkenipgjaa.J
open Go.RowKit Go.Maps Go.Shelf Pk

attribute [local go_sem] Oper.semAt_some

/-- The example's rows. -/
def awR (i : Nat) : List It := if i = 0 then [(0, 7), (2, 8)] else if i = 2 then [(0, 5), (1, 6), (2, 4)] else if i = 3 then [(1, 9)] else []
theorem aw_lay : lay awR 4 = ⟨[3, 0, 0, 3], [2, 2, 2, 0, 3, 0], [5, 6, 4, 7, 9, 8]⟩ := by kernel_rfl
theorem aw_at : atF [3, 0, 0, 3] [5, 6, 4, 7, 9, 8] [2, 2, 2, 0, 3, 0] 0 2 = (8, true) := by decide
theorem aw_row (i : Nat) (h : i < 4) : IsRow (awR i) := by
  match i, h with
  | 0, _ => exact ⟨by decide, by decide, by decide⟩
  | 1, _ => exact ⟨by decide, by decide, by decide⟩
  | 2, _ => exact ⟨by decide, by decide, by decide⟩
  | 3, _ => exact ⟨by decide, by decide, by decide⟩
theorem aw_may : MayLay 4 awR := ⟨by decide, aw_row⟩
theorem heap_new {w : World} {o : Obj} {k : Nat} (h : k = w.heap.size) : (w.alloc o).heap[k]? = some o := by
  subst h
  exact heap_alloc_last w o
theorem heap_old {w : World} {o x : Obj} {k : Nat} (h : w.heap[k]? = some x) : (w.alloc o).heap[k]? = some x :=
  (heap_alloc_old w o (Array.getElem?_eq_some_iff.1 h).1).trans h
theorem ints_litP {X : World} {b : Nat} (l : List Int) (h : X.heap[b]? = some (.cells (l.map (Value.int .i64)).toArray 3 (0, 0))) : IntsAt X (some ⟨b, 0, none⟩) l := .inr ⟨b, 0, rfl, fun i hi => by
  rw [cell_of_row _ _ _ _ _ _ h]
  simp [hi, List.getD_eq_getElem?_getD]⟩
/-- The example's rows in memory. -/
def awW (w : World) : World := (((w.alloc (.cells #[.int .i64 0, .int .i64 7, .int .i64 2, .int .i64 8] 60)).alloc (.cells #[.int .i64 0, .int .i64 5, .int .i64 1, .int .i64 6, .int .i64 2, .int .i64 4] 60)).alloc (.cells #[.int .i64 1, .int .i64 9] 60)).alloc (.cells #[.slice (some ⟨w.heap.size, 0, none⟩) 2 2, .slice none 0 0, .slice (some ⟨w.heap.size + 1, 0, none⟩) 3 3, .slice (some ⟨w.heap.size + 1 + 1, 0, none⟩) 1 1] 58)
def awA (w : World) (i : Nat) : Option Addr := if i = 0 then some ⟨w.heap.size, 0, none⟩ else if i = 2 then some ⟨w.heap.size + 1, 0, none⟩ else if i = 3 then some ⟨w.heap.size + 1 + 1, 0, none⟩ else none
theorem awW_grown (w : World) : w.grownBy (awW w) none := grown_trans (grown_trans (grown_trans (World.grownBy_alloc _ _ none) (World.grownBy_alloc _ _ none)) (World.grownBy_alloc _ _ none)) (World.grownBy_alloc _ _ none)
theorem awW_rows (w : World) : RsAt (awW w) (some ⟨w.heap.size + 1 + 1 + 1, 0, none⟩) 4 awR (awA w) (fun i => (awR i).length) := by
  have hd : (awW w).heap[w.heap.size + 1 + 1 + 1]? = some (.cells #[.slice (some ⟨w.heap.size, 0, none⟩) 2 2, .slice none 0 0, .slice (some ⟨w.heap.size + 1, 0, none⟩) 3 3, .slice (some ⟨w.heap.size + 1 + 1, 0, none⟩) 1 1] 58 (0, 0)) := heap_new (by simp)
  have h0 : (awW w).heap[w.heap.size]? = some (.cells #[.int .i64 0, .int .i64 7, .int .i64 2, .int .i64 8] 60 (0, 0)) := heap_old (heap_old (heap_old (heap_new rfl)))
  have h2 : (awW w).heap[w.heap.size + 1]? = some (.cells #[.int .i64 0, .int .i64 5, .int .i64 1, .int .i64 6, .int .i64 2, .int .i64 4] 60 (0, 0)) := heap_old (heap_old (heap_new (by simp)))
  have h3 : (awW w).heap[w.heap.size + 1 + 1]? = some (.cells #[.int .i64 1, .int .i64 9] 60 (0, 0)) := heap_old (heap_new (by simp))
  refine ⟨.inr ⟨_, 0, rfl, fun i hi => ?_⟩, fun i hi => ?_⟩
  · rw [cell_of_row _ _ _ _ _ _ hd]
    match i, hi with
    | 0, _ => rfl
    | 1, _ => rfl
    | 2, _ => rfl
    | 3, _ => rfl
  · match i, hi with
    | 0, _ => exact .inr ⟨_, 0, rfl, fun j hj => by
        rw [cell_of_row _ _ _ _ _ _ h0, cell_of_row _ _ _ _ _ _ h0]
        match j, hj with
        | 0, _ => exact ⟨rfl, rfl⟩
        | 1, _ => exact ⟨rfl, rfl⟩⟩
    | 1, _ => exact .inl rfl
    | 2, _ => exact .inr ⟨_, 0, rfl, fun j hj => by
        rw [cell_of_row _ _ _ _ _ _ h2, cell_of_row _ _ _ _ _ _ h2]
        match j, hj with
        | 0, _ => exact ⟨rfl, rfl⟩
        | 1, _ => exact ⟨rfl, rfl⟩
        | 2, _ => exact ⟨rfl, rfl⟩⟩
    | 3, _ => exact .inr ⟨_, 0, rfl, fun j hj => by
        rw [cell_of_row _ _ _ _ _ _ h3, cell_of_row _ _ _ _ _ _ h3]
        match j, hj with
        | 0, _ => exact ⟨rfl, rfl⟩⟩

set_option maxRecDepth 100000 in
set_option maxHeartbeats 2000000 in
theorem aw_ok : AwOk := fun w => by
  have HL := hidP (layM_any (some ⟨w.heap.size + 1 + 1 + 1, 0, none⟩) 4 4 awR (awA w) (fun i => (awR i).length) (awW w) (awW_rows w) (by decide) (fun i hi => Nat.le_trans (aw_row i hi).1 (by decide)))
  have HGW := hidP (awW_grown w)
  obtain ⟨W, hW⟩ : ∃ W, W = awW w := ⟨_, rfl⟩
  rw [← hW] at HL HGW
  unfold awW at hW
  go_enter Try.func15, Try.ntmps15
  go_wp2_with fail
  rw [← hW]
  clear hW
  refine Calls.mono HL.out ?_
  rintro e y (⟨h1, -, -⟩ | ⟨-, ua, uc, rfl, hT, hy⟩)
  · exact absurd aw_may h1
  rw [aw_lay] at hT ⊢
  have HI : Hid (∀ X, y.grownBy X none → RwsAt X (ua 0) (ua 1) (ua 2) [3, 0, 0, 3] [5, 6, 4, 7, 9, 8] [2, 2, 2, 0, 3, 0]) := fun X hX => ⟨(hT.kept hX).ints (j := 0) (by decide), (hT.kept hX).ints (j := 1) (by decide), (hT.kept hX).ints (j := 2) (by decide)⟩
  have HY : Hid (w.grownBy y none) := grown_trans HGW.out hy
  clear hT hy HL HGW
  obtain ⟨a0, ha0⟩ : ∃ v, v = ua 0 := ⟨_, rfl⟩
  obtain ⟨a1, ha1⟩ : ∃ v, v = ua 1 := ⟨_, rfl⟩
  obtain ⟨a2, ha2⟩ : ∃ v, v = ua 2 := ⟨_, rfl⟩
  obtain ⟨c0, hc0⟩ : ∃ v, v = uc 0 := ⟨_, rfl⟩
  obtain ⟨c1, hc1⟩ : ∃ v, v = uc 1 := ⟨_, rfl⟩
  obtain ⟨c2, hc2⟩ : ∃ v, v = uc 2 := ⟨_, rfl⟩
  rw [← ha0, ← ha1, ← ha2] at HI
  rw [← ha0, ← ha1, ← ha2, ← hc0, ← hc1, ← hc2]
  clear ha0 ha1 ha2 hc0 hc1 hc2
  have HAT : Hid (∀ X, y.grownBy X none → Calls Try.prog 16 #[.agg #[.slice a0 4 c0, .slice a1 6 c1, .slice a2 6 c2], .int .i64 0, .int .i64 2] X fun e z => e = .returned (.tuple #[.int .i64 8, .bool true]) ∧ X.grownBy z none) := fun X hX => by
    have h := pkAt_any a0 a1 a2 c0 c1 c2 [3, 0, 0, 3] [5, 6, 4, 7, 9, 8] [2, 2, 2, 0, 3, 0] 0 2 X (HI.out X hX).1 (HI.out X hX).2.1 (HI.out X hX).2.2 (by decide) (by decide) (by decide)
    rw [aw_at] at h
    exact h
  have HSA : Hid (∀ X b0 b1 b2, y.grownBy X none → X.heap[b0]? = some (.cells (([3, 0, 0, 3] : List Int).map (Value.int .i64)).toArray 3 (0, 0)) → X.heap[b1]? = some (.cells (([5, 6, 4, 7, 9, 8] : List Int).map (Value.int .i64)).toArray 3 (0, 0)) → X.heap[b2]? = some (.cells (([2, 2, 2, 0, 3, 0] : List Int).map (Value.int .i64)).toArray 3 (0, 0)) → Calls Try.prog 12 #[.agg #[.slice a0 4 c0, .slice a1 6 c1, .slice a2 6 c2], .agg #[.slice (some ⟨b0, 0, none⟩) 4 4, .slice (some ⟨b1, 0, none⟩) 6 6, .slice (some ⟨b2, 0, none⟩) 6 6]] X fun e z => e = .returned (.bool true) ∧ X.grownBy z none) := fun X b0 b1 b2 hX h0 h1 h2 =>
    rpSameRows_same a0 a1 a2 _ _ _ c0 c1 c2 4 6 6 [3, 0, 0, 3] [5, 6, 4, 7, 9, 8] [2, 2, 2, 0, 3, 0] X (HI.out X hX) ⟨ints_litP _ h0, ints_litP _ h1, ints_litP _ h2⟩ (by decide) (by decide) (by decide)
  have HB : Hid (∀ X, (y.alloc (.cells #[.slice a0 4 c0, .slice a1 6 c1, .slice a2 6 c2] 26)).grownBy X none → X.heap[y.heap.size]? = some (.cells #[.slice a0 4 c0, .slice a1 6 c1, .slice a2 6 c2] 26 (0, 0))) := fun X hX => box_kept (heap_alloc_last y _) hX
  clear HI
  go_wp2_with fail
  refine Calls.mono (HAT.out _ (World.grownBy_alloc _ _ none)) ?_
  rintro e z ⟨rfl, hz⟩
  have b := HB.out z hz
  have q0 : z.cell? ⟨y.heap.size, 0, none⟩ = some (.slice a0 4 c0) := by rw [cell_of_row _ _ _ _ _ _ b]; rfl
  have q1 : z.cell? ⟨y.heap.size, 1, none⟩ = some (.slice a1 6 c1) := by rw [cell_of_row _ _ _ _ _ _ b]; rfl
  have q2 : z.cell? ⟨y.heap.size, 2, none⟩ = some (.slice a2 6 c2) := by rw [cell_of_row _ _ _ _ _ _ b]; rfl
  have HZ : Hid (y.grownBy z none) := grown_trans (World.grownBy_alloc _ _ none) hz
  clear hz b HAT HB
  go_wp2_with fail
  refine Calls.mono (HSA.out _ _ _ _ (grown_trans (grown_trans (grown_trans HZ.out (World.grownBy_alloc _ _ none)) (World.grownBy_alloc _ _ none)) (World.grownBy_alloc _ _ none)) (heap_old (heap_old (heap_new rfl))) (heap_old (heap_new (by simp))) (heap_new (by simp))) ?_
  rintro e u ⟨rfl, hu⟩
  have HU : Hid (w.grownBy u none) := grown_trans (grown_trans HY.out (grown_trans (grown_trans (grown_trans HZ.out (World.grownBy_alloc _ _ none)) (World.grownBy_alloc _ _ none)) (World.grownBy_alloc _ _ none))) hu
  clear hu
  go_wp2_with fail
  go_ret
  exact ⟨rfl, HU.out⟩

end Go.Proofs.Ytgmljpkenipgjaa.J

/-
  pack: the law on Lay.
-/
namespace Go.Proofs.Ytgmljpkenipgjaa.J
open Go.RowKit Go.Maps Go.Shelf Pk

attribute [local go_sem] Oper.semAt_some

open Classical in
/-- The rows that Lay tells: bases, values, owners. -/
noncomputable def QL (R : Nat → List It) (N : Nat) : Nat → List Int := if MayLay N R then lyS (lay R N) else fun _ => []
open Classical in
/-- What Lay tells besides. -/
noncomputable def eL (R : Nat → List It) (N : Nat) : Int := if MayLay N R then 0 else 1
theorem QL_len (R : Nat → List It) (N : Nat) : ∀ j, j < 3 → (QL R N j).length ≤ 1048576 := fun j hj => by
  unfold QL
  split
  · rename_i h
    obtain ⟨⟨h1, h2, h3⟩, _⟩ := stK_ok R N h (ordA R N).length (Nat.le_refl _)
    rw [stK_all] at h1 h2 h3
    rw [ordA_len R N h] at h3
    have hN := h.1
    have h4 : N * 256 ≤ 256 * 256 := Nat.mul_le_mul_right _ hN
    match j, hj with
    | 0, _ => show (lay R N).bs.length ≤ _; omega
    | 1, _ => show (lay R N).va.length ≤ _; omega
    | 2, _ => show (lay R N).ow.length ≤ _; omega
  · exact Nat.zero_le _
theorem TrZ.up {X Z : World} {B hi n : Nat} {Q : Nat → List Int} {ua : Nat → Option Addr} {uc : Nat → Nat} (h : TrZ Z B n Q ua uc) (hB : hi ≤ B) (hu : ∀ b, hi ≤ b → b < Z.heap.size → X.heap[b]? = Z.heap[b]?) : TrZ X B n Q ua uc := ⟨fun j hj => by
  obtain ⟨h1, h2⟩ := h.inn j hj
  refine ⟨h1, ?_⟩
  rcases h2 with h2 | ⟨g, cap, cur, a, b, hh, c⟩
  · exact .inl h2
  · exact .inr ⟨g, cap, cur, a, b, by rw [hu g (Nat.le_trans hB b) (Array.getElem?_eq_some_iff.1 hh).1]; exact hh, c⟩, h.sep⟩
theorem TrZ.rws {X : World} {B : Nat} {Q : Nat → List Int} {ua : Nat → Option Addr} {uc : Nat → Nat} (h : TrZ X B 3 Q ua uc) : RwsAt X (ua 0) (ua 1) (ua 2) (Q 0) (Q 1) (Q 2) := ⟨h.ints (by decide), h.ints (by decide), h.ints (by decide)⟩

end Go.Proofs.Ytgmljpkenipgjaa.J

/-
  pack: the law that laid rows fit.
-/
namespace Go.Proofs.Ytgmljpkenipgjaa.J
open Go.RowKit Go.Maps Go.Shelf Pk

attribute [local go_sem] Oper.semAt_some

theorem its_get {W : World} {a : Option Addr} {l : List It} {k : Nat} (h : ItsAt W a l) (hk : k < l.length) : ∃ b o, a = some ⟨b, o, none⟩ ∧ W.cell? ⟨b, o + k * 2, none⟩ = some (.int .i64 (l.getD k (0, 0)).1) ∧ W.cell? ⟨b, o + k * 2 + 1, none⟩ = some (.int .i64 (l.getD k (0, 0)).2) := by
  rcases h with h | ⟨b, o, e, h⟩
  · rw [h] at hk; cases hk
  · exact ⟨b, o, e, (h k hk).1, (h k hk).2⟩
theorem ints_get {W : World} {a : Option Addr} {l : List Int} {k : Nat} (h : IntsAt W a l) (hk : k < l.length) : ∃ b o, a = some ⟨b, o, none⟩ ∧ W.cell? ⟨b, o + k, none⟩ = some (.int .i64 (l.getD k 0)) := by
  rcases h with h | ⟨b, o, e, h⟩
  · rw [h] at hk; cases hk
  · exact ⟨b, o, e, h k hk⟩
theorem rs_get {W : World} {a : Option Addr} {N : Nat} {R : Nat → List It} {la : Nat → Option Addr} {lc : Nat → Nat} {k : Nat} (h : RsAt W a N R la lc) (hk : k < N) : ∃ b o, a = some ⟨b, o, none⟩ ∧ W.cell? ⟨b, o + k, none⟩ = some (.slice (la k) (R k).length (lc k)) := by
  rcases h.1 with h | ⟨b, o, e, h⟩
  · omega
  · exact ⟨b, o, e, h k hk⟩
theorem getD_mem_ed {l : List Ed} {k : Nat} (h : k < l.length) : l.getD k (0, 0) ∈ l := by
  rw [List.getD_eq_getElem?_getD, List.getElem?_eq_getElem h]
  exact List.getElem_mem _

/-- What the law asks of laid rows. -/
structure FitM (R : Nat → List It) (N : Nat) (bs va ow : List Int) : Prop where
  bl : bs.length = N
  vl : va.length = ow.length
  ol : ow.length ≤ 1048576
  last : 0 < ow.length → 0 ≤ ow.getD (ow.length - 1) 0
  bsr : ∀ x ∈ bs, -9223372036854775808 ≤ x ∧ x ≤ 9223372036854775807
  told : ∀ i, i < N → ∀ e ∈ R i, atF bs va ow i e.1 = (e.2, true)
  not : ∀ i, i < N → ∀ p : Int, (∀ e ∈ R i, e.1 ≠ p) → atF bs va ow i p = (0, false)
  neg : ∀ q, q < ow.length → ow.getD q 0 < 0 → va.getD q 0 = 0
  cnt : cntO (fun q => ow.getD q (-1)) ow.length = sumL R N
  bsn : ∀ i, i < N → ∃ b : Nat, bs.getD i 0 = b ∧ b ≤ ow.length
  own : ∀ q, q < ow.length → 0 ≤ ow.getD q 0 → ∃ o : Nat, o < N ∧ ow.getD q 0 = o
  way : ∀ i, i < N → ∀ c : Nat, (c : Int) < bs.getD i 0 → ∃ k, k < (R i).length ∧ c + ((R i).getD k (0, 0)).1.toNat < ow.length ∧ ∃ o : Nat, ow.getD (c + ((R i).getD k (0, 0)).1.toNat) 0 = o ∧ Bef R o i
theorem fitM {R : Nat → List It} {N : Nat} (h : MayLay N R) : FitM R N (lay R N).bs (lay R N).va (lay R N).ow := by
  obtain ⟨h1, h2, h3⟩ := fit_all R N h.2
  have hlen : (lay R N).ow.length ≤ 1048576 := by
    have := QL_len R N 2 (by decide)
    unfold QL at this
    rw [if_pos h] at this
    exact this
  refine ⟨h2, h1.len.symm, hlen, fun hp => ?_, fun x hx => ?_, fun i hi e he => h1.told h2 h.2 hi he, fun i hi p hp => h1.not h.2 hi hp, fun q hq hn => ?_, h3, fun i hi => ?_, fun q hq hn => ?_, fun i hi c hc => ?_⟩
  · have := h1.last hp
    rw [getD_in (-1) 0 (by omega)] at this
    exact this
  · obtain ⟨k, hk, hk2⟩ := List.getElem_of_mem hx
    have e1 : (lay R N).bs.getD k 0 = x := by rw [List.getD_eq_getElem?_getD, List.getElem?_eq_getElem hk, ← hk2]; rfl
    have a1 := h1.nn k
    have a2 := h1.top k
    rw [e1] at a1 a2
    omega
  · rw [getD_in 0 (-1) hq] at hn
    exact h1.neg q hn
  · have a1 := h1.nn i
    have a2 := h1.top i
    exact ⟨((lay R N).bs.getD i 0).toNat, by omega, by omega⟩
  · rw [getD_in 0 (-1) hq] at hn
    obtain ⟨o, ho, e, he, h5, _⟩ := h1.own q hn
    refine ⟨o, (ordA_mem R N o fun i hi => (h.2 i hi).1).1 ho, ?_⟩
    rw [getD_in 0 (-1) hq]
    exact h5
  · have hm := (ordA_mem R N i fun i hi => (h.2 i hi).1).2 hi
    obtain ⟨e, he, o, ho, hb, h5, h6⟩ := h1.way i hm c (by have := h1.nn i; unfold bsN; omega)
    obtain ⟨k, hk, hk2⟩ := List.getElem_of_mem he
    have e1 : (R i).getD k (0, 0) = e := by rw [List.getD_eq_getElem?_getD, List.getElem?_eq_getElem hk, ← hk2]; rfl
    refine ⟨k, hk, by rw [e1]; exact h6, o, ?_, hb⟩
    rw [e1, getD_in 0 (-1) h6]
    exact h5

end Go.Proofs.Ytgmljpkenipgjaa.J
