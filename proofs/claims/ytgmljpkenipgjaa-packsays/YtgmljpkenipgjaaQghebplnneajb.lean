import Derived.Test.YtgmljpkenipgjaaQlnmlkobjpdoa
import Derived.Test.YtgmljpkenipgjaaQdjnnggcmjpog
import Derived.Test.YtgmljpkenipgjaaQoolelimaifpo
import Derived.Test.YtgmljpkenipgjaaQgjimidgjjnjb
import Derived.Test.YtgmljpkenipgjaaQlmljjcjnkfdh
import Derived.Test.YtgmljpkenipgjaaQdcipjfgilapl
import Derived.Test.YtgmljpkenipgjaaQbiiblbbglenn

/-
  pack: the program's packedActions: the rows of a table's actions.
-/
namespace Go.Proofs.Ytgmljpkenipgjaa.J
open Go.RowKit Go.Maps Go.Shelf Pk

attribute [local go_sem] Oper.semAt_some

theorem neq_action (p d p' d' : Int) (w : World) : (binOp .neq 52 (.agg #[.int .i64 p, .int .i64 d]) (.agg #[.int .i64 p', .int .i64 d'])).run Try.prog w = .ok (.bool (!(p == p' && d == d'))) w := by
  have u3 := Try.underlying3
  have a3 := Try.isAgg3
  have z3 := Try.sizeOf3
  have hS : Try.prog.underlying 52 = some (.struct (Try.prog.fieldsOf 52)) := by kernel_rfl
  have hp : Try.prog.stoodInHeld 52 = false := by kernel_rfl
  rw [run_neq_struct, show (10000 : Nat) = 9999 + 1 from rfl, run_equalIn_agg w 9999 52 _ _ hS hp]
  simp only [Program.fieldsOf, Try.underlying52]
  go_simp
  by_cases h1 : p = p' <;> by_cases h2 : d = d' <;> simp [h1, h2]
/-- Is an action told by an edge? -/
def keepA (m : Int) (e : It) : Bool := e.1 != 0 && !(e.1 == 2 && e.2 == m)
/-- The edges of the first j actions. -/
def rowT (m : Int) (l : List It) : Nat → List It
  | 0 => []
  | j + 1 => rowT m l j ++ (if keepA m (l.getD j (0, 0)) = true then [((j : Int), codeF (l.getD j (0, 0)).1 (l.getD j (0, 0)).2)] else [])
/-- The edges of a list of actions. -/
def rowA (l : List It) : List It := rowT (mostF (redL l)) l l.length
/-- The productions by which lists reduce most. -/
def defL (R : Nat → List It) (k : Nat) : List Int := (List.range k).map fun i => mostF (redL (R i))
theorem defL_snoc (R : Nat → List It) (k : Nat) : defL R (k + 1) = defL R k ++ [mostF (redL (R k))] := by
  unfold defL
  rw [List.range_succ, List.map_append]; rfl
/-- Rows of one's own under way: K of them. -/
structure LrP (X : World) (B : Nat) (ka : Option Addr) (kc K : Nat) (R : Nat → List It) (ua : Nat → Option Addr) (uc : Nat → Nat) : Prop where
  out : X.ownsRow B 58 1 (.slice ka K kc) K (rowsE K R ua uc)
  inn : ∀ j, j < K → X.ownsRow B 60 2 (.slice (ua j) (R j).length (uc j)) (R j).length (itsV (R j))
theorem LrP.kept {X Y : World} {B : Nat} {ka : Option Addr} {kc K : Nat} {R : Nat → List It} {ua : Nat → Option Addr} {uc : Nat → Nat} (h : LrP X B ka kc K R ua uc) (hg : X.grownBy Y none) : LrP Y B ka kc K R ua uc := ⟨keep0 h.out hg, fun j hj => keep0 (h.inn j hj) hg⟩
theorem LrP.ints {X Y : World} {B n : Nat} {ka : Option Addr} {kc K : Nat} {R : Nat → List It} {ua : Nat → Option Addr} {uc : Nat → Nat} {v : Value} {xs : List Value} (h : LrP X B ka kc K R ua uc) (ho : X.ownsRow B 3 1 v n xs) (hg : X.grownBy Y v.ownBlock) : LrP Y B ka kc K R ua uc := ⟨row_row h.out ho (by decide) hg, fun j hj => row_row (h.inn j hj) ho (by decide) hg⟩
theorem LrP.push {X Y : World} {B : Nat} {ka ka' : Option Addr} {kc kc' K : Nat} {R : Nat → List It} {ua : Nat → Option Addr} {uc : Nat → Nat} {a : Option Addr} {c : Nat} (h : LrP X B ka kc K R ua uc) (hr : X.ownsRow B 60 2 (.slice a (R K).length c) (R K).length (itsV (R K))) (hg : X.grownBy Y (Value.slice ka K kc).ownBlock) (ho : Y.ownsRow B 58 1 (.slice ka' (K + 1) kc') (K + 1) (rowsE K R ua uc ++ [.slice a (R K).length c])) : LrP Y B ka' kc' (K + 1) R (upZ ua K a) (upZ uc K c) := by
  refine ⟨by rw [rowsE_snoc]; exact ho, fun j hj => ?_⟩
  by_cases e : j = K
  · subst e
    rw [upZ_same, upZ_same]
    exact row_row hr h.out (by decide) hg
  · rw [upZ_other _ _ e, upZ_other _ _ e]
    exact row_row (h.inn j (by omega)) h.out (by decide) hg
theorem LrP.rs {X : World} {B : Nat} {ka : Option Addr} {kc K : Nat} {R : Nat → List It} {ua : Nat → Option Addr} {uc : Nat → Nat} (h : LrP X B ka kc K R ua uc) : RsAt X ka K R ua uc := by
  refine ⟨?_, fun i hi => owned_its (h.inn i hi) rfl⟩
  by_cases e : K = 0
  · exact .inl e
  · obtain ⟨g, c, hg, hc⟩ := owns_at h.out (by omega)
    simp only [Value.slice.injEq] at hg
    exact .inr ⟨g, 0, hg.1, fun i hi => by rw [Nat.zero_add]; exact hc i _ (rowsE_at R ua uc hi)⟩

end Go.Proofs.Ytgmljpkenipgjaa.J

/-
  pack: the chapter's example, as the laws hold it.
-/
namespace Go.Proofs.Ytgmljpkenipgjaa.J
open Go.RowKit Go.Maps Go.Shelf Pk

attribute [local go_sem] Oper.semAt_some

/-- The example's rows. -/
def awR (i : Nat) : List It := if i = 0 then [(0, 7), (2, 8)] else if i = 2 then [(0, 5), (1, 6), (2, 4)] else if i = 3 then [(1, 9)] else []
theorem aw_lay : lay awR 4 = ⟨[3, 0, 0, 3], [2, 2, 2, 0, 3, 0], [5, 6, 4, 7, 9, 8]⟩ := by kernel_rfl
theorem aw_at : atF [3, 0, 0, 3] [5, 6, 4, 7, 9, 8] [2, 2, 2, 0, 3, 0] 0 2 = (8, true) := by decide
theorem aw_row (i : Nat) (h : i < 4) : IsRow (awR i) := by
  match i, h with
  | 0, _ => exact ⟨by decide, by decide, by decide⟩
  | 1, _ => exact ⟨by decide, by decide, by decide⟩
  | 2, _ => exact ⟨by decide, by decide, by decide⟩
  | 3, _ => exact ⟨by decide, by decide, by decide⟩
theorem aw_may : MayLay 4 awR := ⟨by decide, aw_row⟩
theorem heap_new {w : World} {o : Obj} {k : Nat} (h : k = w.heap.size) : (w.alloc o).heap[k]? = some o := by
  subst h
  exact heap_alloc_last w o
theorem heap_old {w : World} {o x : Obj} {k : Nat} (h : w.heap[k]? = some x) : (w.alloc o).heap[k]? = some x :=
  (heap_alloc_old w o (Array.getElem?_eq_some_iff.1 h).1).trans h
theorem ints_litP {X : World} {b : Nat} (l : List Int) (h : X.heap[b]? = some (.cells (l.map (Value.int .i64)).toArray 3 (0, 0))) : IntsAt X (some ⟨b, 0, none⟩) l := .inr ⟨b, 0, rfl, fun i hi => by
  rw [cell_of_row _ _ _ _ _ _ h]
  simp [hi, List.getD_eq_getElem?_getD]⟩
/-- The example's rows in memory. -/
def awW (w : World) : World := (((w.alloc (.cells #[.int .i64 0, .int .i64 7, .int .i64 2, .int .i64 8] 60)).alloc (.cells #[.int .i64 0, .int .i64 5, .int .i64 1, .int .i64 6, .int .i64 2, .int .i64 4] 60)).alloc (.cells #[.int .i64 1, .int .i64 9] 60)).alloc (.cells #[.slice (some ⟨w.heap.size, 0, none⟩) 2 2, .slice none 0 0, .slice (some ⟨w.heap.size + 1, 0, none⟩) 3 3, .slice (some ⟨w.heap.size + 1 + 1, 0, none⟩) 1 1] 58)
def awA (w : World) (i : Nat) : Option Addr := if i = 0 then some ⟨w.heap.size, 0, none⟩ else if i = 2 then some ⟨w.heap.size + 1, 0, none⟩ else if i = 3 then some ⟨w.heap.size + 1 + 1, 0, none⟩ else none
theorem awW_grown (w : World) : w.grownBy (awW w) none := grown_trans (grown_trans (grown_trans (World.grownBy_alloc _ _ none) (World.grownBy_alloc _ _ none)) (World.grownBy_alloc _ _ none)) (World.grownBy_alloc _ _ none)
theorem awW_rows (w : World) : RsAt (awW w) (some ⟨w.heap.size + 1 + 1 + 1, 0, none⟩) 4 awR (awA w) (fun i => (awR i).length) := by
  have hd : (awW w).heap[w.heap.size + 1 + 1 + 1]? = some (.cells #[.slice (some ⟨w.heap.size, 0, none⟩) 2 2, .slice none 0 0, .slice (some ⟨w.heap.size + 1, 0, none⟩) 3 3, .slice (some ⟨w.heap.size + 1 + 1, 0, none⟩) 1 1] 58 (0, 0)) := heap_new (by simp)
  have h0 : (awW w).heap[w.heap.size]? = some (.cells #[.int .i64 0, .int .i64 7, .int .i64 2, .int .i64 8] 60 (0, 0)) := heap_old (heap_old (heap_old (heap_new rfl)))
  have h2 : (awW w).heap[w.heap.size + 1]? = some (.cells #[.int .i64 0, .int .i64 5, .int .i64 1, .int .i64 6, .int .i64 2, .int .i64 4] 60 (0, 0)) := heap_old (heap_old (heap_new (by simp)))
  have h3 : (awW w).heap[w.heap.size + 1 + 1]? = some (.cells #[.int .i64 1, .int .i64 9] 60 (0, 0)) := heap_old (heap_new (by simp))
  refine ⟨.inr ⟨_, 0, rfl, fun i hi => ?_⟩, fun i hi => ?_⟩
  · rw [cell_of_row _ _ _ _ _ _ hd]
    match i, hi with
    | 0, _ => rfl
    | 1, _ => rfl
    | 2, _ => rfl
    | 3, _ => rfl
  · match i, hi with
    | 0, _ => exact .inr ⟨_, 0, rfl, fun j hj => by
        rw [cell_of_row _ _ _ _ _ _ h0, cell_of_row _ _ _ _ _ _ h0]
        match j, hj with
        | 0, _ => exact ⟨rfl, rfl⟩
        | 1, _ => exact ⟨rfl, rfl⟩⟩
    | 1, _ => exact .inl rfl
    | 2, _ => exact .inr ⟨_, 0, rfl, fun j hj => by
        rw [cell_of_row _ _ _ _ _ _ h2, cell_of_row _ _ _ _ _ _ h2]
        match j, hj with
        | 0, _ => exact ⟨rfl, rfl⟩
        | 1, _ => exact ⟨rfl, rfl⟩
        | 2, _ => exact ⟨rfl, rfl⟩⟩
    | 3, _ => exact .inr ⟨_, 0, rfl, fun j hj => by
        rw [cell_of_row _ _ _ _ _ _ h3, cell_of_row _ _ _ _ _ _ h3]
        match j, hj with
        | 0, _ => exact ⟨rfl, rfl⟩⟩

set_option maxRecDepth 100000 in
set_option maxHeartbeats 2000000 in
theorem aw_ok : AwOk := fun w => by
  have HL := hidP (layM_any (some ⟨w.heap.size + 1 + 1 + 1, 0, none⟩) 4 4 awR (awA w) (fun i => (awR i).length) (awW w) (awW_rows w) (by decide) (fun i hi => Nat.le_trans (aw_row i hi).1 (by decide)))
  have HGW := hidP (awW_grown w)
  obtain ⟨W, hW⟩ : ∃ W, W = awW w := ⟨_, rfl⟩
  rw [← hW] at HL HGW
  unfold awW at hW
  go_enter Try.func15, Try.ntmps15
  go_wp2_with fail
  rw [← hW]
  clear hW
  refine Calls.mono HL.out ?_
  rintro e y (⟨h1, -, -⟩ | ⟨-, ua, uc, rfl, hT, hy⟩)
  · exact absurd aw_may h1
  rw [aw_lay] at hT ⊢
  have HI : Hid (∀ X, y.grownBy X none → RwsAt X (ua 0) (ua 1) (ua 2) [3, 0, 0, 3] [5, 6, 4, 7, 9, 8] [2, 2, 2, 0, 3, 0]) := fun X hX => ⟨(hT.kept hX).ints (j := 0) (by decide), (hT.kept hX).ints (j := 1) (by decide), (hT.kept hX).ints (j := 2) (by decide)⟩
  have HY : Hid (w.grownBy y none) := grown_trans HGW.out hy
  clear hT hy HL HGW
  obtain ⟨a0, ha0⟩ : ∃ v, v = ua 0 := ⟨_, rfl⟩
  obtain ⟨a1, ha1⟩ : ∃ v, v = ua 1 := ⟨_, rfl⟩
  obtain ⟨a2, ha2⟩ : ∃ v, v = ua 2 := ⟨_, rfl⟩
  obtain ⟨c0, hc0⟩ : ∃ v, v = uc 0 := ⟨_, rfl⟩
  obtain ⟨c1, hc1⟩ : ∃ v, v = uc 1 := ⟨_, rfl⟩
  obtain ⟨c2, hc2⟩ : ∃ v, v = uc 2 := ⟨_, rfl⟩
  rw [← ha0, ← ha1, ← ha2] at HI
  rw [← ha0, ← ha1, ← ha2, ← hc0, ← hc1, ← hc2]
  clear ha0 ha1 ha2 hc0 hc1 hc2
  have HAT : Hid (∀ X, y.grownBy X none → Calls Try.prog 16 #[.agg #[.slice a0 4 c0, .slice a1 6 c1, .slice a2 6 c2], .int .i64 0, .int .i64 2] X fun e z => e = .returned (.tuple #[.int .i64 8, .bool true]) ∧ X.grownBy z none) := fun X hX => by
    have h := pkAt_any a0 a1 a2 c0 c1 c2 [3, 0, 0, 3] [5, 6, 4, 7, 9, 8] [2, 2, 2, 0, 3, 0] 0 2 X (HI.out X hX).1 (HI.out X hX).2.1 (HI.out X hX).2.2 (by decide) (by decide) (by decide)
    rw [aw_at] at h
    exact h
  have HSA : Hid (∀ X b0 b1 b2, y.grownBy X none → X.heap[b0]? = some (.cells (([3, 0, 0, 3] : List Int).map (Value.int .i64)).toArray 3 (0, 0)) → X.heap[b1]? = some (.cells (([5, 6, 4, 7, 9, 8] : List Int).map (Value.int .i64)).toArray 3 (0, 0)) → X.heap[b2]? = some (.cells (([2, 2, 2, 0, 3, 0] : List Int).map (Value.int .i64)).toArray 3 (0, 0)) → Calls Try.prog 12 #[.agg #[.slice a0 4 c0, .slice a1 6 c1, .slice a2 6 c2], .agg #[.slice (some ⟨b0, 0, none⟩) 4 4, .slice (some ⟨b1, 0, none⟩) 6 6, .slice (some ⟨b2, 0, none⟩) 6 6]] X fun e z => e = .returned (.bool true) ∧ X.grownBy z none) := fun X b0 b1 b2 hX h0 h1 h2 =>
    rpSameRows_same a0 a1 a2 _ _ _ c0 c1 c2 4 6 6 [3, 0, 0, 3] [5, 6, 4, 7, 9, 8] [2, 2, 2, 0, 3, 0] X (HI.out X hX) ⟨ints_litP _ h0, ints_litP _ h1, ints_litP _ h2⟩ (by decide) (by decide) (by decide)
  have HB : Hid (∀ X, (y.alloc (.cells #[.slice a0 4 c0, .slice a1 6 c1, .slice a2 6 c2] 26)).grownBy X none → X.heap[y.heap.size]? = some (.cells #[.slice a0 4 c0, .slice a1 6 c1, .slice a2 6 c2] 26 (0, 0))) := fun X hX => box_kept (heap_alloc_last y _) hX
  clear HI
  go_wp2_with fail
  refine Calls.mono (HAT.out _ (World.grownBy_alloc _ _ none)) ?_
  rintro e z ⟨rfl, hz⟩
  have b := HB.out z hz
  have q0 : z.cell? ⟨y.heap.size, 0, none⟩ = some (.slice a0 4 c0) := by rw [cell_of_row _ _ _ _ _ _ b]; rfl
  have q1 : z.cell? ⟨y.heap.size, 1, none⟩ = some (.slice a1 6 c1) := by rw [cell_of_row _ _ _ _ _ _ b]; rfl
  have q2 : z.cell? ⟨y.heap.size, 2, none⟩ = some (.slice a2 6 c2) := by rw [cell_of_row _ _ _ _ _ _ b]; rfl
  have HZ : Hid (y.grownBy z none) := grown_trans (World.grownBy_alloc _ _ none) hz
  clear hz b HAT HB
  go_wp2_with fail
  refine Calls.mono (HSA.out _ _ _ _ (grown_trans (grown_trans (grown_trans HZ.out (World.grownBy_alloc _ _ none)) (World.grownBy_alloc _ _ none)) (World.grownBy_alloc _ _ none)) (heap_old (heap_old (heap_new rfl))) (heap_old (heap_new (by simp))) (heap_new (by simp))) ?_
  rintro e u ⟨rfl, hu⟩
  have HU : Hid (w.grownBy u none) := grown_trans (grown_trans HY.out (grown_trans (grown_trans (grown_trans HZ.out (World.grownBy_alloc _ _ none)) (World.grownBy_alloc _ _ none)) (World.grownBy_alloc _ _ none))) hu
  clear hu
  go_wp2_with fail
  go_ret
  exact ⟨rfl, HU.out⟩

end Go.Proofs.Ytgmljpkenipgjaa.J

/-
  pack: the law on Lay.
-/
namespace Go.Proofs.Ytgmljpkenipgjaa.J
open Go.RowKit Go.Maps Go.Shelf Pk

attribute [local go_sem] Oper.semAt_some

open Classical in
/-- The rows that Lay tells: bases, values, owners. -/
noncomputable def QL (R : Nat → List It) (N : Nat) : Nat → List Int := if MayLay N R then lyS (lay R N) else fun _ => []
open Classical in
/-- What Lay tells besides. -/
noncomputable def eL (R : Nat → List It) (N : Nat) : Int := if MayLay N R then 0 else 1
theorem QL_len (R : Nat → List It) (N : Nat) : ∀ j, j < 3 → (QL R N j).length ≤ 1048576 := fun j hj => by
  unfold QL
  split
  · rename_i h
    obtain ⟨⟨h1, h2, h3⟩, _⟩ := stK_ok R N h (ordA R N).length (Nat.le_refl _)
    rw [stK_all] at h1 h2 h3
    rw [ordA_len R N h] at h3
    have hN := h.1
    have h4 : N * 256 ≤ 256 * 256 := Nat.mul_le_mul_right _ hN
    match j, hj with
    | 0, _ => show (lay R N).bs.length ≤ _; omega
    | 1, _ => show (lay R N).va.length ≤ _; omega
    | 2, _ => show (lay R N).ow.length ≤ _; omega
  · exact Nat.zero_le _
theorem TrZ.up {X Z : World} {B hi n : Nat} {Q : Nat → List Int} {ua : Nat → Option Addr} {uc : Nat → Nat} (h : TrZ Z B n Q ua uc) (hB : hi ≤ B) (hu : ∀ b, hi ≤ b → b < Z.heap.size → X.heap[b]? = Z.heap[b]?) : TrZ X B n Q ua uc := ⟨fun j hj => by
  obtain ⟨h1, h2⟩ := h.inn j hj
  refine ⟨h1, ?_⟩
  rcases h2 with h2 | ⟨g, cap, cur, a, b, hh, c⟩
  · exact .inl h2
  · exact .inr ⟨g, cap, cur, a, b, by rw [hu g (Nat.le_trans hB b) (Array.getElem?_eq_some_iff.1 hh).1]; exact hh, c⟩, h.sep⟩
end Go.Proofs.Ytgmljpkenipgjaa.J

/-
  pack: the law that laid rows fit.
-/
namespace Go.Proofs.Ytgmljpkenipgjaa.J
open Go.RowKit Go.Maps Go.Shelf Pk

attribute [local go_sem] Oper.semAt_some

theorem its_get {W : World} {a : Option Addr} {l : List It} {k : Nat} (h : ItsAt W a l) (hk : k < l.length) : ∃ b o, a = some ⟨b, o, none⟩ ∧ W.cell? ⟨b, o + k * 2, none⟩ = some (.int .i64 (l.getD k (0, 0)).1) ∧ W.cell? ⟨b, o + k * 2 + 1, none⟩ = some (.int .i64 (l.getD k (0, 0)).2) := by
  rcases h with h | ⟨b, o, e, h⟩
  · rw [h] at hk; cases hk
  · exact ⟨b, o, e, (h k hk).1, (h k hk).2⟩
theorem ints_get {W : World} {a : Option Addr} {l : List Int} {k : Nat} (h : IntsAt W a l) (hk : k < l.length) : ∃ b o, a = some ⟨b, o, none⟩ ∧ W.cell? ⟨b, o + k, none⟩ = some (.int .i64 (l.getD k 0)) := by
  rcases h with h | ⟨b, o, e, h⟩
  · rw [h] at hk; cases hk
  · exact ⟨b, o, e, h k hk⟩
theorem getD_mem_ed {l : List Ed} {k : Nat} (h : k < l.length) : l.getD k (0, 0) ∈ l := by
  rw [List.getD_eq_getElem?_getD, List.getElem?_eq_getElem h]
  exact List.getElem_mem _

/-- What the law asks of laid rows. -/
structure FitM (R : Nat → List It) (N : Nat) (bs va ow : List Int) : Prop where
  bl : bs.length = N
  vl : va.length = ow.length
  ol : ow.length ≤ 1048576
  last : 0 < ow.length → 0 ≤ ow.getD (ow.length - 1) 0
  bsr : ∀ x ∈ bs, -9223372036854775808 ≤ x ∧ x ≤ 9223372036854775807
  told : ∀ i, i < N → ∀ e ∈ R i, atF bs va ow i e.1 = (e.2, true)
  not : ∀ i, i < N → ∀ p : Int, (∀ e ∈ R i, e.1 ≠ p) → atF bs va ow i p = (0, false)
  neg : ∀ q, q < ow.length → ow.getD q 0 < 0 → va.getD q 0 = 0
  cnt : cntO (fun q => ow.getD q (-1)) ow.length = sumL R N
  bsn : ∀ i, i < N → ∃ b : Nat, bs.getD i 0 = b ∧ b ≤ ow.length
  own : ∀ q, q < ow.length → 0 ≤ ow.getD q 0 → ∃ o : Nat, o < N ∧ ow.getD q 0 = o
  way : ∀ i, i < N → ∀ c : Nat, (c : Int) < bs.getD i 0 → ∃ k, k < (R i).length ∧ c + ((R i).getD k (0, 0)).1.toNat < ow.length ∧ ∃ o : Nat, ow.getD (c + ((R i).getD k (0, 0)).1.toNat) 0 = o ∧ Bef R o i
theorem fitM {R : Nat → List It} {N : Nat} (h : MayLay N R) : FitM R N (lay R N).bs (lay R N).va (lay R N).ow := by
  obtain ⟨h1, h2, h3⟩ := fit_all R N h.2
  have hlen : (lay R N).ow.length ≤ 1048576 := by
    have := QL_len R N 2 (by decide)
    unfold QL at this
    rw [if_pos h] at this
    exact this
  refine ⟨h2, h1.len.symm, hlen, fun hp => ?_, fun x hx => ?_, fun i hi e he => h1.told h2 h.2 hi he, fun i hi p hp => h1.not h.2 hi hp, fun q hq hn => ?_, h3, fun i hi => ?_, fun q hq hn => ?_, fun i hi c hc => ?_⟩
  · have := h1.last hp
    rw [getD_in (-1) 0 (by omega)] at this
    exact this
  · obtain ⟨k, hk, hk2⟩ := List.getElem_of_mem hx
    have e1 : (lay R N).bs.getD k 0 = x := by rw [List.getD_eq_getElem?_getD, List.getElem?_eq_getElem hk, ← hk2]; rfl
    have a1 := h1.nn k
    have a2 := h1.top k
    rw [e1] at a1 a2
    omega
  · rw [getD_in 0 (-1) hq] at hn
    exact h1.neg q hn
  · have a1 := h1.nn i
    have a2 := h1.top i
    exact ⟨((lay R N).bs.getD i 0).toNat, by omega, by omega⟩
  · rw [getD_in 0 (-1) hq] at hn
    obtain ⟨o, ho, e, he, h5, _⟩ := h1.own q hn
    refine ⟨o, (ordA_mem R N o fun i hi => (h.2 i hi).1).1 ho, ?_⟩
    rw [getD_in 0 (-1) hq]
    exact h5
  · have hm := (ordA_mem R N i fun i hi => (h.2 i hi).1).2 hi
    obtain ⟨e, he, o, ho, hb, h5, h6⟩ := h1.way i hm c (by have := h1.nn i; unfold bsN; omega)
    obtain ⟨k, hk, hk2⟩ := List.getElem_of_mem he
    have e1 : (R i).getD k (0, 0) = e := by rw [List.getD_eq_getElem?_getD, List.getElem?_eq_getElem hk, ← hk2]; rfl
    refine ⟨k, hk, by rw [e1]; exact h6, o, ?_, hb⟩
    rw [e1, getD_in 0 (-1) h6]
    exact h5

end Go.Proofs.Ytgmljpkenipgjaa.J

/-
  pack: the program's packedActions, walked.
-/
namespace Go.Proofs.Ytgmljpkenipgjaa.J
open Go.RowKit Go.Maps Go.Shelf Pk

attribute [local go_sem] Oper.semAt_some

theorem redF_in {kd tv n : Int} (h : StandOk kd tv n) (hn : n ≤ 256) : (redF kd tv = -1 ∨ (0 ≤ redF kd tv ∧ redF kd tv ≤ 256)) ∧ (-1000000 ≤ tv ∧ tv ≤ 1000000) ∧ (kd = 3 → tv = 0) := by
  unfold StandOk at h
  unfold redF
  by_cases h2 : kd = 2
  · rw [if_pos h2]; omega
  · rw [if_neg h2]; omega

theorem results_pactions (tmps : Array Value) (w : World) (g : Nat) (cs : Array Value) (v : Value) (h2 : tmps.getD 2 undef = v) (h3 : tmps.getD 3 undef = .pointer (some ⟨g, 0, none⟩)) (hg : w.heap[g]? = some (.cells cs 26 (0, 0))) (hs : cs.size = 3) :
    (results Try.f35 tmps).run Try.prog w = .ok (.tuple #[v, .agg cs]) w := by
  have h2' : tmps[2]?.getD undef = v := by simpa using h2
  have h3' : tmps[3]?.getD undef = .pointer (some ⟨g, 0, none⟩) := by simpa using h3
  have hl := run_loadVar_row (P := Try.prog) w g 26 26 cs (0, 0) _ hg Try.underlying26 rfl (by rw [hs]; kernel_rfl)
  simp [results, Try.results35, h2', h3', asAddr, hl]
/-- A block of another kind turns beside a row. -/
theorem row_beside {X Y : World} {B e s n b : Nat} {v : Value} {xs : List Value} {cs : Array Value} {t : TypeId} (h : X.ownsRow B e s v n xs) (hb : X.heap[b]? = some (.cells cs t (0, 0))) (ht : t ≠ e) (hg : X.grownBy Y (some b)) : Y.ownsRow B e s v n xs := h.kept hg (by
  rcases h.2 with ⟨hv, _⟩ | ⟨g, cap, cur, hv, _, hh, _⟩
  · rw [hv]; exact .inl rfl
  · rw [hv]
    right
    intro e2
    have e3 : g = b := by simpa [Value.ownBlock] using e2
    subst e3
    rw [hb] at hh
    simp only [Option.some.injEq, Obj.cells.injEq] at hh
    exact ht hh.2.1)
theorem owns_under {w : World} {B e s n : Nat} {v : Value} {xs : List Value} (h : w.ownsRow B e s v n xs) : ∀ b, v.ownBlock = some b → b < w.heap.size := by
  obtain ⟨_, h2⟩ := h
  intro b hb
  rcases h2 with h | ⟨g, cap, cur, rfl, hg, hc, _⟩
  · obtain ⟨rfl, _⟩ := h
    simp [Value.ownBlock] at hb
  · simp [Value.ownBlock] at hb
    subst hb
    exact (Array.getElem?_eq_some_iff.1 hc).1
/-- What packing rows tells: what is meant where nothing is told, in a block below 'mid'; and the rows laid, above it. -/
def PackTold (N : Nat) (D : List Int) (R : Nat → List It) (w : World) (e : Ending) (y : World) : Prop := ∃ (mid : Nat) (da : Option Addr) (dc : Nat) (ua : Nat → Option Addr) (uc : Nat → Nat), e = .returned (.tuple #[.slice da D.length dc, .agg #[.slice (ua 0) (lay R N).bs.length (uc 0), .slice (ua 1) (lay R N).va.length (uc 1), .slice (ua 2) (lay R N).ow.length (uc 2)]]) ∧ y.ownsRow w.heap.size 3 1 (.slice da D.length dc) D.length (zV D) ∧ (∀ b, (Value.slice da D.length dc).ownBlock = some b → b < mid) ∧ TrZ y mid 3 (lyS (lay R N)) ua uc ∧ w.heap.size ≤ mid ∧ w.grownBy y none

set_option maxRecDepth 100000 in
set_option maxHeartbeats 8000000 in
theorem packedRows_any (a : Option Addr) (N c ns : Nat) (R : Nat → List It) (la : Nat → Option Addr) (lc : Nat → Nat) (w : World) (hR : RsAt w a N R la lc) (hN : N ≤ 256) (hl : ∀ i, i < N → (R i).length ≤ 65) (hst : ∀ i, i < N → ∀ x ∈ R i, StandOk x.1 x.2 ns) (hns : ns ≤ 256)
    (hT : MayLay N (fun i => rowA (R i))) :
    Calls Try.prog 35 #[.slice a N c] w fun e y => PackTold N (defL R N) (fun i => rowA (R i)) w e y := by
  have HR : Hid (∀ X, w.grownBy X none → RsAt X a N R la lc) := fun X hX => hR.kept hX
  have HL := hidM hl
  have HST := hidM hst
  have HTT := hidM hT
  obtain ⟨i0, hi0, hz0, hz1, hz2⟩ := info_parts infoEdgeP
  obtain ⟨i1, hi1, hy0, hy1, hy2⟩ := info_parts infoRowE
  obtain ⟨i2, hi2, hx0, hx1, hx2⟩ := info_parts infoIntP
  have hgu := guard_action
  have HX0 : Hid ((w.alloc (.cells #[.slice none 0 0, .slice none 0 0, .slice none 0 0] 26)).heap[w.heap.size]? = some (.cells #[.slice none 0 0, .slice none 0 0, .slice none 0 0] 26 (0, 0))) := heap_alloc_last w _
  have HG0 : Hid (w.grownBy (w.alloc (.cells #[.slice none 0 0, .slice none 0 0, .slice none 0 0] 26)) none) := World.grownBy_alloc _ _ none
  clear hR hl hst hT
  go_enter Try.func35, Try.ntmps35
  go_wp2_with fail
  go_loopg [2, 4, 13] N (fun gk v2 v4 v13 wr => ∃ (k : Nat) (da : Option Addr) (dc : Nat) (ka : Option Addr) (kc : Nat) (ua : Nat → Option Addr) (uc : Nat → Nat), k ≤ N ∧ gk = N - k ∧ v2 = .slice da k dc ∧ v4 = .slice ka k kc ∧ v13 = .int .i64 k ∧ wr.ownsRow w.heap.size 3 1 (.slice da k dc) k (zV (defL R k)) ∧ LrP wr w.heap.size ka kc k (fun i => rowA (R i)) ua uc ∧ wr.heap[w.heap.size]? = some (.cells #[.slice none 0 0, .slice none 0 0, .slice none 0 0] 26 (0, 0)) ∧ w.grownBy wr none)
  case atStart => exact ⟨0, none, 0, none, 0, fun _ => none, fun _ => 0, Nat.zero_le _, rfl, rfl, rfl, rfl, World.ownsRow_nil _ _ _ _, ⟨World.ownsRow_nil _ _ _ _, fun j h => absurd h (Nat.not_lt_zero _)⟩, HX0.out, HG0.out⟩
  case round =>
    clear HX0 HG0
    obtain ⟨k, da, dc, ka, kc, ua, uc, hk, hgk, rfl, rfl, rfl, hd, hp, hx, hg⟩ := hrel
    have HGK : Hid (gk = N - k) := hgk
    have HD := hidM hd
    have HP := hidM hp
    have HX := hidM hx
    have HG := hidM hg
    clear hgk hd hx
    by_cases hlt : k < N
    · clear hp
      have hkd : decide (k < N) = true := decide_eq_true hlt
      have hk0 : (0 : Int) ≤ (k : Int) := by omega
      have hk1 : (k : Int) < (N : Int) := by omega
      obtain ⟨lb, lo, rfl, c0⟩ : ∃ lb lo, a = some ⟨lb, lo, none⟩ ∧ wr.cell? ⟨lb, lo + k, none⟩ = some (.slice (la k) (R k).length (lc k)) := by
        rcases (HR.out wr hg).1 with h | ⟨lb, lo, e, h⟩
        · omega
        · exact ⟨lb, lo, e, h k hlt⟩
      have hin : InM (redL (R k)) := fun x hx => by
        unfold redL at hx
        rw [List.mem_map] at hx
        obtain ⟨e, he, rfl⟩ := hx
        exact (redF_in (HST.out k hlt e he) (by omega)).1
      have HMO := hidM (mostA_any (la k) (lc k) (R k) wr ((HR.out wr hg).2 k hlt) (by have := HL.out k hlt; omega) hin)
      obtain ⟨m, hm⟩ : ∃ v, v = mostF (redL (R k)) := ⟨_, rfl⟩
      obtain ⟨a1, ha1⟩ : ∃ v, v = la k := ⟨_, rfl⟩
      obtain ⟨n1, hn1⟩ : ∃ v, v = (R k).length := ⟨_, rfl⟩
      obtain ⟨c1, hc1⟩ : ∃ v, v = lc k := ⟨_, rfl⟩
      have HM : Hid (m = mostF (redL (R k))) := hm
      have HN1 : Hid (n1 = (R k).length) := hn1
      have hnb : n1 ≤ 65 := by rw [hn1]; exact HL.out k hlt
      have HIT : Hid (∀ X, w.grownBy X none → ItsAt X a1 (R k)) := by rw [ha1]; exact fun X hX => (HR.out X hX).2 k hlt
      rw [← hm, ← ha1, ← hn1, ← hc1] at HMO
      rw [← ha1, ← hn1, ← hc1] at c0
      clear hin hm ha1 hn1 hc1 hg
      go_wp2_with fail
      refine Calls.mono HMO.out ?_
      rintro e y ⟨rfl, hy⟩
      have HD1 := hidM (keep0 HD.out hy)
      have HP1 := hidM (HP.out.kept hy)
      have HX1 := hidM (box_kept HX.out hy)
      have HGY : Hid (w.grownBy y none) := grown_trans HG.out hy
      clear HD HP HX HG HMO hy c0
      go_wp2_with fail
      go_loopg [8, 21] n1 (fun gk v8 v21 wr => ∃ (j : Nat) (ra : Option Addr) (rc : Nat) (row : List It), j ≤ n1 ∧ gk = n1 - j ∧ row.length ≤ j ∧ v8 = .slice ra row.length rc ∧ v21 = .int .i64 j ∧ Hid (row = rowT m (R k) j) ∧ wr.ownsRow y.heap.size 60 2 (.slice ra row.length rc) row.length (itsV row) ∧ y.grownBy wr none)
      case atStart => exact ⟨0, none, 0, [], Nat.zero_le _, rfl, Nat.le_refl _, rfl, rfl, rfl, World.ownsRow_nil _ _ _ _, grown_refl _ _⟩
      case round =>
        obtain ⟨j, ra, rc, row, hj, hgj, hrl, rfl, rfl, HRW, ho, hg⟩ := hrel
        have HGJ : Hid (gk = n1 - j) := hgj
        have HO := hidM ho
        have HG := hidM hg
        clear hgj ho
        by_cases hjn : j < n1
        · have hjd : decide (j < n1) = true := decide_eq_true hjn
          have hj0 : (0 : Int) ≤ (j : Int) := by omega
          have hj1 : (j : Int) < (n1 : Int) := by omega
          have hjl : j < (R k).length := by rw [← HN1.out]; exact hjn
          obtain ⟨eb, eo, rfl, t0, t1⟩ := its_get (HIT.out wr (grown_trans HGY.out hg)) hjl
          have hstj := redF_in (HST.out k hlt _ (getD_mem_ed hjl)) (by omega)
          have hrt : rowT m (R k) (j + 1) = rowT m (R k) j ++ (if keepA m ((R k).getD j (0, 0)) = true then [((j : Int), codeF ((R k).getD j (0, 0)).1 ((R k).getD j (0, 0)).2)] else []) := rfl
          obtain ⟨e, he⟩ : ∃ e, e = (R k).getD j (0, 0) := ⟨_, rfl⟩
          rw [← he] at t0 t1 hstj hrt
          obtain ⟨kd, tv⟩ := e
          simp only [] at t0 t1 hstj hrt
          have HCO := hidM (fun W => codeOf_any kd tv W hstj.2.1 hstj.2.2)
          obtain ⟨cd, hcd⟩ : ∃ v, v = codeF kd tv := ⟨_, rfl⟩
          simp only [← hcd] at HCO hrt
          have HRT := hidM hrt
          obtain ⟨rl, hrl2⟩ : ∃ v, v = row.length := ⟨_, rfl⟩
          obtain ⟨xs, hxs⟩ : ∃ v, v = itsV row := ⟨_, rfl⟩
          have HXS : Hid (xs = itsV row) := hxs
          have HRLN : Hid (rl = row.length) := hrl2
          have HOA : Hid (∀ X, wr.grownBy X none → X.ownsRow y.heap.size 60 2 (.slice ra rl rc) rl xs ∧ y.heap.size ≤ X.heap.size) := fun X hX => by
            rw [hrl2, hxs]
            exact ⟨keep0 HO.out hX, (grown_trans hg hX).size⟩
          rw [← hrl2] at hrl ⊢
          have HGW : Hid (∀ o, y.grownBy (wr.alloc o) none) := fun o => grown_trans hg (World.grownBy_alloc _ _ none)
          clear he hcd hrt hstj hrl2 hxs hg
          by_cases hkp : keepA m (kd, tv) = true
          · have HKP : Hid (keepA m (kd, tv) = true) := hkp
            unfold keepA at hkp
            simp only [Bool.and_eq_true, Bool.not_eq_true'] at hkp
            have e1 : (kd != 0) = true := hkp.1
            have hE : ∀ X : World, (binOp .neq 52 (.agg #[.int .i64 kd, .int .i64 tv]) (.agg #[.int .i64 2, .int .i64 m])).run Try.prog X = .ok (.bool true) X := fun X => by rw [neq_action, hkp.2]; rfl
            clear hkp
            go_wp2_with fail
            refine Calls.mono (HCO.out _) ?_
            rintro e y2 ⟨rfl, hy2⟩
            have HY2 : Hid (wr.grownBy y2 none) := grown_trans (World.grownBy_alloc _ _ none) hy2
            clear hy2 HCO t0 t1
            go_wp2_with (at_builtin; refine wpList_append_liesW rfl (.tmp 35) (.tmp 40) 58 rfl y.heap.size 60 i0 (.agg #[.int .i64 0, .int .i64 0]) 2 16 Try.underlying58 hi0 hz0 hz1 hz2 rfl (by decide) (.slice ra rl rc) rl xs rfl (HOA.out _ (grown_trans HY2.out (World.grownBy_alloc y2 _ none))).1 ⟨y2.heap.size, 0, none⟩ 1 1 [.int .i64 (j : Int), .int .i64 cd] rfl rfl (World.news_of_block (heap_alloc_last y2 _)) (by simp [Value.oneCell']) (by decide) (by unfold maxLen; omega) (by omega) (HOA.out _ (grown_trans HY2.out (World.grownBy_alloc y2 _ none))).2 ?_)
            intro g7 c7 wB hoB hgB hatB
            have HOB := hidM hoB
            have HGB : Hid (y.grownBy wB none) := grown_row (grown_trans HG.out (grown_trans HY2.out (World.grownBy_alloc y2 _ none))) (HOA.out _ (grown_trans HY2.out (World.grownBy_alloc y2 _ none))).1 (Nat.le_refl _) hgB
            clear hoB hgB hatB
            go_wp2_with fail
            go_roundg (n1 - (j + 1))
            case measure => have := HGJ.out; omega
            case rel =>
              have h1 : row ++ [((j : Int), cd)] = rowT m (R k) (j + 1) := by rw [HRT.out, if_pos HKP.out, HRW.out]
              have h2 := HOB.out
              rw [HXS.out, HRLN.out] at h2
              refine ⟨j + 1, some ⟨g7, 0, none⟩, c7, row ++ [((j : Int), cd)], by omega, rfl, by rw [List.length_append, ← HRLN.out]; simp; omega, by rw [List.length_append, HRLN.out]; rfl, by go_num, h1, ?_, HGB.out⟩
              rw [List.length_append, itsV_append]
              exact h2
          · have HKP : Hid (¬ keepA m (kd, tv) = true) := hkp
            have HEND : Hid (row = rowT m (R k) (j + 1)) := by
              show row = _
              rw [HRT.out, if_neg hkp, List.append_nil]
              exact HRW.out
            have HOE : Hid ((wr.alloc (.cells #[.int .i64 kd, .int .i64 tv] 52)).ownsRow y.heap.size 60 2 (.slice ra row.length rc) row.length (itsV row)) := keep0 HO.out (World.grownBy_alloc _ _ none)
            unfold keepA at hkp
            simp only [Bool.and_eq_true, Bool.not_eq_true'] at hkp
            by_cases hk3 : kd = 0
            · subst hk3
              have e1 : ((0 : Int) != 0) = false := rfl
              clear hkp HCO
              go_wp2_with fail
              go_roundg (n1 - (j + 1))
              case measure => have := HGJ.out; omega
              case rel => exact ⟨j + 1, ra, rc, row, by omega, rfl, by rw [← HRLN.out]; omega, by rw [HRLN.out], by go_num, HEND.out, HOE.out, HGW.out _⟩
            · have e1 : (kd != 0) = true := by rw [bne_iff_ne]; exact hk3
              have hE : ∀ X : World, (binOp .neq 52 (.agg #[.int .i64 kd, .int .i64 tv]) (.agg #[.int .i64 2, .int .i64 m])).run Try.prog X = .ok (.bool false) X := fun X => by
                have h3 : (kd == 2 && tv == m) = true := by
                  cases hc : (kd == 2 && tv == m) with
                  | true => rfl
                  | false => exact absurd ⟨e1, hc⟩ hkp
                rw [neq_action, h3]; rfl
              clear hkp HCO hk3
              go_wp2_with fail
              go_roundg (n1 - (j + 1))
              case measure => have := HGJ.out; omega
              case rel => exact ⟨j + 1, ra, rc, row, by omega, rfl, by rw [← HRLN.out]; omega, by rw [HRLN.out], by go_num, HEND.out, HOE.out, HGW.out _⟩
        · have hjd : decide (j < n1) = false := decide_eq_false hjn
          have hje : j = n1 := by omega
          have HROW : Hid (row = rowA (R k)) := by
            have h := HRW.out
            rw [hje, HM.out, HN1.out] at h
            exact h
          have HOD : Hid (∀ o, (wr.alloc o).ownsRow w.heap.size 3 1 (.slice da k dc) k (zV (defL R k))) := fun o => keep0 HD1.out (grown_trans HG.out (World.grownBy_alloc wr o none))
          have HGD : Hid (∀ o, w.grownBy (wr.alloc o) none) := fun o => grown_trans HGY.out (grown_trans HG.out (World.grownBy_alloc wr o none))
          clear hje HRW
          go_wp2_with (at_builtin; first
            | (refine wpList_append_liesW rfl (.tmp 43) (.tmp 45) 24 rfl w.heap.size 3 i2 (.int .i64 0) 1 8 Try.underlying24 hi2 hx0 hx1 hx2 rfl (by decide) (.slice da k dc) k (zV (defL R k)) rfl (HOD.out _) ⟨wr.heap.size, 0, none⟩ 1 1 [.int .i64 m] rfl rfl (World.news_of_block (heap_alloc_last wr _)) (by simp [Value.oneCell']) (by decide) (by unfold maxLen; omega) (by omega) (HGD.out _).size ?_; intro g5 c5 wA hoA hgA hatA; have HOA := hidM hoA; have HGA : Hid (w.grownBy wA none) := grown_row (HGD.out _) (HOD.out _) (Nat.le_refl _) hgA; have HPA : Hid (LrP wA w.heap.size ka kc k (fun i => rowA (R i)) ua uc) := (HP1.out.kept (grown_trans HG.out (World.grownBy_alloc wr _ none))).ints (HOD.out _) hgA; have HXA : Hid (wA.heap[w.heap.size]? = some (.cells #[.slice none 0 0, .slice none 0 0, .slice none 0 0] 26 (0, 0))) := box_row (box_kept HX1.out (grown_trans HG.out (World.grownBy_alloc wr _ none))) (HOD.out _) (by decide) hgA; have HRA : Hid (wA.ownsRow w.heap.size 60 2 (.slice ra row.length rc) row.length (itsV row)) := row_row (owns_lowP (keep0 HO.out (World.grownBy_alloc wr _ none)) HGY.out.size) (HOD.out _) (by decide) hgA; clear hoA hgA hatA)
            | (refine wpList_append_liesW rfl (.tmp 47) (.tmp 49) 22 rfl w.heap.size 58 i1 (.slice none 0 0) 1 24 Try.underlying22 hi1 hy0 hy1 hy2 rfl (by decide) (.slice ka k kc) k (rowsE k (fun i => rowA (R i)) ua uc) rfl (keep0 HPA.out.out (World.grownBy_alloc wA _ none)) ⟨wA.heap.size, 0, none⟩ 1 1 [.slice ra row.length rc] rfl rfl (World.news_of_block (heap_alloc_last wA _)) (by simp [Value.oneCell']) (by decide) (by unfold maxLen; omega) (by omega) (grown_trans HGA.out (World.grownBy_alloc wA _ none)).size ?_; intro g9 c9 wC hoC hgC hatC; have HOC := hidM hoC; have HGC := hidM hgC; clear hoC hgC hatC)
            | fail)
          go_roundg (N - (k + 1))
          case measure => have := HGK.out; omega
          case rel =>
            obtain ⟨o, ho⟩ : ∃ o, o = (Obj.cells #[.slice ra row.length rc] 58 (0, 0)) := ⟨_, rfl⟩
            have hHC := HGC.out
            have h4 := HOC.out
            have h1 := (HPA.out.kept (World.grownBy_alloc wA (.cells #[.slice ra row.length rc] 58) none))
            have h2 := keep0 HRA.out (World.grownBy_alloc wA (.cells #[.slice ra row.length rc] 58) none)
            have h3 := keep0 HOA.out (World.grownBy_alloc wA (.cells #[.slice ra row.length rc] 58) none)
            have h5 := row_row h3 h1.out (by decide) hHC
            have h6 := box_row (box_kept HXA.out (World.grownBy_alloc wA (.cells #[.slice ra row.length rc] 58) none)) h1.out (by decide) hHC
            have h7 := grown_row (grown_trans HGA.out (World.grownBy_alloc wA (.cells #[.slice ra row.length rc] 58) none)) h1.out (Nat.le_refl _) hHC
            have hrow := HROW.out
            have h8 := h1.push (a := ra) (c := rc) (by rw [← hrow]; exact h2) hHC (by rw [← hrow]; exact h4)
            have h9 : zV (defL R k) ++ [.int .i64 m] = zV (defL R (k + 1)) := by rw [defL_snoc, zV_append, HM.out]; rfl
            rw [h9] at h5
            exact ⟨k + 1, some ⟨g5, 0, none⟩, c5, some ⟨g9, 0, none⟩, c9, upZ ua k ra, upZ uc k rc, by omega, rfl, rfl, rfl, by go_num, h5, h8, h6, h7⟩
    · have hkn : N = k := by omega
      subst hkn
      have hkd : decide (N < N) = false := decide_eq_false (by omega)
      have hC := laid_any ka N kc (fun i => rowA (R i)) ua uc wr hp.rs HTT.out
      have HC := hidM hC
      have HDL : Hid ((defL R N).length = N) := by show _ = _; unfold defL; simp
      clear hC
      go_wp2_with fail
      refine Calls.mono HC.out ?_
      rintro e z ⟨va, vc, rfl, hTr, hz⟩
      have HBZ : Hid (z.heap[w.heap.size]? = some (.cells #[.slice none 0 0, .slice none 0 0, .slice none 0 0] 26 (0, 0))) := box_kept HX.out hz
      have HGZ : Hid (w.grownBy z none) := grown_trans HG.out hz
      have HDZ : Hid (z.ownsRow w.heap.size 3 1 (.slice da N dc) N (zV (defL R N))) := keep0 HD.out hz
      have HUN : Hid (∀ b, (Value.slice da N dc).ownBlock = some b → b < wr.heap.size) := owns_under HD.out
      have HSZ : Hid (w.heap.size ≤ wr.heap.size) := HG.out.size
      have HT := hidM hTr
      have r0 : z.cell? ⟨w.heap.size, 0, none⟩ = some (.slice none 0 0) := by rw [cell_of_row _ _ _ _ _ _ HBZ.out]; rfl
      have r1 : z.cell? ⟨w.heap.size, 1, none⟩ = some (.slice none 0 0) := by rw [cell_of_row _ _ _ _ _ _ HBZ.out]; rfl
      have r2 : z.cell? ⟨w.heap.size, 2, none⟩ = some (.slice none 0 0) := by rw [cell_of_row _ _ _ _ _ _ HBZ.out]; rfl
      have rf0 : z.frozen? ⟨w.heap.size, 0, none⟩ = false := frozen_of_row _ _ _ _ _ HBZ.out
      have rf1 : z.frozen? ⟨w.heap.size, 1, none⟩ = false := frozen_of_row _ _ _ _ _ HBZ.out
      have rf2 : z.frozen? ⟨w.heap.size, 2, none⟩ = false := frozen_of_row _ _ _ _ _ HBZ.out
      have HEND := ly_end (w := w) HGZ.out
      have HTT2 : Hid (∀ u0 u1 u2, TrZ (((z.setCell ⟨w.heap.size, 0, none⟩ u0).setCell ⟨w.heap.size, 1, none⟩ u1).setCell ⟨w.heap.size, 2, none⟩ u2) wr.heap.size 3 (lyS (lay (fun i => rowA (R i)) N)) va vc ∧ (((z.setCell ⟨w.heap.size, 0, none⟩ u0).setCell ⟨w.heap.size, 1, none⟩ u1).setCell ⟨w.heap.size, 2, none⟩ u2).ownsRow w.heap.size 3 1 (.slice da N dc) N (zV (defL R N))) := fun u0 u1 u2 => by
        have h1 := heap_setCell_same _ _ 0 _ _ u0 HBZ.out
        have h2 := heap_setCell_same _ _ 1 _ _ u1 h1
        exact ⟨((HT.out.beside HBZ.out (by decide) (grown_setCell _ _ _)).beside h1 (by decide) (grown_setCell _ _ _)).beside h2 (by decide) (grown_setCell _ _ _), row_beside (row_beside (row_beside HDZ.out HBZ.out (by decide) (grown_setCell _ _ _)) h1 (by decide) (grown_setCell _ _ _)) h2 (by decide) (grown_setCell _ _ _)⟩
      clear hTr hz HC hp
      go_wp2_with fail
      refine ⟨rfl, _, results_pactions _ _ w.heap.size _ _ rfl rfl (ly_set3 HBZ.out _ _ _) rfl, ?_⟩
      unfold PackTold
      rw [HDL.out]
      exact ⟨wr.heap.size, da, dc, va, vc, rfl, (HTT2.out _ _ _).2, HUN.out, (HTT2.out _ _ _).1, HSZ.out, HEND.out _ _ _⟩

end Go.Proofs.Ytgmljpkenipgjaa.J

/-
  pack: the program's packedGotos: the rows of a table's gotos.
-/
namespace Go.Proofs.Ytgmljpkenipgjaa.J
open Go.RowKit Go.Maps Go.Shelf Pk

attribute [local go_sem] Oper.semAt_some

/-- Is a goto told by an edge? -/
def keepG (m t : Int) : Bool := t != -1 && t != m
/-- The edges of the first j lists' gotos. -/
def colT (Q : Nat → List Int) (nn : Nat) (m : Int) : Nat → List It
  | 0 => []
  | j + 1 => colT Q nn m j ++ (if keepG m ((Q j).getD nn 0) = true then [((j : Int), (Q j).getD nn 0)] else [])
/-- The edges of a nonterminal. -/
def colA (Q : Nat → List Int) (N nn : Nat) : List It := colT Q nn (mostF (colL Q N nn)) N
/-- The states to which most lists lead. -/
def tgtL (Q : Nat → List Int) (N k : Nat) : List Int := (List.range k).map fun i => mostF (colL Q N i)
theorem tgtL_snoc (Q : Nat → List Int) (N k : Nat) : tgtL Q N (k + 1) = tgtL Q N k ++ [mostF (colL Q N k)] := by
  unfold tgtL
  rw [List.range_succ, List.map_append]; rfl
theorem results_pgotos (tmps : Array Value) (w : World) (g : Nat) (cs : Array Value) (v : Value) (h2 : tmps.getD 2 undef = v) (h3 : tmps.getD 3 undef = .pointer (some ⟨g, 0, none⟩)) (hg : w.heap[g]? = some (.cells cs 26 (0, 0))) (hs : cs.size = 3) :
    (results Try.f36 tmps).run Try.prog w = .ok (.tuple #[v, .agg cs]) w := by
  have h2' : tmps[2]?.getD undef = v := by simpa using h2
  have h3' : tmps[3]?.getD undef = .pointer (some ⟨g, 0, none⟩) := by simpa using h3
  have hl := run_loadVar_row (P := Try.prog) w g 26 26 cs (0, 0) _ hg Try.underlying26 rfl (by rw [hs]; kernel_rfl)
  simp [results, Try.results36, h2', h3', asAddr, hl]

set_option maxRecDepth 100000 in
set_option maxHeartbeats 8000000 in
theorem packedCols_any (a : Option Addr) (N c M : Nat) (Q : Nat → List Int) (la : Nat → Option Addr) (lc : Nat → Nat) (w : World) (hR : RiAt w a N Q la lc) (hN0 : 0 < N) (hN : N ≤ 256) (hl : ∀ i, i < N → (Q i).length = M) (hMb : M ≤ 65) (hin : ∀ i, i < N → ∀ x ∈ Q i, -1 ≤ x ∧ x ≤ 256)
    (hT : MayLay M (fun i => colA Q N i)) :
    Calls Try.prog 36 #[.slice a N c] w fun e y => PackTold M (tgtL Q N M) (fun i => colA Q N i) w e y := by
  have HR : Hid (∀ X, w.grownBy X none → RiAt X a N Q la lc) := fun X hX => hR.kept hX
  have HL := hidM hl
  have HIN := hidM hin
  have HTT := hidM hT
  obtain ⟨i0, hi0, hz0, hz1, hz2⟩ := info_parts infoEdgeP
  obtain ⟨i1, hi1, hy0, hy1, hy2⟩ := info_parts infoRowE
  obtain ⟨i2, hi2, hx0, hx1, hx2⟩ := info_parts infoIntP
  have HX0 : Hid ((w.alloc (.cells #[.slice none 0 0, .slice none 0 0, .slice none 0 0] 26)).heap[w.heap.size]? = some (.cells #[.slice none 0 0, .slice none 0 0, .slice none 0 0] 26 (0, 0))) := heap_alloc_last w _
  have HG0 : Hid (w.grownBy (w.alloc (.cells #[.slice none 0 0, .slice none 0 0, .slice none 0 0] 26)) none) := World.grownBy_alloc _ _ none
  obtain ⟨lb, lo, rfl, c00⟩ : ∃ lb lo, a = some ⟨lb, lo, none⟩ ∧ ∀ i, i < N → w.cell? ⟨lb, lo + i, none⟩ = some (.slice (la i) M (lc i)) := by
    rcases hR.1 with h | ⟨lb, lo, e, h⟩
    · omega
    · exact ⟨lb, lo, e, fun i hi => by rw [h i hi, hl i hi]⟩
  have HC : Hid (∀ X, w.grownBy X none → ∀ i, i < N → X.cell? ⟨lb, lo + i, none⟩ = some (.slice (la i) M (lc i))) := fun X hX i hi => hX.cell (c00 i hi) (by simp)
  have hN1 : (0 : Int) < (N : Int) := by omega
  obtain ⟨a0, ha0⟩ : ∃ v, v = la 0 := ⟨_, rfl⟩
  obtain ⟨c0, hc0⟩ : ∃ v, v = lc 0 := ⟨_, rfl⟩
  have q00 : ∀ o, (w.alloc o).cell? ⟨lb, lo, none⟩ = some (.slice a0 M c0) := fun o => by
    have := HC.out _ (World.grownBy_alloc w o none) 0 hN0
    rw [ha0, hc0]; exact this
  clear hR hl hin hT c00 ha0 hc0
  go_enter Try.func36, Try.ntmps36
  go_wp2_with fail
  go_loopg [2, 4, 15] M (fun gk v2 v4 v15 wr => ∃ (k : Nat) (da : Option Addr) (dc : Nat) (ka : Option Addr) (kc : Nat) (ua : Nat → Option Addr) (uc : Nat → Nat), k ≤ M ∧ gk = M - k ∧ v2 = .slice da k dc ∧ v4 = .slice ka k kc ∧ v15 = .int .i64 k ∧ wr.ownsRow w.heap.size 3 1 (.slice da k dc) k (zV (tgtL Q N k)) ∧ LrP wr w.heap.size ka kc k (fun i => colA Q N i) ua uc ∧ wr.heap[w.heap.size]? = some (.cells #[.slice none 0 0, .slice none 0 0, .slice none 0 0] 26 (0, 0)) ∧ w.grownBy wr none)
  case atStart => exact ⟨0, none, 0, none, 0, fun _ => none, fun _ => 0, Nat.zero_le _, rfl, rfl, rfl, rfl, World.ownsRow_nil _ _ _ _, ⟨World.ownsRow_nil _ _ _ _, fun j h => absurd h (Nat.not_lt_zero _)⟩, HX0.out, HG0.out⟩
  case round =>
    clear HX0 HG0 q00
    obtain ⟨k, da, dc, ka, kc, ua, uc, hk, hgk, rfl, rfl, rfl, hd, hp, hx, hg⟩ := hrel
    have HGK : Hid (gk = M - k) := hgk
    have HD := hidM hd
    have HP := hidM hp
    have HX := hidM hx
    have HG := hidM hg
    clear hgk hd hx
    by_cases hlt : k < M
    · clear hp
      have hkd : decide (k < M) = true := decide_eq_true hlt
      have hk0 : (0 : Int) ≤ (k : Int) := by omega
      have hk1 : (k : Int) < (M : Int) := by omega
      have hcol : InM (colL Q N k) := fun x hx => by
        unfold colL at hx
        rw [List.mem_map] at hx
        obtain ⟨i, hi, rfl⟩ := hx
        have hi := List.mem_range.1 hi
        have hm : (Q i).getD k 0 ∈ Q i := by
          rw [List.getD_eq_getElem?_getD, List.getElem?_eq_getElem (by rw [HL.out i hi]; exact hlt)]
          exact List.getElem_mem _
        have := HIN.out i hi _ hm
        omega
      obtain ⟨W, hW⟩ : ∃ W, W = wr.alloc (.cells #[.int .i64 (k : Int)] 3) := ⟨_, rfl⟩
      have hwW : wr.grownBy W none := by rw [hW]; exact World.grownBy_alloc _ _ none
      have hcn : W.cell? ⟨wr.heap.size, 0, none⟩ = some (.int .i64 (k : Int)) := by rw [hW, cell_of_row _ _ _ _ _ _ (heap_alloc_last wr _)]; rfl
      have HMO := hidM (mostL_any (some ⟨lb, lo, none⟩) N c wr.heap.size k Q la lc W (HR.out W (grown_trans hg hwW)) hcn (by omega) (fun i hi => by rw [HL.out i hi]; exact hlt) hcol)
      have HCN : Hid (∀ X, W.grownBy X none → X.cell? ⟨wr.heap.size, 0, none⟩ = some (.int .i64 (k : Int))) := fun X hX => hX.cell hcn (by simp)
      have HWW := hidM hwW
      have HWE : Hid (W = wr.alloc (.cells #[.int .i64 (k : Int)] 3)) := hW
      obtain ⟨nb, hnb⟩ : ∃ v, v = wr.heap.size := ⟨_, rfl⟩
      obtain ⟨m, hm⟩ : ∃ v, v = mostF (colL Q N k) := ⟨_, rfl⟩
      have HM : Hid (m = mostF (colL Q N k)) := hm
      rw [← hm] at HMO
      clear hcol hm hg hcn hwW hW
      go_wp2_with fail
      rw [← HWE.out]
      refine Calls.mono HMO.out ?_
      rintro e y ⟨rfl, hy⟩
      rw [← hnb] at HCN ⊢
      have HCY : Hid (∀ X, y.grownBy X none → X.cell? ⟨nb, 0, none⟩ = some (.int .i64 (k : Int))) := fun X hX => HCN.out X (grown_trans hy hX)
      have hwy : wr.grownBy y none := grown_trans HWW.out hy
      have HD1 := hidM (keep0 HD.out hwy)
      have HP1 := hidM (HP.out.kept hwy)
      have HX1 := hidM (box_kept HX.out hwy)
      have HGY : Hid (w.grownBy y none) := grown_trans HG.out hwy
      clear HD HP HX HG HMO hy HCN HWW HWE hwy hnb
      go_wp2_with fail
      go_loopg [7, 23] N (fun gk v7 v23 wr => ∃ (j : Nat) (ra : Option Addr) (rc : Nat) (row : List It), j ≤ N ∧ gk = N - j ∧ row.length ≤ j ∧ v7 = .slice ra row.length rc ∧ v23 = .int .i64 j ∧ Hid (row = colT Q k m j) ∧ wr.ownsRow y.heap.size 60 2 (.slice ra row.length rc) row.length (itsV row) ∧ y.grownBy wr none)
      case atStart => exact ⟨0, none, 0, [], Nat.zero_le _, rfl, Nat.le_refl _, rfl, rfl, rfl, World.ownsRow_nil _ _ _ _, grown_refl _ _⟩
      case round =>
        obtain ⟨j, ra, rc, row, hj, hgj, hrl, rfl, rfl, HRW, ho, hg⟩ := hrel
        have HGJ : Hid (gk = N - j) := hgj
        have HO := hidM ho
        have HG := hidM hg
        clear hgj ho
        by_cases hjn : j < N
        · have hjd : decide (j < N) = true := decide_eq_true hjn
          have hj0 : (0 : Int) ≤ (j : Int) := by omega
          have hj1 : (j : Int) < (N : Int) := by omega
          have s0 := HC.out wr (grown_trans HGY.out hg) j hjn
          have s1 := HCY.out wr hg
          obtain ⟨eb, eo, hea, t0⟩ := ints_get ((HR.out wr (grown_trans HGY.out hg)).2 j hjn) (k := k) (by rw [HL.out j hjn]; exact hlt)
          rw [hea] at s0
          obtain ⟨lcj, hlcj⟩ : ∃ v, v = lc j := ⟨_, rfl⟩
          rw [← hlcj] at s0
          have hrt : colT Q k m (j + 1) = colT Q k m j ++ (if keepG m ((Q j).getD k 0) = true then [((j : Int), (Q j).getD k 0)] else []) := rfl
          obtain ⟨t, ht⟩ : ∃ t, t = (Q j).getD k 0 := ⟨_, rfl⟩
          rw [← ht] at t0 hrt
          have HRT := hidM hrt
          obtain ⟨rl, hrl2⟩ : ∃ v, v = row.length := ⟨_, rfl⟩
          obtain ⟨xs, hxs⟩ : ∃ v, v = itsV row := ⟨_, rfl⟩
          have HXS : Hid (xs = itsV row) := hxs
          have HRLN : Hid (rl = row.length) := hrl2
          have HOA : Hid (∀ X, wr.grownBy X none → X.ownsRow y.heap.size 60 2 (.slice ra rl rc) rl xs ∧ y.heap.size ≤ X.heap.size) := fun X hX => by
            rw [hrl2, hxs]
            exact ⟨keep0 HO.out hX, (grown_trans hg hX).size⟩
          rw [← hrl2] at hrl ⊢
          clear ht hrt hrl2 hxs hg hea hlcj
          by_cases hkp : keepG m t = true
          · have HKP : Hid (keepG m t = true) := hkp
            unfold keepG at hkp
            simp only [Bool.and_eq_true] at hkp
            have e1 : (t != -1) = true := hkp.1
            have e2 : (t != m) = true := hkp.2
            clear hkp
            go_wp2_with (at_builtin; refine wpList_append_liesW rfl (.tmp 39) (.tmp 43) 58 rfl y.heap.size 60 i0 (.agg #[.int .i64 0, .int .i64 0]) 2 16 Try.underlying58 hi0 hz0 hz1 hz2 rfl (by decide) (.slice ra rl rc) rl xs rfl (HOA.out _ (World.grownBy_alloc wr _ none)).1 ⟨wr.heap.size, 0, none⟩ 1 1 [.int .i64 (j : Int), .int .i64 t] rfl rfl (World.news_of_block (heap_alloc_last wr _)) (by simp [Value.oneCell']) (by decide) (by unfold maxLen; omega) (by omega) (HOA.out _ (World.grownBy_alloc wr _ none)).2 ?_)
            intro g7 c7 wB hoB hgB hatB
            have HOB := hidM hoB
            have HGB : Hid (y.grownBy wB none) := grown_row (grown_trans HG.out (World.grownBy_alloc wr _ none)) (HOA.out _ (World.grownBy_alloc wr _ none)).1 (Nat.le_refl _) hgB
            clear hoB hgB hatB
            go_wp2_with fail
            go_roundg (N - (j + 1))
            case measure => have := HGJ.out; omega
            case rel =>
              have h1 : row ++ [((j : Int), t)] = colT Q k m (j + 1) := by rw [HRT.out, if_pos HKP.out, HRW.out]
              have h2 := HOB.out
              rw [HXS.out, HRLN.out] at h2
              refine ⟨j + 1, some ⟨g7, 0, none⟩, c7, row ++ [((j : Int), t)], by omega, rfl, by rw [List.length_append, ← HRLN.out]; simp; omega, by rw [List.length_append, HRLN.out]; rfl, by go_num, h1, ?_, HGB.out⟩
              rw [List.length_append, itsV_append]
              exact h2
          · have HEND : Hid (row = colT Q k m (j + 1)) := by
              show row = _
              rw [HRT.out, if_neg hkp, List.append_nil]
              exact HRW.out
            have hkp2 : keepG m t = false := by simpa using hkp
            unfold keepG at hkp2
            clear hkp
            by_cases hk3 : t = -1
            · subst hk3
              have e1 : ((-1 : Int) != -1) = false := rfl
              clear hkp2
              go_wp2_with fail
              go_roundg (N - (j + 1))
              case measure => have := HGJ.out; omega
              case rel => exact ⟨j + 1, ra, rc, row, by omega, rfl, by rw [← HRLN.out]; omega, by rw [HRLN.out], by go_num, HEND.out, HO.out, HG.out⟩
            · have e1 : (t != -1) = true := by rw [bne_iff_ne]; exact hk3
              rw [e1, Bool.true_and] at hkp2
              go_wp2_with fail
              go_roundg (N - (j + 1))
              case measure => have := HGJ.out; omega
              case rel => exact ⟨j + 1, ra, rc, row, by omega, rfl, by rw [← HRLN.out]; omega, by rw [HRLN.out], by go_num, HEND.out, HO.out, HG.out⟩
        · have hjd : decide (j < N) = false := decide_eq_false hjn
          have hje : j = N := by omega
          have HROW : Hid (row = colA Q N k) := by
            have h := HRW.out
            rw [hje, HM.out] at h
            exact h
          have HOD : Hid (∀ o, (wr.alloc o).ownsRow w.heap.size 3 1 (.slice da k dc) k (zV (tgtL Q N k))) := fun o => keep0 HD1.out (grown_trans HG.out (World.grownBy_alloc wr o none))
          have HGD : Hid (∀ o, w.grownBy (wr.alloc o) none) := fun o => grown_trans HGY.out (grown_trans HG.out (World.grownBy_alloc wr o none))
          clear hje HRW
          go_wp2_with (at_builtin; first
            | (refine wpList_append_liesW rfl (.tmp 46) (.tmp 48) 24 rfl w.heap.size 3 i2 (.int .i64 0) 1 8 Try.underlying24 hi2 hx0 hx1 hx2 rfl (by decide) (.slice da k dc) k (zV (tgtL Q N k)) rfl (HOD.out _) ⟨wr.heap.size, 0, none⟩ 1 1 [.int .i64 m] rfl rfl (World.news_of_block (heap_alloc_last wr _)) (by simp [Value.oneCell']) (by decide) (by unfold maxLen; omega) (by omega) (HGD.out _).size ?_; intro g5 c5 wA hoA hgA hatA; have HOA := hidM hoA; have HGA : Hid (w.grownBy wA none) := grown_row (HGD.out _) (HOD.out _) (Nat.le_refl _) hgA; have HPA : Hid (LrP wA w.heap.size ka kc k (fun i => colA Q N i) ua uc) := (HP1.out.kept (grown_trans HG.out (World.grownBy_alloc wr _ none))).ints (HOD.out _) hgA; have HXA : Hid (wA.heap[w.heap.size]? = some (.cells #[.slice none 0 0, .slice none 0 0, .slice none 0 0] 26 (0, 0))) := box_row (box_kept HX1.out (grown_trans HG.out (World.grownBy_alloc wr _ none))) (HOD.out _) (by decide) hgA; have HRA : Hid (wA.ownsRow w.heap.size 60 2 (.slice ra row.length rc) row.length (itsV row)) := row_row (owns_lowP (keep0 HO.out (World.grownBy_alloc wr _ none)) HGY.out.size) (HOD.out _) (by decide) hgA; clear hoA hgA hatA)
            | (refine wpList_append_liesW rfl (.tmp 50) (.tmp 52) 22 rfl w.heap.size 58 i1 (.slice none 0 0) 1 24 Try.underlying22 hi1 hy0 hy1 hy2 rfl (by decide) (.slice ka k kc) k (rowsE k (fun i => colA Q N i) ua uc) rfl (keep0 HPA.out.out (World.grownBy_alloc wA _ none)) ⟨wA.heap.size, 0, none⟩ 1 1 [.slice ra row.length rc] rfl rfl (World.news_of_block (heap_alloc_last wA _)) (by simp [Value.oneCell']) (by decide) (by unfold maxLen; omega) (by omega) (grown_trans HGA.out (World.grownBy_alloc wA _ none)).size ?_; intro g9 c9 wC hoC hgC hatC; have HOC := hidM hoC; have HGC := hidM hgC; clear hoC hgC hatC)
            | fail)
          go_roundg (M - (k + 1))
          case measure => have := HGK.out; omega
          case rel =>
            obtain ⟨o, ho⟩ : ∃ o, o = (Obj.cells #[.slice ra row.length rc] 58 (0, 0)) := ⟨_, rfl⟩
            have hHC := HGC.out
            have h4 := HOC.out
            have h1 := (HPA.out.kept (World.grownBy_alloc wA (.cells #[.slice ra row.length rc] 58) none))
            have h2 := keep0 HRA.out (World.grownBy_alloc wA (.cells #[.slice ra row.length rc] 58) none)
            have h3 := keep0 HOA.out (World.grownBy_alloc wA (.cells #[.slice ra row.length rc] 58) none)
            have h5 := row_row h3 h1.out (by decide) hHC
            have h6 := box_row (box_kept HXA.out (World.grownBy_alloc wA (.cells #[.slice ra row.length rc] 58) none)) h1.out (by decide) hHC
            have h7 := grown_row (grown_trans HGA.out (World.grownBy_alloc wA (.cells #[.slice ra row.length rc] 58) none)) h1.out (Nat.le_refl _) hHC
            have hrow := HROW.out
            have h8 := h1.push (a := ra) (c := rc) (by rw [← hrow]; exact h2) hHC (by rw [← hrow]; exact h4)
            have h9 : zV (tgtL Q N k) ++ [.int .i64 m] = zV (tgtL Q N (k + 1)) := by rw [tgtL_snoc, zV_append, HM.out]; rfl
            rw [h9] at h5
            exact ⟨k + 1, some ⟨g5, 0, none⟩, c5, some ⟨g9, 0, none⟩, c9, upZ ua k ra, upZ uc k rc, by omega, rfl, rfl, rfl, by go_num, h5, h8, h6, h7⟩
    · have hkn : M = k := by omega
      subst hkn
      have hkd : decide (M < M) = false := decide_eq_false (by omega)
      have hC := laid_any ka M kc (fun i => colA Q N i) ua uc wr hp.rs HTT.out
      have HC := hidM hC
      have HDL : Hid ((tgtL Q N M).length = M) := by show _ = _; unfold tgtL; simp
      clear hC
      go_wp2_with fail
      refine Calls.mono HC.out ?_
      rintro e z ⟨va, vc, rfl, hTr, hz⟩
      have HBZ : Hid (z.heap[w.heap.size]? = some (.cells #[.slice none 0 0, .slice none 0 0, .slice none 0 0] 26 (0, 0))) := box_kept HX.out hz
      have HGZ : Hid (w.grownBy z none) := grown_trans HG.out hz
      have HDZ : Hid (z.ownsRow w.heap.size 3 1 (.slice da M dc) M (zV (tgtL Q N M))) := keep0 HD.out hz
      have HUN : Hid (∀ b, (Value.slice da M dc).ownBlock = some b → b < wr.heap.size) := owns_under HD.out
      have HSZ : Hid (w.heap.size ≤ wr.heap.size) := HG.out.size
      have HT := hidM hTr
      have r0 : z.cell? ⟨w.heap.size, 0, none⟩ = some (.slice none 0 0) := by rw [cell_of_row _ _ _ _ _ _ HBZ.out]; rfl
      have r1 : z.cell? ⟨w.heap.size, 1, none⟩ = some (.slice none 0 0) := by rw [cell_of_row _ _ _ _ _ _ HBZ.out]; rfl
      have r2 : z.cell? ⟨w.heap.size, 2, none⟩ = some (.slice none 0 0) := by rw [cell_of_row _ _ _ _ _ _ HBZ.out]; rfl
      have rf0 : z.frozen? ⟨w.heap.size, 0, none⟩ = false := frozen_of_row _ _ _ _ _ HBZ.out
      have rf1 : z.frozen? ⟨w.heap.size, 1, none⟩ = false := frozen_of_row _ _ _ _ _ HBZ.out
      have rf2 : z.frozen? ⟨w.heap.size, 2, none⟩ = false := frozen_of_row _ _ _ _ _ HBZ.out
      have HEND := ly_end (w := w) HGZ.out
      have HTT2 : Hid (∀ u0 u1 u2, TrZ (((z.setCell ⟨w.heap.size, 0, none⟩ u0).setCell ⟨w.heap.size, 1, none⟩ u1).setCell ⟨w.heap.size, 2, none⟩ u2) wr.heap.size 3 (lyS (lay (fun i => colA Q N i) M)) va vc ∧ (((z.setCell ⟨w.heap.size, 0, none⟩ u0).setCell ⟨w.heap.size, 1, none⟩ u1).setCell ⟨w.heap.size, 2, none⟩ u2).ownsRow w.heap.size 3 1 (.slice da M dc) M (zV (tgtL Q N M))) := fun u0 u1 u2 => by
        have h1 := heap_setCell_same _ _ 0 _ _ u0 HBZ.out
        have h2 := heap_setCell_same _ _ 1 _ _ u1 h1
        exact ⟨((HT.out.beside HBZ.out (by decide) (grown_setCell _ _ _)).beside h1 (by decide) (grown_setCell _ _ _)).beside h2 (by decide) (grown_setCell _ _ _), row_beside (row_beside (row_beside HDZ.out HBZ.out (by decide) (grown_setCell _ _ _)) h1 (by decide) (grown_setCell _ _ _)) h2 (by decide) (grown_setCell _ _ _)⟩
      clear hTr hz HC hp
      go_wp2_with fail
      refine ⟨rfl, _, results_pgotos _ _ w.heap.size _ _ rfl rfl (ly_set3 HBZ.out _ _ _) rfl, ?_⟩
      unfold PackTold
      rw [HDL.out]
      exact ⟨wr.heap.size, da, dc, va, vc, rfl, (HTT2.out _ _ _).2, HUN.out, (HTT2.out _ _ _).1, HSZ.out, HEND.out _ _ _⟩

end Go.Proofs.Ytgmljpkenipgjaa.J

/-
  pack: the program's Pack.
-/
namespace Go.Proofs.Ytgmljpkenipgjaa.J
open Go.RowKit Go.Maps Go.Shelf Pk

attribute [local go_sem] Oper.semAt_some

/-- Edges with places that grow below j. -/
def AscR (l : List It) (j : Nat) : Prop := (∀ e ∈ l, 0 ≤ e.1 ∧ e.1 < (j : Int)) ∧ (l.map (·.1)).Nodup ∧ l.length ≤ j
theorem AscR.snoc {l : List It} {j : Nat} (h : AscR l j) (b : Prop) [Decidable b] (v : Int) : AscR (l ++ (if b then [((j : Int), v)] else [])) (j + 1) := by
  obtain ⟨h1, h2, h3⟩ := h
  split
  · refine ⟨fun e he => ?_, ?_, by rw [List.length_append]; simpa using h3⟩
    · rcases List.mem_append.1 he with h | h
      · have := h1 e h; omega
      · rw [List.mem_singleton] at h
        subst h
        show 0 ≤ (j : Int) ∧ (j : Int) < _
        omega
    · rw [List.map_append, List.nodup_append]
      refine ⟨h2, by simp, fun a ha b hb => ?_⟩
      rw [List.mem_map] at ha
      obtain ⟨e, he, rfl⟩ := ha
      simp only [List.map_cons, List.map_nil, List.mem_singleton] at hb
      have := h1 e he
      rw [hb]
      omega
  · rw [List.append_nil]
    exact ⟨fun e he => by have := h1 e he; omega, h2, by omega⟩
theorem AscR.row {l : List It} {j : Nat} (h : AscR l j) (hj : j ≤ 256) : IsRow l := ⟨by have := h.2.2; omega, fun e he => by have := h.1 e he; omega, h.2.1⟩
theorem rowT_asc (m : Int) (l : List It) : ∀ j, AscR (rowT m l j) j
  | 0 => ⟨fun e h => (by cases h), List.nodup_nil, Nat.le_refl _⟩
  | j + 1 => (rowT_asc m l j).snoc _ _
theorem colT_asc (Q : Nat → List Int) (nn : Nat) (m : Int) : ∀ j, AscR (colT Q nn m j) j
  | 0 => ⟨fun e h => (by cases h), List.nodup_nil, Nat.le_refl _⟩
  | j + 1 => (colT_asc Q nn m j).snoc _ _
theorem MayT.rows {N M : Nat} {R : Nat → List It} {Q : Nat → List Int} (h : MayT N M R Q) : MayLay N (fun i => rowA (R i)) := by
  obtain ⟨h1, _, ⟨⟨_, _, h2, h3⟩, _⟩, _⟩ := h
  refine ⟨h1, fun i hi => (rowT_asc _ _ _).row ?_⟩
  have := h3 i hi
  simp only [] at this h2
  omega
theorem MayT.cols {N M : Nat} {R : Nat → List It} {Q : Nat → List Int} (h : MayT N M R Q) : MayLay (Q 0).length (fun i => colA Q N i) := by
  obtain ⟨h1, _, _, ⟨⟨_, _, h2, _⟩, _⟩⟩ := h
  simp only [] at h2
  exact ⟨by omega, fun i hi => (colT_asc _ _ _ _).row (by omega)⟩

theorem results_pack (tmps : Array Value) (w : World) (g : Nat) (cs : Array Value) (v : Value) (h2 : tmps.getD 2 undef = .pointer (some ⟨g, 0, none⟩)) (h3 : tmps.getD 3 undef = v) (hg : w.heap[g]? = some (.cells cs 45 (0, 0))) (hs : cs.size = 8) :
    (results Try.f19 tmps).run Try.prog w = .ok (.tuple #[.agg cs, v]) w := by
  have h2' : tmps[2]?.getD undef = .pointer (some ⟨g, 0, none⟩) := by simpa using h2
  have h3' : tmps[3]?.getD undef = v := by simpa using h3
  have hl := run_loadVar_row (P := Try.prog) w g 45 45 cs (0, 0) _ hg Try.underlying45 rfl (by rw [hs]; kernel_rfl)
  simp [results, Try.results19, h2', h3', asAddr, hl]
theorem set4a {X : World} {b : Nat} {c0 c1 c2 c3 c4 c5 c6 c7 : Value} {t : TypeId} (h : X.heap[b]? = some (.cells #[c0, c1, c2, c3, c4, c5, c6, c7] t (0, 0))) (u0 u1 u2 u3 : Value) : ((((X.setCell ⟨b, 0, none⟩ u0).setCell ⟨b, 1, none⟩ u1).setCell ⟨b, 2, none⟩ u2).setCell ⟨b, 3, none⟩ u3).heap[b]? = some (.cells #[u0, u1, u2, u3, c4, c5, c6, c7] t (0, 0)) := by
  have h1 := heap_setCell_same _ _ 0 _ _ u0 h
  have h2 := heap_setCell_same _ _ 1 _ _ u1 h1
  have h3 := heap_setCell_same _ _ 2 _ _ u2 h2
  exact heap_setCell_same _ _ 3 _ _ u3 h3
theorem set4b {X : World} {b : Nat} {c0 c1 c2 c3 c4 c5 c6 c7 : Value} {t : TypeId} (h : X.heap[b]? = some (.cells #[c0, c1, c2, c3, c4, c5, c6, c7] t (0, 0))) (u0 u1 u2 u3 : Value) : ((((X.setCell ⟨b, 4, none⟩ u0).setCell ⟨b, 5, none⟩ u1).setCell ⟨b, 6, none⟩ u2).setCell ⟨b, 7, none⟩ u3).heap[b]? = some (.cells #[c0, c1, c2, c3, u0, u1, u2, u3] t (0, 0)) := by
  have h1 := heap_setCell_same _ _ 4 _ _ u0 h
  have h2 := heap_setCell_same _ _ 5 _ _ u1 h1
  have h3 := heap_setCell_same _ _ 6 _ _ u2 h2
  exact heap_setCell_same _ _ 7 _ _ u3 h3
theorem set8 {X : World} {b : Nat} {c0 c1 c2 c3 c4 c5 c6 c7 : Value} {t : TypeId} (h : X.heap[b]? = some (.cells #[c0, c1, c2, c3, c4, c5, c6, c7] t (0, 0))) (u0 u1 u2 u3 u4 u5 u6 u7 : Value) : ((((((((X.setCell ⟨b, 0, none⟩ u0).setCell ⟨b, 1, none⟩ u1).setCell ⟨b, 2, none⟩ u2).setCell ⟨b, 3, none⟩ u3).setCell ⟨b, 4, none⟩ u4).setCell ⟨b, 5, none⟩ u5).setCell ⟨b, 6, none⟩ u6).setCell ⟨b, 7, none⟩ u7).heap[b]? = some (.cells #[u0, u1, u2, u3, u4, u5, u6, u7] t (0, 0)) := set4b (set4a h u0 u1 u2 u3) u4 u5 u6 u7
theorem grown4 {w X : World} {b : Nat} (hg : w.grownBy X none) (hb : w.heap.size ≤ b) (i0 i1 i2 i3 : Nat) (u0 u1 u2 u3 : Value) : w.grownBy ((((X.setCell ⟨b, i0, none⟩ u0).setCell ⟨b, i1, none⟩ u1).setCell ⟨b, i2, none⟩ u2).setCell ⟨b, i3, none⟩ u3) none := by
  exact grown_new (grown_new (grown_new (grown_new hg (grown_setCell _ _ _) hb) (grown_setCell _ _ _) hb) (grown_setCell _ _ _) hb) (grown_setCell _ _ _) hb
/-- Laid rows beside four stores into a box of another kind. -/
theorem tr4 {X : World} {B n b : Nat} {Q : Nat → List Int} {ua : Nat → Option Addr} {uc : Nat → Nat} {cs : Array Value} {t : TypeId} (h : TrZ X B n Q ua uc) (hb : X.heap[b]? = some (.cells cs t (0, 0))) (ht : t ≠ 3) (i0 i1 i2 i3 : Nat) (u0 u1 u2 u3 : Value) : TrZ ((((X.setCell ⟨b, i0, none⟩ u0).setCell ⟨b, i1, none⟩ u1).setCell ⟨b, i2, none⟩ u2).setCell ⟨b, i3, none⟩ u3) B n Q ua uc := by
  have h1 := heap_setCell_same _ _ i0 _ _ u0 hb
  have h2 := heap_setCell_same _ _ i1 _ _ u1 h1
  have h3 := heap_setCell_same _ _ i2 _ _ u2 h2
  exact (((h.beside hb ht (grown_setCell _ _ _)).beside h1 ht (grown_setCell _ _ _)).beside h2 ht (grown_setCell _ _ _)).beside h3 ht (grown_setCell _ _ _)
/-- A row beside four stores into a box of another kind. -/
theorem row4 {X : World} {B e s n b : Nat} {v : Value} {xs : List Value} {cs : Array Value} {t : TypeId} (h : X.ownsRow B e s v n xs) (hb : X.heap[b]? = some (.cells cs t (0, 0))) (ht : t ≠ e) (i0 i1 i2 i3 : Nat) (u0 u1 u2 u3 : Value) : ((((X.setCell ⟨b, i0, none⟩ u0).setCell ⟨b, i1, none⟩ u1).setCell ⟨b, i2, none⟩ u2).setCell ⟨b, i3, none⟩ u3).ownsRow B e s v n xs := by
  have h1 := heap_setCell_same _ _ i0 _ _ u0 hb
  have h2 := heap_setCell_same _ _ i1 _ _ u1 h1
  have h3 := heap_setCell_same _ _ i2 _ _ u2 h2
  exact row_beside (row_beside (row_beside (row_beside h hb ht (grown_setCell _ _ _)) h1 ht (grown_setCell _ _ _)) h2 ht (grown_setCell _ _ _)) h3 ht (grown_setCell _ _ _)
theorem tr8 {X : World} {B n b : Nat} {Q : Nat → List Int} {ua : Nat → Option Addr} {uc : Nat → Nat} {c0 c1 c2 c3 c4 c5 c6 c7 : Value} {t : TypeId} (h : TrZ X B n Q ua uc) (hb : X.heap[b]? = some (.cells #[c0, c1, c2, c3, c4, c5, c6, c7] t (0, 0))) (ht : t ≠ 3) (u0 u1 u2 u3 u4 u5 u6 u7 : Value) : TrZ ((((((((X.setCell ⟨b, 0, none⟩ u0).setCell ⟨b, 1, none⟩ u1).setCell ⟨b, 2, none⟩ u2).setCell ⟨b, 3, none⟩ u3).setCell ⟨b, 4, none⟩ u4).setCell ⟨b, 5, none⟩ u5).setCell ⟨b, 6, none⟩ u6).setCell ⟨b, 7, none⟩ u7) B n Q ua uc := tr4 (tr4 h hb ht 0 1 2 3 _ _ _ _) (set4a hb _ _ _ _) ht 4 5 6 7 _ _ _ _
theorem row8 {X : World} {B e s n b : Nat} {v : Value} {xs : List Value} {c0 c1 c2 c3 c4 c5 c6 c7 : Value} {t : TypeId} (h : X.ownsRow B e s v n xs) (hb : X.heap[b]? = some (.cells #[c0, c1, c2, c3, c4, c5, c6, c7] t (0, 0))) (ht : t ≠ e) (u0 u1 u2 u3 u4 u5 u6 u7 : Value) : ((((((((X.setCell ⟨b, 0, none⟩ u0).setCell ⟨b, 1, none⟩ u1).setCell ⟨b, 2, none⟩ u2).setCell ⟨b, 3, none⟩ u3).setCell ⟨b, 4, none⟩ u4).setCell ⟨b, 5, none⟩ u5).setCell ⟨b, 6, none⟩ u6).setCell ⟨b, 7, none⟩ u7).ownsRow B e s v n xs := row4 (row4 h hb ht 0 1 2 3 _ _ _ _) (set4a hb _ _ _ _) ht 4 5 6 7 _ _ _ _
/-- A box beside four stores into another. -/
theorem box4 {X : World} {b b' : Nat} {o : Obj} (h : X.heap[b']? = some o) (hne : b' ≠ b) (i0 i1 i2 i3 : Nat) (u0 u1 u2 u3 : Value) : ((((X.setCell ⟨b, i0, none⟩ u0).setCell ⟨b, i1, none⟩ u1).setCell ⟨b, i2, none⟩ u2).setCell ⟨b, i3, none⟩ u3).heap[b']? = some o := by
  have k : ∀ (Y : World) (i : Nat) (u : Value), Y.heap[b']? = some o → (Y.setCell ⟨b, i, none⟩ u).heap[b']? = some o := fun Y i u hY => ((grown_setCell (w := Y) b i u).block b' (Array.getElem?_eq_some_iff.1 hY).1 (fun e => hne (by simpa using e))).trans hY
  exact k _ _ _ (k _ _ _ (k _ _ _ (k _ _ _ h)))

/-- The eight cells of nothing packed. -/
def nilP : Array Value := #[.slice none 0 0, .slice none 0 0, .slice none 0 0, .slice none 0 0, .slice none 0 0, .slice none 0 0, .slice none 0 0, .slice none 0 0]

/-- What Pack tells. -/
def PkTold (N M : Nat) (R : Nat → List It) (Q : Nat → List Int) (w : World) (e : Ending) (y : World) : Prop := (¬ MayT N M R Q ∧ e = .returned (.tuple #[.agg nilP, .int .i64 1]) ∧ w.grownBy y none) ∨ (MayT N M R Q ∧ ∃ (m1 : Nat) (da : Option Addr) (dc : Nat) (ua : Nat → Option Addr) (uc : Nat → Nat) (b2 m2 : Nat) (ga : Option Addr) (gc : Nat) (va : Nat → Option Addr) (vc : Nat → Nat), e = .returned (.tuple #[.agg #[.slice da (defL R N).length dc, .slice (ua 0) (lay (fun i => rowA (R i)) N).bs.length (uc 0), .slice (ua 1) (lay (fun i => rowA (R i)) N).va.length (uc 1), .slice (ua 2) (lay (fun i => rowA (R i)) N).ow.length (uc 2), .slice ga (tgtL Q N (Q 0).length).length gc, .slice (va 0) (lay (fun i => colA Q N i) (Q 0).length).bs.length (vc 0), .slice (va 1) (lay (fun i => colA Q N i) (Q 0).length).va.length (vc 1), .slice (va 2) (lay (fun i => colA Q N i) (Q 0).length).ow.length (vc 2)], .int .i64 0]) ∧ (w.heap.size ≤ m1 ∧ w.heap.size ≤ b2 ∧ b2 ≤ m2) ∧ (y.ownsRow w.heap.size 3 1 (.slice da (defL R N).length dc) (defL R N).length (zV (defL R N)) ∧ (∀ b, (Value.slice da (defL R N).length dc).ownBlock = some b → b < m1 ∧ b < b2)) ∧ (TrZ y m1 3 (lyS (lay (fun i => rowA (R i)) N)) ua uc ∧ ∀ j, j < 3 → ∀ b, (Value.slice (ua j) (lyS (lay (fun i => rowA (R i)) N) j).length (uc j)).ownBlock = some b → b < b2) ∧ (y.ownsRow b2 3 1 (.slice ga (tgtL Q N (Q 0).length).length gc) (tgtL Q N (Q 0).length).length (zV (tgtL Q N (Q 0).length)) ∧ (∀ b, (Value.slice ga (tgtL Q N (Q 0).length).length gc).ownBlock = some b → b < m2)) ∧ TrZ y m2 3 (lyS (lay (fun i => colA Q N i) (Q 0).length)) va vc ∧ w.grownBy y none)

set_option maxRecDepth 100000 in
set_option maxHeartbeats 16000000 in
theorem packM_any (a g : Option Addr) (N M c d : Nat) (R : Nat → List It) (Q : Nat → List Int) (la lg : Nat → Option Addr) (lc ld : Nat → Nat) (w : World) (hR : RsAt w a N R la lc) (hQ : RiAt w g M Q lg ld) (hN : N ≤ 17592186044416) (hM : M ≤ 17592186044416) (hl : ∀ i, i < N → (R i).length ≤ 17592186044416) (hl2 : ∀ i, i < M → (Q i).length ≤ 17592186044416) :
    Calls Try.prog 19 #[.agg #[.slice a N c, .slice g M d]] w fun e y => PkTold N M R Q w e y := by
  obtain ⟨r, hr⟩ : ∃ r : Bool, r = true ↔ MayT N M R Q := by
    by_cases h : MayT N M R Q
    · exact ⟨true, by simp [h]⟩
    · exact ⟨false, by simp [h]⟩
  have HRR := hidM hr
  obtain ⟨X, hX⟩ : ∃ X, X = ((w.alloc (Obj.cells #[Value.slice a N c, Value.slice g M d] 42)).alloc (.cells #[.slice none 0 0, .slice none 0 0, .slice none 0 0, .slice none 0 0, .slice none 0 0, .slice none 0 0, .slice none 0 0, .slice none 0 0] 45)) := ⟨_, rfl⟩
  obtain ⟨rb, hrb⟩ : ∃ v, v = w.heap.size + 1 := ⟨_, rfl⟩
  have hgx : w.grownBy X none := by rw [hX]; exact grown_trans (World.grownBy_alloc _ _ none) (World.grownBy_alloc _ _ none)
  have hbx : X.heap[rb]? = some (.cells nilP 45 (0, 0)) := by
    have h := heap_alloc_last (w.alloc (Obj.cells #[Value.slice a N c, Value.slice g M d] 42)) (.cells nilP 45)
    have e : (w.alloc (Obj.cells #[Value.slice a N c, Value.slice g M d] 42)).heap.size = rb := by rw [hrb]; simp
    rw [hX, ← e]
    exact h
  have hdx : X.heap[w.heap.size]? = some (.cells #[.slice a N c, .slice g M d] 42 (0, 0)) := by rw [hX]; exact box_kept (heap_alloc_last w _) (World.grownBy_alloc _ _ none)
  have HMB := hidM (mayBe_any a g N M c d R Q la lg lc ld X (hR.kept hgx) (hQ.kept hgx) hN hM hl hl2 r hr)
  have HR : Hid (∀ Y, w.grownBy Y none → RsAt Y a N R la lc) := fun Y hY => hR.kept hY
  have HQ : Hid (∀ Y, w.grownBy Y none → RiAt Y g M Q lg ld) := fun Y hY => hQ.kept hY
  have HGX := hidM hgx
  have HXS : Hid (X.heap.size = w.heap.size + 2) := by show _ = _; rw [hX]; simp
  have HBX := hidM hbx
  have HDX := hidM hdx
  clear hR hQ hl hl2 hr hgx hbx hdx
  go_enter Try.func19, Try.ntmps19
  go_wp2_with fail
  rw [← hX]
  subst hrb
  clear hX
  refine Calls.mono HMB.out ?_
  rintro e y ⟨rfl, hy⟩
  have HGY : Hid (w.grownBy y none) := grown_trans HGX.out hy
  have HYS0 : Hid (w.heap.size + 2 ≤ y.heap.size) := by have h := hy.size; rw [HXS.out] at h; exact h
  have HBY := hidM (box_kept HBX.out hy)
  have HDY := hidM (box_kept HDX.out hy)
  clear HMB HBX HDX HGX hy
  cases r with
  | false =>
    have HF : Hid (¬ MayT N M R Q) := fun h => absurd (HRR.out.2 h) (by decide)
    have r0 : y.cell? ⟨w.heap.size + 1, 0, none⟩ = some (.slice none 0 0) := by rw [cell_of_row _ _ _ _ _ _ HBY.out]; rfl
    have rf0 : y.frozen? ⟨w.heap.size + 1, 0, none⟩ = false := frozen_of_row _ _ _ _ _ HBY.out
    have r1 : y.cell? ⟨w.heap.size + 1, 1, none⟩ = some (.slice none 0 0) := by rw [cell_of_row _ _ _ _ _ _ HBY.out]; rfl
    have rf1 : y.frozen? ⟨w.heap.size + 1, 1, none⟩ = false := frozen_of_row _ _ _ _ _ HBY.out
    have r2 : y.cell? ⟨w.heap.size + 1, 2, none⟩ = some (.slice none 0 0) := by rw [cell_of_row _ _ _ _ _ _ HBY.out]; rfl
    have rf2 : y.frozen? ⟨w.heap.size + 1, 2, none⟩ = false := frozen_of_row _ _ _ _ _ HBY.out
    have r3 : y.cell? ⟨w.heap.size + 1, 3, none⟩ = some (.slice none 0 0) := by rw [cell_of_row _ _ _ _ _ _ HBY.out]; rfl
    have rf3 : y.frozen? ⟨w.heap.size + 1, 3, none⟩ = false := frozen_of_row _ _ _ _ _ HBY.out
    have r4 : y.cell? ⟨w.heap.size + 1, 4, none⟩ = some (.slice none 0 0) := by rw [cell_of_row _ _ _ _ _ _ HBY.out]; rfl
    have rf4 : y.frozen? ⟨w.heap.size + 1, 4, none⟩ = false := frozen_of_row _ _ _ _ _ HBY.out
    have r5 : y.cell? ⟨w.heap.size + 1, 5, none⟩ = some (.slice none 0 0) := by rw [cell_of_row _ _ _ _ _ _ HBY.out]; rfl
    have rf5 : y.frozen? ⟨w.heap.size + 1, 5, none⟩ = false := frozen_of_row _ _ _ _ _ HBY.out
    have r6 : y.cell? ⟨w.heap.size + 1, 6, none⟩ = some (.slice none 0 0) := by rw [cell_of_row _ _ _ _ _ _ HBY.out]; rfl
    have rf6 : y.frozen? ⟨w.heap.size + 1, 6, none⟩ = false := frozen_of_row _ _ _ _ _ HBY.out
    have r7 : y.cell? ⟨w.heap.size + 1, 7, none⟩ = some (.slice none 0 0) := by rw [cell_of_row _ _ _ _ _ _ HBY.out]; rfl
    have rf7 : y.frozen? ⟨w.heap.size + 1, 7, none⟩ = false := frozen_of_row _ _ _ _ _ HBY.out
    go_wp2_with fail
    exact ⟨rfl, _, results_pack _ _ (w.heap.size + 1) _ _ rfl rfl (set8 HBY.out _ _ _ _ _ _ _ _) rfl, .inl ⟨HF.out, rfl, grown4 (grown4 HGY.out (by omega) _ _ _ _ _ _ _ _) (by omega) _ _ _ _ _ _ _ _⟩⟩
  | true =>
    have hm := HRR.out.1 rfl
    have HM := hidM hm
    obtain ⟨h1, rfl, h2, h3⟩ := hm
    obtain ⟨Z, hZ⟩ : ∃ Z, Z = y.alloc (.cells nilP 45) := ⟨_, rfl⟩
    have hyz : y.grownBy Z none := by rw [hZ]; exact World.grownBy_alloc _ _ none
    have HGZ : Hid (w.grownBy Z none) := grown_trans HGY.out hyz
    have HPZ : Hid (Z.heap[y.heap.size]? = some (.cells nilP 45 (0, 0))) := by show _ = _; rw [hZ]; exact heap_alloc_last y _
    have HBZ := hidM (box_kept HBY.out hyz)
    have HDZ := hidM (box_kept HDY.out hyz)
    have d0 : Z.cell? ⟨w.heap.size, 0, none⟩ = some (.slice a M c) := by rw [cell_of_row _ _ _ _ _ _ HDZ.out]; rfl
    have d1 : (y.alloc (.cells nilP 45)).cell? ⟨w.heap.size, 0, none⟩ = some (.slice a M c) := by rw [← hZ]; exact d0
    unfold nilP at d1
    have HC1 := hidM (packedRows_any a M c M R la lc Z (HR.out Z HGZ.out) h1 (fun i hi => by have := h2.1.2.2.2 i hi; have := h2.1.2.2.1; simp only [] at *; omega) h2.2 h1 HM.out.rows)
    unfold nilP at hZ
    obtain ⟨pb, hpb⟩ : ∃ v, v = y.heap.size := ⟨_, rfl⟩
    have HPB : Hid (w.heap.size ≤ pb) := by show _ ≤ _; rw [hpb]; exact HGY.out.size
    rw [← hpb] at HPZ
    have HYS : Hid (w.heap.size + 2 ≤ y.heap.size) := HYS0
    clear HGY HBY HDY hyz d0 h2 h3
    go_wp2_with fail
    rw [← hZ, ← hpb]
    refine Calls.mono HC1.out ?_
    rintro e y1 ⟨m1, da, dc, ua, uc, rfl, ho1, hu1, ht1, hm1, hg1⟩
    have HP1 := hidM (box_kept HPZ.out hg1)
    have HB1 := hidM (box_kept HBZ.out hg1)
    have HD1 := hidM (box_kept HDZ.out hg1)
    have HG1 : Hid (w.grownBy y1 none) := grown_trans HGZ.out hg1
    have HO1 := hidM ho1
    have HU1 := hidM hu1
    have HT1 := hidM ht1
    have HM1 := hidM hm1
    obtain ⟨Dn, hDn⟩ : ∃ v, v = (defL R M).length := ⟨_, rfl⟩
    obtain ⟨l0, hl0⟩ : ∃ v, v = (lay (fun i => rowA (R i)) M).bs.length := ⟨_, rfl⟩
    obtain ⟨l1, hl1⟩ : ∃ v, v = (lay (fun i => rowA (R i)) M).va.length := ⟨_, rfl⟩
    obtain ⟨l2, hl2⟩ : ∃ v, v = (lay (fun i => rowA (R i)) M).ow.length := ⟨_, rfl⟩
    rw [← hDn, ← hl0, ← hl1, ← hl2]
    have HDn := hidM hDn
    have Hl0 := hidM hl0
    have Hl1 := hidM hl1
    have Hl2 := hidM hl2
    obtain ⟨Y, hY⟩ : ∃ Y, Y = ((((y1.setCell ⟨pb, 0, none⟩ (.slice da Dn dc)).setCell ⟨pb, 1, none⟩ (.slice (ua 0) l0 (uc 0))).setCell ⟨pb, 2, none⟩ (.slice (ua 1) l1 (uc 1))).setCell ⟨pb, 3, none⟩ (.slice (ua 2) l2 (uc 2))) := ⟨_, rfl⟩
    have HGY : Hid (w.grownBy Y none) := by show w.grownBy _ _; rw [hY]; exact grown4 HG1.out HPB.out _ _ _ _ _ _ _ _
    subst hpb
    have r0 : y1.cell? ⟨y.heap.size, 0, none⟩ = some (.slice none 0 0) := by rw [cell_of_row _ _ _ _ _ _ HP1.out]; rfl
    have rf0 : y1.frozen? ⟨y.heap.size, 0, none⟩ = false := frozen_of_row _ _ _ _ _ HP1.out
    have r1 : y1.cell? ⟨y.heap.size, 1, none⟩ = some (.slice none 0 0) := by rw [cell_of_row _ _ _ _ _ _ HP1.out]; rfl
    have rf1 : y1.frozen? ⟨y.heap.size, 1, none⟩ = false := frozen_of_row _ _ _ _ _ HP1.out
    have r2 : y1.cell? ⟨y.heap.size, 2, none⟩ = some (.slice none 0 0) := by rw [cell_of_row _ _ _ _ _ _ HP1.out]; rfl
    have rf2 : y1.frozen? ⟨y.heap.size, 2, none⟩ = false := frozen_of_row _ _ _ _ _ HP1.out
    have r3 : y1.cell? ⟨y.heap.size, 3, none⟩ = some (.slice none 0 0) := by rw [cell_of_row _ _ _ _ _ _ HP1.out]; rfl
    have rf3 : y1.frozen? ⟨y.heap.size, 3, none⟩ = false := frozen_of_row _ _ _ _ _ HP1.out
    have hne0 : w.heap.size ≠ y.heap.size := by have := HYS.out; omega
    have hne1 : w.heap.size + 1 ≠ y.heap.size := by have := HYS.out; omega
    have HPY : Hid (Y.heap[y.heap.size]? = some (.cells #[.slice da Dn dc, .slice (ua 0) l0 (uc 0), .slice (ua 1) l1 (uc 1), .slice (ua 2) l2 (uc 2), .slice none 0 0, .slice none 0 0, .slice none 0 0, .slice none 0 0] 45 (0, 0))) := by show _ = _; rw [hY]; exact set4a HP1.out _ _ _ _
    have HBY : Hid (Y.heap[w.heap.size + 1]? = some (.cells nilP 45 (0, 0))) := by show _ = _; rw [hY]; exact box4 HB1.out hne1 _ _ _ _ _ _ _ _
    have HDY : Hid (Y.heap[w.heap.size]? = some (.cells #[.slice a M c, .slice g M d] 42 (0, 0))) := by show _ = _; rw [hY]; exact box4 HD1.out hne0 _ _ _ _ _ _ _ _
    have d2 : ((((y1.setCell ⟨y.heap.size, 0, none⟩ (.slice da Dn dc)).setCell ⟨y.heap.size, 1, none⟩ (.slice (ua 0) l0 (uc 0))).setCell ⟨y.heap.size, 2, none⟩ (.slice (ua 1) l1 (uc 1))).setCell ⟨y.heap.size, 3, none⟩ (.slice (ua 2) l2 (uc 2))).cell? ⟨w.heap.size, 1, none⟩ = some (.slice g M d) := by rw [← hY, cell_of_row _ _ _ _ _ _ HDY.out]; rfl
    have hcols : ∀ i, i < M → (Q i).length = (Q 0).length := HM.out.2.2.2.1.2.2.2
    have HC2 := hidM (packedCols_any g M d (Q 0).length Q lg ld Y (HQ.out Y HGY.out) HM.out.2.2.2.1.1 h1 hcols HM.out.2.2.2.1.2.2.1 (fun i hi x hx => by have := HM.out.2.2.2.2 i hi x hx; unfold GotoOk at this; omega) HM.out.cols)
    have HOY : Hid (Y.ownsRow Z.heap.size 3 1 (.slice da Dn dc) Dn (zV (defL R M))) := by
      have h := row4 HO1.out HP1.out (by decide) 0 1 2 3 (.slice da Dn dc) (.slice (ua 0) l0 (uc 0)) (.slice (ua 1) l1 (uc 1)) (.slice (ua 2) l2 (uc 2))
      rw [← hY, ← HDn.out] at h
      exact h
    have HTY : Hid (TrZ Y m1 3 (lyS (lay (fun i => rowA (R i)) M)) ua uc) := by
      show TrZ _ _ _ _ _ _
      rw [hY]
      exact tr4 HT1.out HP1.out (by decide) 0 1 2 3 _ _ _ _
    have HZW : Hid (w.heap.size ≤ Z.heap.size) := HGZ.out.size
    clear HC1 HPZ HBZ HDZ HGZ ho1 hu1 ht1 hm1 hg1 hDn hl0 hl1 hl2 hne0 hne1 hcols
    go_wp2_with fail
    rw [← hY]
    clear d2 r0 r1 r2 r3 rf0 rf1 rf2 rf3 hY d1 hZ
    refine Calls.mono HC2.out ?_
    rintro e y2 ⟨m2, ga, gc, va, vc, rfl, ho2, hu2, ht2, hm2, hg2⟩
    have HP2 := hidM (box_kept HPY.out hg2)
    have HB2 := hidM (box_kept HBY.out hg2)
    have HG2 : Hid (w.grownBy y2 none) := grown_trans HGY.out hg2
    have HO2 := hidM ho2
    have HU2 := hidM hu2
    have HT2 := hidM ht2
    have HM2 := hidM hm2
    have HOY2 := hidM (keep0 HOY.out hg2)
    have HTY2 := hidM (HTY.out.kept hg2)
    obtain ⟨Gn, hGn⟩ : ∃ v, v = (tgtL Q M (Q 0).length).length := ⟨_, rfl⟩
    obtain ⟨k0, hk0⟩ : ∃ v, v = (lay (fun i => colA Q M i) (Q 0).length).bs.length := ⟨_, rfl⟩
    obtain ⟨k1, hk1⟩ : ∃ v, v = (lay (fun i => colA Q M i) (Q 0).length).va.length := ⟨_, rfl⟩
    obtain ⟨k2, hk2⟩ : ∃ v, v = (lay (fun i => colA Q M i) (Q 0).length).ow.length := ⟨_, rfl⟩
    rw [← hGn, ← hk0, ← hk1, ← hk2]
    have HGn := hidM hGn
    have Hk0 := hidM hk0
    have Hk1 := hidM hk1
    have Hk2 := hidM hk2
    obtain ⟨V, hV⟩ : ∃ V, V = ((((y2.setCell ⟨y.heap.size, 4, none⟩ (.slice ga Gn gc)).setCell ⟨y.heap.size, 5, none⟩ (.slice (va 0) k0 (vc 0))).setCell ⟨y.heap.size, 6, none⟩ (.slice (va 1) k1 (vc 1))).setCell ⟨y.heap.size, 7, none⟩ (.slice (va 2) k2 (vc 2))) := ⟨_, rfl⟩
    have hne1 : w.heap.size + 1 ≠ y.heap.size := by have := HYS.out; omega
    have s4 : y2.cell? ⟨y.heap.size, 4, none⟩ = some (.slice none 0 0) := by rw [cell_of_row _ _ _ _ _ _ HP2.out]; rfl
    have sf4 : y2.frozen? ⟨y.heap.size, 4, none⟩ = false := frozen_of_row _ _ _ _ _ HP2.out
    have s5 : y2.cell? ⟨y.heap.size, 5, none⟩ = some (.slice none 0 0) := by rw [cell_of_row _ _ _ _ _ _ HP2.out]; rfl
    have sf5 : y2.frozen? ⟨y.heap.size, 5, none⟩ = false := frozen_of_row _ _ _ _ _ HP2.out
    have s6 : y2.cell? ⟨y.heap.size, 6, none⟩ = some (.slice none 0 0) := by rw [cell_of_row _ _ _ _ _ _ HP2.out]; rfl
    have sf6 : y2.frozen? ⟨y.heap.size, 6, none⟩ = false := frozen_of_row _ _ _ _ _ HP2.out
    have s7 : y2.cell? ⟨y.heap.size, 7, none⟩ = some (.slice none 0 0) := by rw [cell_of_row _ _ _ _ _ _ HP2.out]; rfl
    have sf7 : y2.frozen? ⟨y.heap.size, 7, none⟩ = false := frozen_of_row _ _ _ _ _ HP2.out
    have HPV : Hid (V.heap[y.heap.size]? = some (.cells #[.slice da Dn dc, .slice (ua 0) l0 (uc 0), .slice (ua 1) l1 (uc 1), .slice (ua 2) l2 (uc 2), .slice ga Gn gc, .slice (va 0) k0 (vc 0), .slice (va 1) k1 (vc 1), .slice (va 2) k2 (vc 2)] 45 (0, 0))) := by show _ = _; rw [hV]; exact set4b HP2.out _ _ _ _
    have HBV : Hid (V.heap[w.heap.size + 1]? = some (.cells nilP 45 (0, 0))) := by show _ = _; rw [hV]; exact box4 HB2.out hne1 _ _ _ _ _ _ _ _
    have q0 : ((((y2.setCell ⟨y.heap.size, 4, none⟩ (.slice ga Gn gc)).setCell ⟨y.heap.size, 5, none⟩ (.slice (va 0) k0 (vc 0))).setCell ⟨y.heap.size, 6, none⟩ (.slice (va 1) k1 (vc 1))).setCell ⟨y.heap.size, 7, none⟩ (.slice (va 2) k2 (vc 2))).cell? ⟨y.heap.size, 0, none⟩ = some (.slice da Dn dc) := by rw [← hV, cell_of_row _ _ _ _ _ _ HPV.out]; rfl
    have q1 : ((((y2.setCell ⟨y.heap.size, 4, none⟩ (.slice ga Gn gc)).setCell ⟨y.heap.size, 5, none⟩ (.slice (va 0) k0 (vc 0))).setCell ⟨y.heap.size, 6, none⟩ (.slice (va 1) k1 (vc 1))).setCell ⟨y.heap.size, 7, none⟩ (.slice (va 2) k2 (vc 2))).cell? ⟨y.heap.size, 1, none⟩ = some (.slice (ua 0) l0 (uc 0)) := by rw [← hV, cell_of_row _ _ _ _ _ _ HPV.out]; rfl
    have q2 : ((((y2.setCell ⟨y.heap.size, 4, none⟩ (.slice ga Gn gc)).setCell ⟨y.heap.size, 5, none⟩ (.slice (va 0) k0 (vc 0))).setCell ⟨y.heap.size, 6, none⟩ (.slice (va 1) k1 (vc 1))).setCell ⟨y.heap.size, 7, none⟩ (.slice (va 2) k2 (vc 2))).cell? ⟨y.heap.size, 2, none⟩ = some (.slice (ua 1) l1 (uc 1)) := by rw [← hV, cell_of_row _ _ _ _ _ _ HPV.out]; rfl
    have q3 : ((((y2.setCell ⟨y.heap.size, 4, none⟩ (.slice ga Gn gc)).setCell ⟨y.heap.size, 5, none⟩ (.slice (va 0) k0 (vc 0))).setCell ⟨y.heap.size, 6, none⟩ (.slice (va 1) k1 (vc 1))).setCell ⟨y.heap.size, 7, none⟩ (.slice (va 2) k2 (vc 2))).cell? ⟨y.heap.size, 3, none⟩ = some (.slice (ua 2) l2 (uc 2)) := by rw [← hV, cell_of_row _ _ _ _ _ _ HPV.out]; rfl
    have q4 : ((((y2.setCell ⟨y.heap.size, 4, none⟩ (.slice ga Gn gc)).setCell ⟨y.heap.size, 5, none⟩ (.slice (va 0) k0 (vc 0))).setCell ⟨y.heap.size, 6, none⟩ (.slice (va 1) k1 (vc 1))).setCell ⟨y.heap.size, 7, none⟩ (.slice (va 2) k2 (vc 2))).cell? ⟨y.heap.size, 4, none⟩ = some (.slice ga Gn gc) := by rw [← hV, cell_of_row _ _ _ _ _ _ HPV.out]; rfl
    have q5 : ((((y2.setCell ⟨y.heap.size, 4, none⟩ (.slice ga Gn gc)).setCell ⟨y.heap.size, 5, none⟩ (.slice (va 0) k0 (vc 0))).setCell ⟨y.heap.size, 6, none⟩ (.slice (va 1) k1 (vc 1))).setCell ⟨y.heap.size, 7, none⟩ (.slice (va 2) k2 (vc 2))).cell? ⟨y.heap.size, 5, none⟩ = some (.slice (va 0) k0 (vc 0)) := by rw [← hV, cell_of_row _ _ _ _ _ _ HPV.out]; rfl
    have q6 : ((((y2.setCell ⟨y.heap.size, 4, none⟩ (.slice ga Gn gc)).setCell ⟨y.heap.size, 5, none⟩ (.slice (va 0) k0 (vc 0))).setCell ⟨y.heap.size, 6, none⟩ (.slice (va 1) k1 (vc 1))).setCell ⟨y.heap.size, 7, none⟩ (.slice (va 2) k2 (vc 2))).cell? ⟨y.heap.size, 6, none⟩ = some (.slice (va 1) k1 (vc 1)) := by rw [← hV, cell_of_row _ _ _ _ _ _ HPV.out]; rfl
    have q7 : ((((y2.setCell ⟨y.heap.size, 4, none⟩ (.slice ga Gn gc)).setCell ⟨y.heap.size, 5, none⟩ (.slice (va 0) k0 (vc 0))).setCell ⟨y.heap.size, 6, none⟩ (.slice (va 1) k1 (vc 1))).setCell ⟨y.heap.size, 7, none⟩ (.slice (va 2) k2 (vc 2))).cell? ⟨y.heap.size, 7, none⟩ = some (.slice (va 2) k2 (vc 2)) := by rw [← hV, cell_of_row _ _ _ _ _ _ HPV.out]; rfl
    have r0 : ((((y2.setCell ⟨y.heap.size, 4, none⟩ (.slice ga Gn gc)).setCell ⟨y.heap.size, 5, none⟩ (.slice (va 0) k0 (vc 0))).setCell ⟨y.heap.size, 6, none⟩ (.slice (va 1) k1 (vc 1))).setCell ⟨y.heap.size, 7, none⟩ (.slice (va 2) k2 (vc 2))).cell? ⟨w.heap.size + 1, 0, none⟩ = some (.slice none 0 0) := by rw [← hV, cell_of_row _ _ _ _ _ _ HBV.out]; rfl
    have rf0 : ((((y2.setCell ⟨y.heap.size, 4, none⟩ (.slice ga Gn gc)).setCell ⟨y.heap.size, 5, none⟩ (.slice (va 0) k0 (vc 0))).setCell ⟨y.heap.size, 6, none⟩ (.slice (va 1) k1 (vc 1))).setCell ⟨y.heap.size, 7, none⟩ (.slice (va 2) k2 (vc 2))).frozen? ⟨w.heap.size + 1, 0, none⟩ = false := by rw [← hV]; exact frozen_of_row _ _ _ _ _ HBV.out
    have r1 : ((((y2.setCell ⟨y.heap.size, 4, none⟩ (.slice ga Gn gc)).setCell ⟨y.heap.size, 5, none⟩ (.slice (va 0) k0 (vc 0))).setCell ⟨y.heap.size, 6, none⟩ (.slice (va 1) k1 (vc 1))).setCell ⟨y.heap.size, 7, none⟩ (.slice (va 2) k2 (vc 2))).cell? ⟨w.heap.size + 1, 1, none⟩ = some (.slice none 0 0) := by rw [← hV, cell_of_row _ _ _ _ _ _ HBV.out]; rfl
    have rf1 : ((((y2.setCell ⟨y.heap.size, 4, none⟩ (.slice ga Gn gc)).setCell ⟨y.heap.size, 5, none⟩ (.slice (va 0) k0 (vc 0))).setCell ⟨y.heap.size, 6, none⟩ (.slice (va 1) k1 (vc 1))).setCell ⟨y.heap.size, 7, none⟩ (.slice (va 2) k2 (vc 2))).frozen? ⟨w.heap.size + 1, 1, none⟩ = false := by rw [← hV]; exact frozen_of_row _ _ _ _ _ HBV.out
    have r2 : ((((y2.setCell ⟨y.heap.size, 4, none⟩ (.slice ga Gn gc)).setCell ⟨y.heap.size, 5, none⟩ (.slice (va 0) k0 (vc 0))).setCell ⟨y.heap.size, 6, none⟩ (.slice (va 1) k1 (vc 1))).setCell ⟨y.heap.size, 7, none⟩ (.slice (va 2) k2 (vc 2))).cell? ⟨w.heap.size + 1, 2, none⟩ = some (.slice none 0 0) := by rw [← hV, cell_of_row _ _ _ _ _ _ HBV.out]; rfl
    have rf2 : ((((y2.setCell ⟨y.heap.size, 4, none⟩ (.slice ga Gn gc)).setCell ⟨y.heap.size, 5, none⟩ (.slice (va 0) k0 (vc 0))).setCell ⟨y.heap.size, 6, none⟩ (.slice (va 1) k1 (vc 1))).setCell ⟨y.heap.size, 7, none⟩ (.slice (va 2) k2 (vc 2))).frozen? ⟨w.heap.size + 1, 2, none⟩ = false := by rw [← hV]; exact frozen_of_row _ _ _ _ _ HBV.out
    have r3 : ((((y2.setCell ⟨y.heap.size, 4, none⟩ (.slice ga Gn gc)).setCell ⟨y.heap.size, 5, none⟩ (.slice (va 0) k0 (vc 0))).setCell ⟨y.heap.size, 6, none⟩ (.slice (va 1) k1 (vc 1))).setCell ⟨y.heap.size, 7, none⟩ (.slice (va 2) k2 (vc 2))).cell? ⟨w.heap.size + 1, 3, none⟩ = some (.slice none 0 0) := by rw [← hV, cell_of_row _ _ _ _ _ _ HBV.out]; rfl
    have rf3 : ((((y2.setCell ⟨y.heap.size, 4, none⟩ (.slice ga Gn gc)).setCell ⟨y.heap.size, 5, none⟩ (.slice (va 0) k0 (vc 0))).setCell ⟨y.heap.size, 6, none⟩ (.slice (va 1) k1 (vc 1))).setCell ⟨y.heap.size, 7, none⟩ (.slice (va 2) k2 (vc 2))).frozen? ⟨w.heap.size + 1, 3, none⟩ = false := by rw [← hV]; exact frozen_of_row _ _ _ _ _ HBV.out
    have r4 : ((((y2.setCell ⟨y.heap.size, 4, none⟩ (.slice ga Gn gc)).setCell ⟨y.heap.size, 5, none⟩ (.slice (va 0) k0 (vc 0))).setCell ⟨y.heap.size, 6, none⟩ (.slice (va 1) k1 (vc 1))).setCell ⟨y.heap.size, 7, none⟩ (.slice (va 2) k2 (vc 2))).cell? ⟨w.heap.size + 1, 4, none⟩ = some (.slice none 0 0) := by rw [← hV, cell_of_row _ _ _ _ _ _ HBV.out]; rfl
    have rf4 : ((((y2.setCell ⟨y.heap.size, 4, none⟩ (.slice ga Gn gc)).setCell ⟨y.heap.size, 5, none⟩ (.slice (va 0) k0 (vc 0))).setCell ⟨y.heap.size, 6, none⟩ (.slice (va 1) k1 (vc 1))).setCell ⟨y.heap.size, 7, none⟩ (.slice (va 2) k2 (vc 2))).frozen? ⟨w.heap.size + 1, 4, none⟩ = false := by rw [← hV]; exact frozen_of_row _ _ _ _ _ HBV.out
    have r5 : ((((y2.setCell ⟨y.heap.size, 4, none⟩ (.slice ga Gn gc)).setCell ⟨y.heap.size, 5, none⟩ (.slice (va 0) k0 (vc 0))).setCell ⟨y.heap.size, 6, none⟩ (.slice (va 1) k1 (vc 1))).setCell ⟨y.heap.size, 7, none⟩ (.slice (va 2) k2 (vc 2))).cell? ⟨w.heap.size + 1, 5, none⟩ = some (.slice none 0 0) := by rw [← hV, cell_of_row _ _ _ _ _ _ HBV.out]; rfl
    have rf5 : ((((y2.setCell ⟨y.heap.size, 4, none⟩ (.slice ga Gn gc)).setCell ⟨y.heap.size, 5, none⟩ (.slice (va 0) k0 (vc 0))).setCell ⟨y.heap.size, 6, none⟩ (.slice (va 1) k1 (vc 1))).setCell ⟨y.heap.size, 7, none⟩ (.slice (va 2) k2 (vc 2))).frozen? ⟨w.heap.size + 1, 5, none⟩ = false := by rw [← hV]; exact frozen_of_row _ _ _ _ _ HBV.out
    have r6 : ((((y2.setCell ⟨y.heap.size, 4, none⟩ (.slice ga Gn gc)).setCell ⟨y.heap.size, 5, none⟩ (.slice (va 0) k0 (vc 0))).setCell ⟨y.heap.size, 6, none⟩ (.slice (va 1) k1 (vc 1))).setCell ⟨y.heap.size, 7, none⟩ (.slice (va 2) k2 (vc 2))).cell? ⟨w.heap.size + 1, 6, none⟩ = some (.slice none 0 0) := by rw [← hV, cell_of_row _ _ _ _ _ _ HBV.out]; rfl
    have rf6 : ((((y2.setCell ⟨y.heap.size, 4, none⟩ (.slice ga Gn gc)).setCell ⟨y.heap.size, 5, none⟩ (.slice (va 0) k0 (vc 0))).setCell ⟨y.heap.size, 6, none⟩ (.slice (va 1) k1 (vc 1))).setCell ⟨y.heap.size, 7, none⟩ (.slice (va 2) k2 (vc 2))).frozen? ⟨w.heap.size + 1, 6, none⟩ = false := by rw [← hV]; exact frozen_of_row _ _ _ _ _ HBV.out
    have r7 : ((((y2.setCell ⟨y.heap.size, 4, none⟩ (.slice ga Gn gc)).setCell ⟨y.heap.size, 5, none⟩ (.slice (va 0) k0 (vc 0))).setCell ⟨y.heap.size, 6, none⟩ (.slice (va 1) k1 (vc 1))).setCell ⟨y.heap.size, 7, none⟩ (.slice (va 2) k2 (vc 2))).cell? ⟨w.heap.size + 1, 7, none⟩ = some (.slice none 0 0) := by rw [← hV, cell_of_row _ _ _ _ _ _ HBV.out]; rfl
    have rf7 : ((((y2.setCell ⟨y.heap.size, 4, none⟩ (.slice ga Gn gc)).setCell ⟨y.heap.size, 5, none⟩ (.slice (va 0) k0 (vc 0))).setCell ⟨y.heap.size, 6, none⟩ (.slice (va 1) k1 (vc 1))).setCell ⟨y.heap.size, 7, none⟩ (.slice (va 2) k2 (vc 2))).frozen? ⟨w.heap.size + 1, 7, none⟩ = false := by rw [← hV]; exact frozen_of_row _ _ _ _ _ HBV.out
    have HOV : Hid (V.ownsRow w.heap.size 3 1 (.slice da Dn dc) Dn (zV (defL R M))) := by
      show World.ownsRow _ _ _ _ _ _ _
      rw [hV]
      exact owns_lowP (row4 HOY2.out HP2.out (by decide) 4 5 6 7 _ _ _ _) HZW.out
    have HTV : Hid (TrZ V m1 3 (lyS (lay (fun i => rowA (R i)) M)) ua uc) := by
      show TrZ _ _ _ _ _ _
      rw [hV]
      exact tr4 HTY2.out HP2.out (by decide) 4 5 6 7 _ _ _ _
    have HOV2 : Hid (V.ownsRow Y.heap.size 3 1 (.slice ga Gn gc) Gn (zV (tgtL Q M (Q 0).length))) := by
      show World.ownsRow _ _ _ _ _ _ _
      rw [hV]
      have h := row4 HO2.out HP2.out (by decide) 4 5 6 7 (.slice ga Gn gc) (.slice (va 0) k0 (vc 0)) (.slice (va 1) k1 (vc 1)) (.slice (va 2) k2 (vc 2))
      rw [← HGn.out] at h
      exact h
    have HTV2 : Hid (TrZ V m2 3 (lyS (lay (fun i => colA Q M i) (Q 0).length)) va vc) := by
      show TrZ _ _ _ _ _ _
      rw [hV]
      exact tr4 HT2.out HP2.out (by decide) 4 5 6 7 _ _ _ _
    have HGV : Hid (w.grownBy V none) := by
      show w.grownBy _ _
      rw [hV]
      exact grown4 HG2.out HPB.out _ _ _ _ _ _ _ _
    have HWY : Hid (w.heap.size ≤ Y.heap.size) := HGY.out.size
    have HUD : Hid (∀ b, (Value.slice da Dn dc).ownBlock = some b → b < Y.heap.size) := owns_under HOY.out
    have HUT : Hid (∀ j, j < 3 → ∀ b, (Value.slice (ua j) (lyS (lay (fun i => rowA (R i)) M) j).length (uc j)).ownBlock = some b → b < Y.heap.size) := fun j hj => owns_under (HTY.out.inn j hj)
    clear HC2 ho2 hu2 ht2 hm2 hg2 hGn hk0 hk1 hk2 hne1
    go_wp2_with fail
    rw [← hV]
    refine ⟨rfl, _, results_pack _ _ (w.heap.size + 1) _ _ rfl rfl (set8 HBV.out _ _ _ _ _ _ _ _) rfl, .inr ⟨HM.out, ?_⟩⟩
    rw [← HDn.out, ← HGn.out]
    refine ⟨m1, da, dc, ua, uc, Y.heap.size, m2, ga, gc, va, vc, ?_, ⟨Nat.le_trans HZW.out HM1.out, HWY.out, HM2.out⟩, ⟨row8 HOV.out HBV.out (by decide) _ _ _ _ _ _ _ _, fun b hb => ⟨HU1.out b (by rw [← HDn.out]; exact hb), HUD.out b hb⟩⟩, ⟨tr8 HTV.out HBV.out (by decide) _ _ _ _ _ _ _ _, HUT.out⟩, ⟨row8 HOV2.out HBV.out (by decide) _ _ _ _ _ _ _ _, fun b hb => HU2.out b (by rw [← HGn.out]; exact hb)⟩, tr8 HTV2.out HBV.out (by decide) _ _ _ _ _ _ _ _, grown4 (grown4 HGV.out (by omega) _ _ _ _ _ _ _ _) (by omega) _ _ _ _ _ _ _ _⟩
    rw [← Hl0.out, ← Hl1.out, ← Hl2.out, ← Hk0.out, ← Hk1.out, ← Hk2.out]
    rfl

end Go.Proofs.Ytgmljpkenipgjaa.J

/-
  pack: rows of any kind under way, each in a block of its own (the law's dense).
-/
namespace Go.Proofs.Ytgmljpkenipgjaa.J
open Go.RowKit Go.Maps Go.Shelf Pk

theorem hidD {p : Prop} (h : p) : Hid p := h
theorem step_append_srcW {w : World} {ops : Array Oper} {o : Oper} {a : Act} {K : Act → World → Prop} {Q : Exit → Act → World → Prop} {E : Prop} (hg : o.guard = none) (s x : Operand) (t : TypeId)
    (ho : o.op = .call { callee := .builtin .append, args := #[s, x], argTypes := #[t, t] })
    (base : Nat) (e : TypeId) (i : TypeInfo) (z : Value) (size bytes : Nat) (ht : Try.prog.underlying t = some (.slice e)) (hi : Try.prog.info? e = some i) (hz : i.zero = some z)
    (hsize : i.size = size) (hby : i.bytes = bytes) (hzs : z.cells.size = size) (hsz : 0 < size)
    (v : Value) (n : Nat) (xs : List Value) (hs : a.eval s = v) (hown : w.ownsRow base e size v n xs)
    (xo : Option Addr) (m c : Nat) (news : List Value) (hx : a.eval x = .slice xo m c) (hnil : xo = none → m = 0 ∧ c = 0) (hl : news.length = m * size) (hnews : ∀ ad, xo = some ad → ∀ j u, news[j]? = some u → w.cell? (ad.add j) = some u) (h1 : ∀ u ∈ news, u.oneCell' = true)
    (h63 : n + m ≤ maxLen) (hbytes : ((n + m) + (n + m) / 4 + 192) * bytes ≤ 281474976710656) (hbase : base ≤ w.heap.size)
    (h : ∀ v' w', w'.ownsRow base e size v' (n + m) (xs ++ news) → w.grownBy w' v.ownBlock → K (a.put o.dst v') w') :
    if Region.wanted o (yielded ops a.tmps) = true then Oper.wp Try.prog o a w K Q else E := by
  have hw : Region.wanted o (yielded ops a.tmps) = true := by simp [Region.wanted, hg]
  rw [if_pos hw]
  cases xo with
  | some ad => exact wp_append_own_wide w s x t ho base e i z size bytes ht hi hz hsize hby hzs hsz v n xs hs hown ad m c news hx hl (hnews ad rfl) h1 h63 hbytes hbase fun v' w' h2 h3 _ => h v' w' h2 h3
  | none =>
    obtain ⟨rfl, rfl⟩ := hnil rfl
    have hn0 : news = [] := List.eq_nil_of_length_eq_zero (by simpa using hl)
    subst hn0
    have hrun := run_append_owned_none (P := Try.prog) (w := w) base t o.type e i size ht hi v n xs hown
    have hk := h v w (by simpa using hown) ⟨rfl, rfl, rfl, Nat.le_refl _, fun _ _ _ => rfl⟩
    unfold Oper.wp
    simp [execOp, ho, resolve, invoke, builtin, hs, hx, hrun, Result.andThen]
    exact hk
theorem infoActD : (Try.prog.info? 52).map (fun i => (i.zero, i.size, i.bytes)) = some (some (.agg #[.int .i64 0, .int .i64 0]), 2, 16) := by kernel_rfl
theorem infoIntD : (Try.prog.info? 3).map (fun i => (i.zero, i.size, i.bytes)) = some (some (.int .i64 0), 1, 8) := by kernel_rfl
theorem infoRowAD : (Try.prog.info? 56).map (fun i => (i.zero, i.size, i.bytes)) = some (some (.slice none 0 0), 1, 24) := by kernel_rfl
theorem infoRowID : (Try.prog.info? 24).map (fun i => (i.zero, i.size, i.bytes)) = some (some (.slice none 0 0), 1, 24) := by kernel_rfl
/-- A box beside a row that grows. -/
theorem box_under {X Y : World} {B e s n b : Nat} {v : Value} {xs : List Value} {cs : Array Value} {t : TypeId} (h : X.ownsRow B e s v n xs) (hb : X.heap[b]? = some (.cells cs t (0, 0))) (ht : t ≠ e) (hg : X.grownBy Y v.ownBlock) : Y.heap[b]? = some (.cells cs t (0, 0)) := by
  refine (hg.block b (Array.getElem?_eq_some_iff.1 hb).1 fun e2 => ?_).trans hb
  rcases h.2 with ⟨hv, _⟩ | ⟨g, cap, cur, hv, _, hh, _⟩
  · rw [hv] at e2; simp [Value.ownBlock] at e2
  · rw [hv] at e2
    have e3 : b = g := by simpa [Value.ownBlock] using e2
    subst e3
    rw [hb] at hh
    simp only [Option.some.injEq, Obj.cells.injEq] at hh
    exact ht hh.2.1
/-- The heads of rows. -/
def headsD (K : Nat) (L : Nat → Nat) (ua : Nat → Option Addr) (uc : Nat → Nat) : List Value := (List.range K).map fun j => .slice (ua j) (L j) (uc j)
theorem headsD_at {K j : Nat} (L : Nat → Nat) (ua : Nat → Option Addr) (uc : Nat → Nat) (hj : j < K) : (headsD K L ua uc)[j]? = some (.slice (ua j) (L j) (uc j)) := by unfold headsD; simp [hj]
theorem headsD_snoc (K : Nat) (L : Nat → Nat) (ua : Nat → Option Addr) (uc : Nat → Nat) (a : Option Addr) (c : Nat) : headsD (K + 1) L (upZ ua K a) (upZ uc K c) = headsD K L ua uc ++ [.slice a (L K) c] := by
  unfold headsD
  rw [List.range_succ, List.map_append]
  congr 1
  · refine List.map_congr_left fun j hj => ?_
    have : j ≠ K := by have := List.mem_range.1 hj; omega
    rw [upZ_other _ _ this, upZ_other _ _ this]
  · simp [upZ_same]
/-- Rows of one's own under way: K of them. -/
structure LvP (X : World) (B : Nat) (t1 t2 : TypeId) (s : Nat) (ka : Option Addr) (kc K : Nat) (L : Nat → Nat) (xs : Nat → List Value) (ua : Nat → Option Addr) (uc : Nat → Nat) : Prop where
  out : X.ownsRow B t1 1 (.slice ka K kc) K (headsD K L ua uc)
  inn : ∀ j, j < K → X.ownsRow B t2 s (.slice (ua j) (L j) (uc j)) (L j) (xs j)
section
variable {X Y : World} {B : Nat} {t1 t2 : TypeId} {s : Nat} {ka : Option Addr} {kc K : Nat} {L : Nat → Nat} {xs : Nat → List Value} {ua : Nat → Option Addr} {uc : Nat → Nat}
theorem LvP.nothing (X : World) (B : Nat) (t1 t2 : TypeId) (s : Nat) (L : Nat → Nat) (xs : Nat → List Value) : LvP X B t1 t2 s none 0 0 L xs (fun _ => .none) (fun _ => 0) := ⟨World.ownsRow_nil _ _ _ _, fun _ h => absurd h (Nat.not_lt_zero _)⟩
theorem LvP.kept (h : LvP X B t1 t2 s ka kc K L xs ua uc) (hg : X.grownBy Y none) : LvP Y B t1 t2 s ka kc K L xs ua uc := ⟨keep0 h.out hg, fun j hj => keep0 (h.inn j hj) hg⟩
theorem LvP.box {b : Nat} {cs : Array Value} {t : TypeId} (h : LvP X B t1 t2 s ka kc K L xs ua uc) (hb : X.heap[b]? = some (.cells cs t (0, 0))) (h1 : t ≠ t1) (h2 : t ≠ t2) (hg : X.grownBy Y (some b)) : LvP Y B t1 t2 s ka kc K L xs ua uc := ⟨row_beside h.out hb h1 hg, fun j hj => row_beside (h.inn j hj) hb h2 hg⟩
/-- Beside a row of another kind that grows. -/
theorem LvP.beside {B' e' s' n' : Nat} {v' : Value} {ys : List Value} (h : LvP X B t1 t2 s ka kc K L xs ua uc) (ho : X.ownsRow B' e' s' v' n' ys) (h1 : e' ≠ t1) (h2 : e' ≠ t2) (hg : X.grownBy Y v'.ownBlock) : LvP Y B t1 t2 s ka kc K L xs ua uc := ⟨row_row h.out ho h1 hg, fun j hj => row_row (h.inn j hj) ho h2 hg⟩
theorem LvP.push {ka' : Option Addr} {kc' : Nat} {a : Option Addr} {c : Nat} (h : LvP X B t1 t2 s ka kc K L xs ua uc) (h12 : t1 ≠ t2) (hr : X.ownsRow B t2 s (.slice a (L K) c) (L K) (xs K)) (hg : X.grownBy Y (Value.slice ka K kc).ownBlock) (ho : Y.ownsRow B t1 1 (.slice ka' (K + 1) kc') (K + 1) (headsD K L ua uc ++ [.slice a (L K) c])) : LvP Y B t1 t2 s ka' kc' (K + 1) L xs (upZ ua K a) (upZ uc K c) := by
  refine ⟨by rw [headsD_snoc]; exact ho, fun j hj => ?_⟩
  by_cases e : j = K
  · subst e
    rw [upZ_same, upZ_same]
    exact row_row hr h.out h12 hg
  · rw [upZ_other _ _ e, upZ_other _ _ e]
    exact row_row (h.inn j (by omega)) h.out h12 hg
theorem LvP.heads (h : LvP X B t1 t2 s ka kc K L xs ua uc) : K = 0 ∨ ∃ g, ka = some ⟨g, 0, .none⟩ ∧ ∀ i, i < K → X.cell? ⟨g, 0 + i, .none⟩ = some (.slice (ua i) (L i) (uc i)) := by
  by_cases e : K = 0
  · exact .inl e
  · obtain ⟨g, c, hg, hc⟩ := owns_at h.out (by omega)
    simp only [Value.slice.injEq] at hg
    exact .inr ⟨g, hg.1, fun i hi => by rw [Nat.zero_add]; exact hc i _ (headsD_at L ua uc hi)⟩
end
theorem owned_itsD {X : World} {B n c : Nat} {t : TypeId} {a : Option Addr} {l : List It} (h : X.ownsRow B t 2 (.slice a n c) n (itsV l)) (hn : n = l.length) : ItsAt X a l := by
  by_cases e : l = []
  · exact .inl e
  · rcases h.2 with ⟨hv, h0⟩ | ⟨g, cap, cur, hv, _, hh, _, _, hs, ht⟩
    · have : l.length = 0 := by omega
      exact absurd (List.eq_nil_of_length_eq_zero this) e
    · simp only [Value.slice.injEq] at hv
      refine .inr ⟨g, 0, hv.1, fun i hi => ?_⟩
      rw [hv.1] at h
      have h1 := itsV_at l i hi
      exact ⟨by rw [Nat.zero_add]; exact owns_cell h h1.1, by rw [Nat.zero_add]; exact owns_cell h h1.2⟩
theorem owned_nil {X : World} {B e s n c : Nat} {xs : List Value} (h : X.ownsRow B e s (.slice none n c) n xs) : n = 0 ∧ c = 0 := by
  rcases h.2 with ⟨hv, h0⟩ | ⟨g, cap, cur, hv, _⟩
  · simp only [Value.slice.injEq, true_and] at hv
    omega
  · simp at hv
theorem owned_intsD {X : World} {B n c : Nat} {t : TypeId} {a : Option Addr} {l : List Int} (h : X.ownsRow B t 1 (.slice a n c) n (zV l)) (hn : n = l.length) : IntsAt X a l := by
  by_cases e : l = []
  · exact .inl e
  · rcases h.2 with ⟨hv, h0⟩ | ⟨g, cap, cur, hv, _, hh, _, _, hs, ht⟩
    · have : l.length = 0 := by omega
      exact absurd (List.eq_nil_of_length_eq_zero this) e
    · simp only [Value.slice.injEq] at hv
      refine .inr ⟨g, 0, hv.1, fun i hi => ?_⟩
      rw [hv.1] at h
      rw [Nat.zero_add]
      exact owns_cell h (zV_at hi)
theorem LvP.rs {X : World} {B : Nat} {t1 t2 : TypeId} {ka : Option Addr} {kc K : Nat} {R : Nat → List It} {ua : Nat → Option Addr} {uc : Nat → Nat} (h : LvP X B t1 t2 2 ka kc K (fun j => (R j).length) (fun j => itsV (R j)) ua uc) : RsAt X ka K R ua uc := by
  refine ⟨?_, fun i hi => owned_itsD (h.inn i hi) rfl⟩
  rcases h.heads with e | ⟨g, e, hc⟩
  · exact .inl e
  · exact .inr ⟨g, 0, e, hc⟩
theorem LvP.ri {X : World} {B : Nat} {t1 t2 : TypeId} {ka : Option Addr} {kc K : Nat} {Q : Nat → List Int} {ua : Nat → Option Addr} {uc : Nat → Nat} (h : LvP X B t1 t2 1 ka kc K (fun j => (Q j).length) (fun j => zV (Q j)) ua uc) : RiAt X ka K Q ua uc := by
  refine ⟨?_, fun i hi => owned_intsD (h.inn i hi) rfl⟩
  rcases h.heads with e | ⟨g, e, hc⟩
  · exact .inl e
  · exact .inr ⟨g, 0, e, hc⟩
theorem LvP.nil {X : World} {B : Nat} {t1 t2 : TypeId} {s : Nat} {ka : Option Addr} {kc K : Nat} {L : Nat → Nat} {xs : Nat → List Value} {ua : Nat → Option Addr} {uc : Nat → Nat} (h : LvP X B t1 t2 s ka kc K L xs ua uc) : ∀ i, i < K → ua i = .none → L i = 0 ∧ uc i = 0 := fun i hi e => by
  have h1 := h.inn i hi
  rw [e] at h1
  exact owned_nil h1

end Go.Proofs.Ytgmljpkenipgjaa.J

/-
  pack: helpers for the document's Pack.
-/
namespace Go.Proofs.Ytgmljpkenipgjaa.J
open Go.RowKit Go.Maps Go.Shelf Pk

/-- The productions by which a list reduces. -/
def byF (l : List It) : List Int := (l.filter fun e => e.1 == 2).map (·.2)
/-- Is an action told by an edge? As the document asks. -/
theorem keepA_doc (m kind tv : Int) : keepA m (kind, tv) = true ↔ kind ≠ 0 ∧ (kind ≠ 2 ∨ tv ≠ m) := by
  unfold keepA
  by_cases h0 : kind = 0 <;> by_cases h2 : kind = 2 <;> by_cases h3 : tv = m <;> simp [h0, h2, h3]
theorem rowT_snoc (m : Int) (l : List It) (j : Nat) : rowT m l (j + 1) = rowT m l j ++ (if keepA m (l.getD j (0, 0)) = true then [((j : Int), codeF (l.getD j (0, 0)).1 (l.getD j (0, 0)).2)] else []) := rfl

end Go.Proofs.Ytgmljpkenipgjaa.J

/-
  pack: the document's Pack: the rows of actions: a loop as a declaration of its own (printed by tools/pk_rpa.py).
-/
namespace Go.Proofs.Ytgmljpkenipgjaa.J
open Go.RowKit Go.Maps Go.Shelf Pk

attribute [local go_sem] Oper.semAt_some

noncomputable def rpA : Code := ((Try.f20.body.map loopsJ).getD []).getD 0 .skip

end Go.Proofs.Ytgmljpkenipgjaa.J
