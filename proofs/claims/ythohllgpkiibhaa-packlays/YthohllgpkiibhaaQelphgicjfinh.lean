import Derived.Test.YthohllgpkiibhaaQjoklfjpaagkc
import Derived.Test.YthohllgpkiibhaaQhbohafeoccid
import Derived.Test.YthohllgpkiibhaaQhbigobfdhppc
import Derived.Test.YthohllgpkiibhaaQggpjjcdpldmg

/-
  pack: the chapter's example, as the laws hold it.
-/
namespace Go.Proofs.Ythohllgpkiibhaa.J
open Go.RowKit Go.Maps Go.Shelf Pk

attribute [local go_sem] Oper.semAt_some

/-- The example's rows. -/
def awR (i : Nat) : List It := if i = 0 then [(0, 7), (2, 8)] else if i = 2 then [(0, 5), (1, 6), (2, 4)] else if i = 3 then [(1, 9)] else []
theorem aw_lay : lay awR 4 = ⟨[3, 0, 0, 3], [2, 2, 2, 0, 3, 0], [5, 6, 4, 7, 9, 8]⟩ := by kernel_rfl
theorem aw_at : atF [3, 0, 0, 3] [5, 6, 4, 7, 9, 8] [2, 2, 2, 0, 3, 0] 0 2 = (8, true) := by decide
theorem aw_row (i : Nat) (h : i < 4) : IsRow (awR i) := by
  match i, h with
  | 0, _ => exact ⟨by decide, by decide, by decide⟩
  | 1, _ => exact ⟨by decide, by decide, by decide⟩
  | 2, _ => exact ⟨by decide, by decide, by decide⟩
  | 3, _ => exact ⟨by decide, by decide, by decide⟩
theorem aw_may : MayLay 4 awR := ⟨by decide, aw_row⟩
theorem heap_new {w : World} {o : Obj} {k : Nat} (h : k = w.heap.size) : (w.alloc o).heap[k]? = some o := by
  subst h
  exact heap_alloc_last w o
theorem heap_old {w : World} {o x : Obj} {k : Nat} (h : w.heap[k]? = some x) : (w.alloc o).heap[k]? = some x :=
  (heap_alloc_old w o (Array.getElem?_eq_some_iff.1 h).1).trans h
theorem ints_litP {X : World} {b : Nat} (l : List Int) (h : X.heap[b]? = some (.cells (l.map (Value.int .i64)).toArray 3 (0, 0))) : IntsAt X (some ⟨b, 0, none⟩) l := .inr ⟨b, 0, rfl, fun i hi => by
  rw [cell_of_row _ _ _ _ _ _ h]
  simp [hi, List.getD_eq_getElem?_getD]⟩
/-- The example's rows in memory. -/
def awW (w : World) : World := (((w.alloc (.cells #[.int .i64 0, .int .i64 7, .int .i64 2, .int .i64 8] 60)).alloc (.cells #[.int .i64 0, .int .i64 5, .int .i64 1, .int .i64 6, .int .i64 2, .int .i64 4] 60)).alloc (.cells #[.int .i64 1, .int .i64 9] 60)).alloc (.cells #[.slice (some ⟨w.heap.size, 0, none⟩) 2 2, .slice none 0 0, .slice (some ⟨w.heap.size + 1, 0, none⟩) 3 3, .slice (some ⟨w.heap.size + 1 + 1, 0, none⟩) 1 1] 58)
def awA (w : World) (i : Nat) : Option Addr := if i = 0 then some ⟨w.heap.size, 0, none⟩ else if i = 2 then some ⟨w.heap.size + 1, 0, none⟩ else if i = 3 then some ⟨w.heap.size + 1 + 1, 0, none⟩ else none
theorem awW_grown (w : World) : w.grownBy (awW w) none := grown_trans (grown_trans (grown_trans (World.grownBy_alloc _ _ none) (World.grownBy_alloc _ _ none)) (World.grownBy_alloc _ _ none)) (World.grownBy_alloc _ _ none)
theorem awW_rows (w : World) : RsAt (awW w) (some ⟨w.heap.size + 1 + 1 + 1, 0, none⟩) 4 awR (awA w) (fun i => (awR i).length) := by
  have hd : (awW w).heap[w.heap.size + 1 + 1 + 1]? = some (.cells #[.slice (some ⟨w.heap.size, 0, none⟩) 2 2, .slice none 0 0, .slice (some ⟨w.heap.size + 1, 0, none⟩) 3 3, .slice (some ⟨w.heap.size + 1 + 1, 0, none⟩) 1 1] 58 (0, 0)) := heap_new (by simp)
  have h0 : (awW w).heap[w.heap.size]? = some (.cells #[.int .i64 0, .int .i64 7, .int .i64 2, .int .i64 8] 60 (0, 0)) := heap_old (heap_old (heap_old (heap_new rfl)))
  have h2 : (awW w).heap[w.heap.size + 1]? = some (.cells #[.int .i64 0, .int .i64 5, .int .i64 1, .int .i64 6, .int .i64 2, .int .i64 4] 60 (0, 0)) := heap_old (heap_old (heap_new (by simp)))
  have h3 : (awW w).heap[w.heap.size + 1 + 1]? = some (.cells #[.int .i64 1, .int .i64 9] 60 (0, 0)) := heap_old (heap_new (by simp))
  refine ⟨.inr ⟨_, 0, rfl, fun i hi => ?_⟩, fun i hi => ?_⟩
  · rw [cell_of_row _ _ _ _ _ _ hd]
    match i, hi with
    | 0, _ => rfl
    | 1, _ => rfl
    | 2, _ => rfl
    | 3, _ => rfl
  · match i, hi with
    | 0, _ => exact .inr ⟨_, 0, rfl, fun j hj => by
        rw [cell_of_row _ _ _ _ _ _ h0, cell_of_row _ _ _ _ _ _ h0]
        match j, hj with
        | 0, _ => exact ⟨rfl, rfl⟩
        | 1, _ => exact ⟨rfl, rfl⟩⟩
    | 1, _ => exact .inl rfl
    | 2, _ => exact .inr ⟨_, 0, rfl, fun j hj => by
        rw [cell_of_row _ _ _ _ _ _ h2, cell_of_row _ _ _ _ _ _ h2]
        match j, hj with
        | 0, _ => exact ⟨rfl, rfl⟩
        | 1, _ => exact ⟨rfl, rfl⟩
        | 2, _ => exact ⟨rfl, rfl⟩⟩
    | 3, _ => exact .inr ⟨_, 0, rfl, fun j hj => by
        rw [cell_of_row _ _ _ _ _ _ h3, cell_of_row _ _ _ _ _ _ h3]
        match j, hj with
        | 0, _ => exact ⟨rfl, rfl⟩⟩

set_option maxRecDepth 100000 in
set_option maxHeartbeats 2000000 in
theorem aw_ok : AwOk := fun w => by
  have HL := hidP (layM_any (some ⟨w.heap.size + 1 + 1 + 1, 0, none⟩) 4 4 awR (awA w) (fun i => (awR i).length) (awW w) (awW_rows w) (by decide) (fun i hi => Nat.le_trans (aw_row i hi).1 (by decide)))
  have HGW := hidP (awW_grown w)
  obtain ⟨W, hW⟩ : ∃ W, W = awW w := ⟨_, rfl⟩
  rw [← hW] at HL HGW
  unfold awW at hW
  go_enter Try.func15, Try.ntmps15
  go_wp2_with fail
  rw [← hW]
  clear hW
  refine Calls.mono HL.out ?_
  rintro e y (⟨h1, -, -⟩ | ⟨-, ua, uc, rfl, hT, hy⟩)
  · exact absurd aw_may h1
  rw [aw_lay] at hT ⊢
  have HI : Hid (∀ X, y.grownBy X none → RwsAt X (ua 0) (ua 1) (ua 2) [3, 0, 0, 3] [5, 6, 4, 7, 9, 8] [2, 2, 2, 0, 3, 0]) := fun X hX => ⟨(hT.kept hX).ints (j := 0) (by decide), (hT.kept hX).ints (j := 1) (by decide), (hT.kept hX).ints (j := 2) (by decide)⟩
  have HY : Hid (w.grownBy y none) := grown_trans HGW.out hy
  clear hT hy HL HGW
  obtain ⟨a0, ha0⟩ : ∃ v, v = ua 0 := ⟨_, rfl⟩
  obtain ⟨a1, ha1⟩ : ∃ v, v = ua 1 := ⟨_, rfl⟩
  obtain ⟨a2, ha2⟩ : ∃ v, v = ua 2 := ⟨_, rfl⟩
  obtain ⟨c0, hc0⟩ : ∃ v, v = uc 0 := ⟨_, rfl⟩
  obtain ⟨c1, hc1⟩ : ∃ v, v = uc 1 := ⟨_, rfl⟩
  obtain ⟨c2, hc2⟩ : ∃ v, v = uc 2 := ⟨_, rfl⟩
  rw [← ha0, ← ha1, ← ha2] at HI
  rw [← ha0, ← ha1, ← ha2, ← hc0, ← hc1, ← hc2]
  clear ha0 ha1 ha2 hc0 hc1 hc2
  have HAT : Hid (∀ X, y.grownBy X none → Calls Try.prog 16 #[.agg #[.slice a0 4 c0, .slice a1 6 c1, .slice a2 6 c2], .int .i64 0, .int .i64 2] X fun e z => e = .returned (.tuple #[.int .i64 8, .bool true]) ∧ X.grownBy z none) := fun X hX => by
    have h := pkAt_any a0 a1 a2 c0 c1 c2 [3, 0, 0, 3] [5, 6, 4, 7, 9, 8] [2, 2, 2, 0, 3, 0] 0 2 X (HI.out X hX).1 (HI.out X hX).2.1 (HI.out X hX).2.2 (by decide) (by decide) (by decide)
    rw [aw_at] at h
    exact h
  have HSA : Hid (∀ X b0 b1 b2, y.grownBy X none → X.heap[b0]? = some (.cells (([3, 0, 0, 3] : List Int).map (Value.int .i64)).toArray 3 (0, 0)) → X.heap[b1]? = some (.cells (([5, 6, 4, 7, 9, 8] : List Int).map (Value.int .i64)).toArray 3 (0, 0)) → X.heap[b2]? = some (.cells (([2, 2, 2, 0, 3, 0] : List Int).map (Value.int .i64)).toArray 3 (0, 0)) → Calls Try.prog 12 #[.agg #[.slice a0 4 c0, .slice a1 6 c1, .slice a2 6 c2], .agg #[.slice (some ⟨b0, 0, none⟩) 4 4, .slice (some ⟨b1, 0, none⟩) 6 6, .slice (some ⟨b2, 0, none⟩) 6 6]] X fun e z => e = .returned (.bool true) ∧ X.grownBy z none) := fun X b0 b1 b2 hX h0 h1 h2 =>
    rpSameRows_same a0 a1 a2 _ _ _ c0 c1 c2 4 6 6 [3, 0, 0, 3] [5, 6, 4, 7, 9, 8] [2, 2, 2, 0, 3, 0] X (HI.out X hX) ⟨ints_litP _ h0, ints_litP _ h1, ints_litP _ h2⟩ (by decide) (by decide) (by decide)
  have HB : Hid (∀ X, (y.alloc (.cells #[.slice a0 4 c0, .slice a1 6 c1, .slice a2 6 c2] 26)).grownBy X none → X.heap[y.heap.size]? = some (.cells #[.slice a0 4 c0, .slice a1 6 c1, .slice a2 6 c2] 26 (0, 0))) := fun X hX => box_kept (heap_alloc_last y _) hX
  clear HI
  go_wp2_with fail
  refine Calls.mono (HAT.out _ (World.grownBy_alloc _ _ none)) ?_
  rintro e z ⟨rfl, hz⟩
  have b := HB.out z hz
  have q0 : z.cell? ⟨y.heap.size, 0, none⟩ = some (.slice a0 4 c0) := by rw [cell_of_row _ _ _ _ _ _ b]; rfl
  have q1 : z.cell? ⟨y.heap.size, 1, none⟩ = some (.slice a1 6 c1) := by rw [cell_of_row _ _ _ _ _ _ b]; rfl
  have q2 : z.cell? ⟨y.heap.size, 2, none⟩ = some (.slice a2 6 c2) := by rw [cell_of_row _ _ _ _ _ _ b]; rfl
  have HZ : Hid (y.grownBy z none) := grown_trans (World.grownBy_alloc _ _ none) hz
  clear hz b HAT HB
  go_wp2_with fail
  refine Calls.mono (HSA.out _ _ _ _ (grown_trans (grown_trans (grown_trans HZ.out (World.grownBy_alloc _ _ none)) (World.grownBy_alloc _ _ none)) (World.grownBy_alloc _ _ none)) (heap_old (heap_old (heap_new rfl))) (heap_old (heap_new (by simp))) (heap_new (by simp))) ?_
  rintro e u ⟨rfl, hu⟩
  have HU : Hid (w.grownBy u none) := grown_trans (grown_trans HY.out (grown_trans (grown_trans (grown_trans HZ.out (World.grownBy_alloc _ _ none)) (World.grownBy_alloc _ _ none)) (World.grownBy_alloc _ _ none))) hu
  clear hu
  go_wp2_with fail
  go_ret
  exact ⟨rfl, HU.out⟩

end Go.Proofs.Ythohllgpkiibhaa.J

/-
  pack: the law on Lay.
-/
namespace Go.Proofs.Ythohllgpkiibhaa.J
open Go.RowKit Go.Maps Go.Shelf Pk

attribute [local go_sem] Oper.semAt_some

open Classical in
/-- The rows that Lay tells: bases, values, owners. -/
noncomputable def QL (R : Nat → List It) (N : Nat) : Nat → List Int := if MayLay N R then lyS (lay R N) else fun _ => []
open Classical in
/-- What Lay tells besides. -/
noncomputable def eL (R : Nat → List It) (N : Nat) : Int := if MayLay N R then 0 else 1
theorem QL_len (R : Nat → List It) (N : Nat) : ∀ j, j < 3 → (QL R N j).length ≤ 1048576 := fun j hj => by
  unfold QL
  split
  · rename_i h
    obtain ⟨⟨h1, h2, h3⟩, _⟩ := stK_ok R N h (ordA R N).length (Nat.le_refl _)
    rw [stK_all] at h1 h2 h3
    rw [ordA_len R N h] at h3
    have hN := h.1
    have h4 : N * 256 ≤ 256 * 256 := Nat.mul_le_mul_right _ hN
    match j, hj with
    | 0, _ => show (lay R N).bs.length ≤ _; omega
    | 1, _ => show (lay R N).va.length ≤ _; omega
    | 2, _ => show (lay R N).ow.length ≤ _; omega
  · exact Nat.zero_le _
theorem lay_uni {N : Nat} {R : Nat → List It} {w y : World} {e : Ending} (h : LayTold N R w e y) : ∃ (ua : Nat → Option Addr) (uc : Nat → Nat), e = .returned (.tuple #[.agg #[.slice (ua 0) (QL R N 0).length (uc 0), .slice (ua 1) (QL R N 1).length (uc 1), .slice (ua 2) (QL R N 2).length (uc 2)], .int .i64 (eL R N)]) ∧ TrZ y w.heap.size 3 (QL R N) ua uc ∧ w.grownBy y none := by
  rcases h with ⟨h1, rfl, h3⟩ | ⟨h1, ua, uc, rfl, h3, h4⟩
  · refine ⟨fun _ => none, fun _ => 0, ?_, ⟨fun j _ => ?_, fun i j _ _ _ => .inl rfl⟩, h3⟩
    · unfold QL eL
      rw [if_neg h1, if_neg h1]
      rfl
    · unfold QL
      rw [if_neg h1]
      exact World.ownsRow_nil _ _ _ _
  · refine ⟨ua, uc, ?_, ?_, h4⟩
    · unfold QL eL
      rw [if_pos h1, if_pos h1]
      rfl
    · unfold QL
      rw [if_pos h1]
      exact h3
theorem TrZ.up {X Z : World} {B hi n : Nat} {Q : Nat → List Int} {ua : Nat → Option Addr} {uc : Nat → Nat} (h : TrZ Z B n Q ua uc) (hB : hi ≤ B) (hu : ∀ b, hi ≤ b → b < Z.heap.size → X.heap[b]? = Z.heap[b]?) : TrZ X B n Q ua uc := ⟨fun j hj => by
  obtain ⟨h1, h2⟩ := h.inn j hj
  refine ⟨h1, ?_⟩
  rcases h2 with h2 | ⟨g, cap, cur, a, b, hh, c⟩
  · exact .inl h2
  · exact .inr ⟨g, cap, cur, a, b, by rw [hu g (Nat.le_trans hB b) (Array.getElem?_eq_some_iff.1 hh).1]; exact hh, c⟩, h.sep⟩
theorem TrZ.rws {X : World} {B : Nat} {Q : Nat → List Int} {ua : Nat → Option Addr} {uc : Nat → Nat} (h : TrZ X B 3 Q ua uc) : RwsAt X (ua 0) (ua 1) (ua 2) (Q 0) (Q 1) (Q 2) := ⟨h.ints (by decide), h.ints (by decide), h.ints (by decide)⟩

set_option maxRecDepth 100000 in
set_option maxHeartbeats 8000000 in
theorem lays_core (a : Option Addr) (N c : Nat) (R : Nat → List It) (la : Nat → Option Addr) (lc : Nat → Nat) (w : World) (hR : RsAt w a N R la lc) (hnil : ∀ i, i < N → la i = none → (R i).length = 0 ∧ lc i = 0) (hN : N ≤ 1048576) (hl : ∀ i, i < N → (R i).length ≤ 1048576) :
    Calls Try.prog 3 #[.slice a N c] w fun e y => e = .returned (.bool true) ∧ w.grownBy y none := by
  have HR : Hid (∀ X, w.grownBy X none → RsAt X a N R la lc) := fun X hX => hR.kept hX
  have HLL := hidP hl
  have HN := hidP hN
  have HLN := hidP (lentRows_any w N a c R la lc hR hnil hN hl)
  have HAW := hidP aw_ok
  obtain ⟨Q, hQ⟩ : ∃ Q, Q = QL R N := ⟨_, rfl⟩
  have HQ : Hid (Q = QL R N) := hQ
  have HQL : Hid (∀ j, j < 3 → (Q j).length ≤ 1048576) := by rw [hQ]; exact QL_len R N
  obtain ⟨ev, hev⟩ : ∃ v, v = eL R N := ⟨_, rfl⟩
  have HEV : Hid (ev = eL R N) := hev
  have HLM : Hid (∀ X ka kc ua uc, RsAt X ka N R ua uc → Calls Try.prog 10 #[.slice ka N kc] X fun e y => ∃ (va : Nat → Option Addr) (vc : Nat → Nat), e = .returned (.tuple #[.agg #[.slice (va 0) (Q 0).length (vc 0), .slice (va 1) (Q 1).length (vc 1), .slice (va 2) (Q 2).length (vc 2)], .int .i64 ev]) ∧ TrZ y X.heap.size 3 Q va vc ∧ X.grownBy y none) := fun X ka kc ua uc hX => by
    rw [hQ, hev]
    exact (layM_any ka N kc R ua uc X hX (by omega) (fun i hi => by have := hl i hi; omega)).mono fun e y h => lay_uni h
  have HLD : Hid (∀ X, w.grownBy X none → Calls Try.prog 11 #[.slice a N c] X fun e y => ∃ (va : Nat → Option Addr) (vc : Nat → Nat), e = .returned (.tuple #[.agg #[.slice (va 0) (Q 0).length (vc 0), .slice (va 1) (Q 1).length (vc 1), .slice (va 2) (Q 2).length (vc 2)], .int .i64 ev]) ∧ TrZ y X.heap.size 3 Q va vc ∧ X.grownBy y none) := fun X hX => by
    rw [hQ, hev]
    exact (rpLay_any a N c R la lc X (hR.kept hX) (by omega) (fun i hi => by have := hl i hi; omega)).mono fun e y h => lay_uni h
  have e0 : (ev != ev) = false := bne_self_eq_false _
  have e1 : (ev == ev) = true := beq_self_eq_true _
  clear hR hnil hN hl hQ hev
  go_enter Try.func3, Try.ntmps3
  go_wp2_with fail
  refine Calls.mono HLN.out ?_
  rintro e y1 ⟨ka, kc, ua, uc, rfl, hP1, hg1⟩
  have HP1 := hidP hP1
  have HG1 := hidP hg1
  have HC1 := hidP (HLM.out y1 ka kc ua uc hP1.rs.1)
  clear hP1 hg1
  go_wp2_with fail
  refine Calls.mono HC1.out ?_
  rintro e y2 ⟨va, vc, rfl, hT2, hg2⟩
  have HT2 := hidP hT2
  have HG2 := hidP hg2
  clear hT2 hg2 HC1
  obtain ⟨n0, hn0⟩ : ∃ v, v = (Q 0).length := ⟨_, rfl⟩
  obtain ⟨n1, hn1⟩ : ∃ v, v = (Q 1).length := ⟨_, rfl⟩
  obtain ⟨n2, hn2⟩ : ∃ v, v = (Q 2).length := ⟨_, rfl⟩
  have HNS : Hid (n0 = (Q 0).length ∧ n1 = (Q 1).length ∧ n2 = (Q 2).length) := ⟨hn0, hn1, hn2⟩
  rw [← hn0, ← hn1, ← hn2] at HLM HLD ⊢
  clear hn0 hn1 hn2
  obtain ⟨a0, ha0⟩ : ∃ v, v = va 0 := ⟨_, rfl⟩
  obtain ⟨a1, ha1⟩ : ∃ v, v = va 1 := ⟨_, rfl⟩
  obtain ⟨a2, ha2⟩ : ∃ v, v = va 2 := ⟨_, rfl⟩
  obtain ⟨c0, hc0⟩ : ∃ v, v = vc 0 := ⟨_, rfl⟩
  obtain ⟨c1, hc1⟩ : ∃ v, v = vc 1 := ⟨_, rfl⟩
  obtain ⟨c2, hc2⟩ : ∃ v, v = vc 2 := ⟨_, rfl⟩
  have HVA : Hid (a0 = va 0 ∧ a1 = va 1 ∧ a2 = va 2 ∧ c0 = vc 0 ∧ c1 = vc 1 ∧ c2 = vc 2) := ⟨ha0, ha1, ha2, hc0, hc1, hc2⟩
  rw [← ha0, ← ha1, ← ha2, ← hc0, ← hc1, ← hc2]
  clear ha0 ha1 ha2 hc0 hc1 hc2
  -- the box of r
  obtain ⟨Z2, hZ2⟩ : ∃ Z, Z = y2.alloc (.cells #[.slice a0 n0 c0, .slice a1 n1 c1, .slice a2 n2 c2] 26) := ⟨_, rfl⟩
  have HB2 : Hid (Z2.heap[y2.heap.size]? = some (.cells #[.slice a0 n0 c0, .slice a1 n1 c1, .slice a2 n2 c2] 26 (0, 0))) := by show _ = _; rw [hZ2]; exact heap_alloc_last y2 _
  have HA2 : Hid (y2.grownBy Z2 none) := by show y2.grownBy Z2 none; rw [hZ2]; exact World.grownBy_alloc _ _ none
  have HSZ2 : Hid (Z2.heap.size = y2.heap.size + 1) := by show _ = _; rw [hZ2]; simp
  have HGZ2 : Hid (w.grownBy Z2 none) := grown_trans (grown_trans HG1.out HG2.out) HA2.out
  obtain ⟨rbx, hrbx⟩ : ∃ v, v = y2.heap.size := ⟨_, rfl⟩
  have HRB : Hid (rbx = y2.heap.size) := hrbx
  go_wp2_with fail
  rw [← hZ2, ← hrbx]
  rw [← hrbx] at HB2
  clear hZ2 hrbx
  refine Calls.mono (HLD.out Z2 HGZ2.out) ?_
  rintro e y3 ⟨xa, xc, rfl, hT3, hg3⟩
  have HT3 := hidP hT3
  have HG3 := hidP hg3
  clear hT3 hg3
  obtain ⟨x0, hx0⟩ : ∃ v, v = xa 0 := ⟨_, rfl⟩
  obtain ⟨x1, hx1⟩ : ∃ v, v = xa 1 := ⟨_, rfl⟩
  obtain ⟨x2, hx2⟩ : ∃ v, v = xa 2 := ⟨_, rfl⟩
  obtain ⟨d0, hd0⟩ : ∃ v, v = xc 0 := ⟨_, rfl⟩
  obtain ⟨d1, hd1⟩ : ∃ v, v = xc 1 := ⟨_, rfl⟩
  obtain ⟨d2, hd2⟩ : ∃ v, v = xc 2 := ⟨_, rfl⟩
  have HXA : Hid (x0 = xa 0 ∧ x1 = xa 1 ∧ x2 = xa 2 ∧ d0 = xc 0 ∧ d1 = xc 1 ∧ d2 = xc 2) := ⟨hx0, hx1, hx2, hd0, hd1, hd2⟩
  rw [← hx0, ← hx1, ← hx2, ← hd0, ← hd1, ← hd2]
  clear hx0 hx1 hx2 hd0 hd1 hd2
  obtain ⟨Z3, hZ3⟩ : ∃ Z, Z = y3.alloc (.cells #[.slice x0 n0 d0, .slice x1 n1 d1, .slice x2 n2 d2] 26) := ⟨_, rfl⟩
  have HB3 : Hid (∀ X : World, (∀ b, rbx < b → b < Z3.heap.size → X.heap[b]? = Z3.heap[b]?) → X.heap[y3.heap.size]? = some (.cells #[.slice x0 n0 d0, .slice x1 n1 d1, .slice x2 n2 d2] 26 (0, 0))) := fun X hX => by
    have h1 : y3.heap.size < Z3.heap.size := by rw [hZ3]; simp
    have h2 := HG3.out.size
    have h3 := HSZ2.out
    have h4 := HRB.out
    rw [hX _ (by omega) h1, hZ3]
    exact heap_alloc_last y3 _
  have HA3 : Hid (Z2.grownBy Z3 none) := by show Z2.grownBy Z3 none; rw [hZ3]; exact grown_trans HG3.out (World.grownBy_alloc _ _ none)
  have HTX3 : Hid (TrZ Z3 Z2.heap.size 3 Q xa xc) := by show TrZ _ _ _ _ _ _; rw [hZ3]; exact HT3.out.kept (World.grownBy_alloc _ _ none)
  have HGZ3 : Hid (w.grownBy Z3 none) := grown_trans HGZ2.out HA3.out
  have HTR3 : Hid (TrZ Z3 y1.heap.size 3 Q va vc) := (HT2.out.kept HA2.out).kept HA3.out
  have HSAM : Hid (∀ X (za : Nat → Option Addr) (zc : Nat → Nat) B, TrZ X B 3 Q za zc → TrZ X Z2.heap.size 3 Q xa xc → Calls Try.prog 12 #[.agg #[.slice (za 0) n0 (zc 0), .slice (za 1) n1 (zc 1), .slice (za 2) n2 (zc 2)], .agg #[.slice x0 n0 d0, .slice x1 n1 d1, .slice x2 n2 d2]] X fun e y => e = .returned (.bool true) ∧ X.grownBy y none) := fun X za zc B h1 h2 => by
    obtain ⟨q0, q1, q2⟩ := HNS.out
    obtain ⟨q3, q4, q5, q6, q7, q8⟩ := HXA.out
    have hq0 := HQL.out 0 (by decide)
    have hq1 := HQL.out 1 (by decide)
    have hq2 := HQL.out 2 (by decide)
    rw [q0, q1, q2, q3, q4, q5, q6, q7, q8]
    exact rpSameRows_same _ _ _ _ _ _ _ _ _ _ _ _ (Q 0) (Q 1) (Q 2) X h1.rws h2.rws (by omega) (by omega) (by omega)
  have HSTY : Hid (∀ X, y1.grownBy X none → Calls Try.prog 13 #[.slice ka N kc, .slice a N c] X fun e y => e = .returned (.bool true) ∧ X.grownBy y none) := fun X hX => stays_any ka a kc c N R ua la uc lc X (HP1.out.kept hX).rs.1 (HP1.out.kept hX).rs.2.1 HP1.out.rs.2.2 (HR.out X (grown_trans HG1.out hX)) HN.out HLL.out
  obtain ⟨xbx, hxbx⟩ : ∃ v, v = y3.heap.size := ⟨_, rfl⟩
  rw [← hxbx] at HB3
  have HXB : Hid (rbx < xbx ∧ xbx < Z3.heap.size) := by
    have h1 : y3.heap.size < Z3.heap.size := by rw [hZ3]; simp
    have h2 := HG3.out.size
    have h3 := HSZ2.out
    have h4 := HRB.out
    exact ⟨by omega, by omega⟩
  have HS1 : Hid (Calls Try.prog 12 #[.agg #[.slice a0 n0 c0, .slice a1 n1 c1, .slice a2 n2 c2], .agg #[.slice x0 n0 d0, .slice x1 n1 d1, .slice x2 n2 d2]] Z3 fun e y => e = .returned (.bool true) ∧ Z3.grownBy y none) := by
    have h := HSAM.out Z3 va vc _ HTR3.out HTX3.out
    obtain ⟨q0, q1, q2, q3, q4, q5⟩ := HVA.out
    rw [← q0, ← q1, ← q2, ← q3, ← q4, ← q5] at h
    exact h
  have hb2 := box_kept HB2.out HA3.out
  have hb3 := HB3.out Z3 (fun _ _ _ => rfl)
  have p0 : Z3.cell? ⟨rbx, 0, none⟩ = some (.slice a0 n0 c0) := by rw [cell_of_row _ _ _ _ _ _ hb2]; rfl
  have p1 : Z3.cell? ⟨rbx, 1, none⟩ = some (.slice a1 n1 c1) := by rw [cell_of_row _ _ _ _ _ _ hb2]; rfl
  have p2 : Z3.cell? ⟨rbx, 2, none⟩ = some (.slice a2 n2 c2) := by rw [cell_of_row _ _ _ _ _ _ hb2]; rfl
  have p3 : Z3.cell? ⟨xbx, 0, none⟩ = some (.slice x0 n0 d0) := by rw [cell_of_row _ _ _ _ _ _ hb3]; rfl
  have p4 : Z3.cell? ⟨xbx, 1, none⟩ = some (.slice x1 n1 d1) := by rw [cell_of_row _ _ _ _ _ _ hb3]; rfl
  have p5 : Z3.cell? ⟨xbx, 2, none⟩ = some (.slice x2 n2 d2) := by rw [cell_of_row _ _ _ _ _ _ hb3]; rfl
  have HZ3B : Hid (Z3.heap[rbx]? = some (.cells #[.slice a0 n0 c0, .slice a1 n1 c1, .slice a2 n2 c2] 26 (0, 0))) := hb2
  clear hb2 hb3
  rw [hZ3] at p0 p1 p2 p3 p4 p5
  rw [hxbx] at p3 p4 p5
  go_wp2_with fail
  rw [← hZ3, ← hxbx]
  clear hZ3 hxbx p0 p1 p2 p3 p4 p5
  refine Calls.mono HS1.out ?_
  rintro e y4 ⟨rfl, hg4⟩
  have HG4 := hidP hg4
  have HC4 := hidP (HSTY.out y4 (grown_trans (grown_trans (grown_trans HG2.out HA2.out) HA3.out) hg4))
  clear hg4 HS1
  go_wp2_with fail
  refine Calls.mono HC4.out ?_
  rintro e y5 ⟨rfl, hg5⟩
  have HG5 : Hid (Z3.grownBy y5 none) := grown_trans HG4.out hg5
  clear hg5 HC4 HG4
  have hb5 := box_kept HZ3B.out HG5.out
  have p0 : y5.cell? ⟨rbx, 0, none⟩ = some (.slice a0 n0 c0) := by rw [cell_of_row _ _ _ _ _ _ hb5]; rfl
  have p1 : y5.cell? ⟨rbx, 1, none⟩ = some (.slice a1 n1 c1) := by rw [cell_of_row _ _ _ _ _ _ hb5]; rfl
  have p2 : y5.cell? ⟨rbx, 2, none⟩ = some (.slice a2 n2 c2) := by rw [cell_of_row _ _ _ _ _ _ hb5]; rfl
  have HSP : Hid (Calls Try.prog 14 #[.agg #[.slice a0 n0 c0, .slice a1 n1 c1, .slice a2 n2 c2]] y5 fun e X => SpoTold y1 y5 rbx e X) := by
    obtain ⟨q0, q1, q2, q3, q4, q5⟩ := HVA.out
    obtain ⟨r0, r1, r2⟩ := HNS.out
    rw [q0, q1, q2, q3, q4, q5, r0, r1, r2, HRB.out]
    refine spoil_any y1 y5 y2.heap.size Q va vc (HTR3.out.kept HG5.out) (grown_trans (grown_trans (grown_trans HG2.out HA2.out) HA3.out) HG5.out) (fun j hj g hg => ((HT2.out.inn j hj).lt g hg).2) ?_ HG2.out.size HQL.out
    exact (grown_trans (grown_trans HA2.out HA3.out) HG5.out).size
  have HBR5 : Hid (y5.heap[rbx]? = some (.cells #[.slice a0 n0 c0, .slice a1 n1 c1, .slice a2 n2 c2] 26 (0, 0))) := hb5
  clear hb5
  go_wp2_with fail
  refine Calls.mono HSP.out ?_
  rintro e y6 ⟨rfl, hg6, hu6, hz6⟩
  have HG6 := hidP hg6
  have HU6 : Hid (∀ b, rbx ≤ b → b < y5.heap.size → y6.heap[b]? = y5.heap[b]?) := hu6
  have HTX6 : Hid (TrZ y6 Z2.heap.size 3 Q xa xc) := TrZ.up (HTX3.out.kept HG5.out) (by have h1 := HSZ2.out; have h2 := HRB.out; omega) hu6
  have h35 := HG5.out.size
  have hxb := HXB.out
  have HBX6 : Hid (y6.heap[xbx]? = some (.cells #[.slice x0 n0 d0, .slice x1 n1 d1, .slice x2 n2 d2] 26 (0, 0))) := by
    show _ = _
    rw [hu6 xbx (by omega) (by omega)]
    exact box_kept (HB3.out Z3 (fun _ _ _ => rfl)) HG5.out
  have HBR6 : Hid (y6.heap[rbx]? = some (.cells #[.slice a0 n0 c0, .slice a1 n1 c1, .slice a2 n2 c2] 26 (0, 0))) := by
    show _ = _
    rw [hu6 rbx (Nat.le_refl _) (by omega)]
    exact HBR5.out
  have HC6 := hidP (HLM.out y6 ka kc ua uc (HP1.out.kept hg6).rs.1)
  clear hg6 hu6 hz6 h35 hxb HSP p0 p1 p2
  go_wp2_with fail
  refine Calls.mono HC6.out ?_
  rintro e y7 ⟨wa, wc, rfl, hT7, hg7⟩
  have HT7 := hidP hT7
  have HG7 := hidP hg7
  have hb7 := box_kept HBR6.out hg7
  have hx7 := box_kept HBX6.out hg7
  have HB7 : Hid (y7.heap[rbx]? = some (.cells #[.slice a0 n0 c0, .slice a1 n1 c1, .slice a2 n2 c2] 26 (0, 0))) := hb7
  have hne : rbx ≠ xbx := by have := HXB.out; omega
  have p0 : y7.cell? ⟨rbx, 0, none⟩ = some (.slice a0 n0 c0) := by rw [cell_of_row _ _ _ _ _ _ hb7]; rfl
  have p1 : y7.cell? ⟨rbx, 1, none⟩ = some (.slice a1 n1 c1) := by rw [cell_of_row _ _ _ _ _ _ hb7]; rfl
  have p2 : y7.cell? ⟨rbx, 2, none⟩ = some (.slice a2 n2 c2) := by rw [cell_of_row _ _ _ _ _ _ hb7]; rfl
  have f0 : ∀ o, y7.frozen? ⟨rbx, o, none⟩ = false := fun o => frozen_of_row _ _ _ _ _ hb7
  have p3 : y7.cell? ⟨xbx, 0, none⟩ = some (.slice x0 n0 d0) := by rw [cell_of_row _ _ _ _ _ _ hx7]; rfl
  have p4 : y7.cell? ⟨xbx, 1, none⟩ = some (.slice x1 n1 d1) := by rw [cell_of_row _ _ _ _ _ _ hx7]; rfl
  have p5 : y7.cell? ⟨xbx, 2, none⟩ = some (.slice x2 n2 d2) := by rw [cell_of_row _ _ _ _ _ _ hx7]; rfl
  clear hT7 hg7 hb7 hx7 HC6
  obtain ⟨b0, hb0⟩ : ∃ v, v = wa 0 := ⟨_, rfl⟩
  obtain ⟨b1, hb1⟩ : ∃ v, v = wa 1 := ⟨_, rfl⟩
  obtain ⟨b2, hb2⟩ : ∃ v, v = wa 2 := ⟨_, rfl⟩
  obtain ⟨g0, hgg0⟩ : ∃ v, v = wc 0 := ⟨_, rfl⟩
  obtain ⟨g1, hgg1⟩ : ∃ v, v = wc 1 := ⟨_, rfl⟩
  obtain ⟨g2, hgg2⟩ : ∃ v, v = wc 2 := ⟨_, rfl⟩
  have HWA : Hid (b0 = wa 0 ∧ b1 = wa 1 ∧ b2 = wa 2 ∧ g0 = wc 0 ∧ g1 = wc 1 ∧ g2 = wc 2) := ⟨hb0, hb1, hb2, hgg0, hgg1, hgg2⟩
  rw [← hb0, ← hb1, ← hb2, ← hgg0, ← hgg1, ← hgg2]
  clear hb0 hb1 hb2 hgg0 hgg1 hgg2
  obtain ⟨Z7, hZ7⟩ : ∃ Z, Z = ((y7.setCell ⟨rbx, 0, none⟩ (.slice b0 n0 g0)).setCell ⟨rbx, 1, none⟩ (.slice b1 n1 g1)).setCell ⟨rbx, 2, none⟩ (.slice b2 n2 g2) := ⟨_, rfl⟩
  have hk1 := heap_setCell_same _ _ 0 _ _ (.slice b0 n0 g0) HB7.out
  have hk2 := heap_setCell_same _ _ 1 _ _ (.slice b1 n1 g1) hk1
  have HT7Z : Hid (TrZ Z7 y6.heap.size 3 Q wa wc) := by
    show TrZ _ _ _ _ _ _
    rw [hZ7]
    exact ((HT7.out.beside HB7.out (by decide) (grown_setCell _ _ _)).beside hk1 (by decide) (grown_setCell _ _ _)).beside hk2 (by decide) (grown_setCell _ _ _)
  have HX7Z : Hid (TrZ Z7 Z2.heap.size 3 Q xa xc) := by
    show TrZ _ _ _ _ _ _
    rw [hZ7]
    exact (((HTX6.out.kept HG7.out).beside HB7.out (by decide) (grown_setCell _ _ _)).beside hk1 (by decide) (grown_setCell _ _ _)).beside hk2 (by decide) (grown_setCell _ _ _)
  have HGZ7 : Hid (y1.grownBy Z7 none) := by
    show y1.grownBy Z7 none
    have hlo : y1.heap.size ≤ rbx := by rw [HRB.out]; exact HG2.out.size
    rw [hZ7]
    exact grown_new (grown_new (grown_new (grown_trans HG6.out HG7.out) (grown_setCell _ _ _) hlo) (grown_setCell _ _ _) hlo) (grown_setCell _ _ _) hlo
  have HS7 : Hid (Calls Try.prog 12 #[.agg #[.slice b0 n0 g0, .slice b1 n1 g1, .slice b2 n2 g2], .agg #[.slice x0 n0 d0, .slice x1 n1 d1, .slice x2 n2 d2]] Z7 fun e y => e = .returned (.bool true) ∧ Z7.grownBy y none) := by
    have h := HSAM.out Z7 wa wc _ HT7Z.out HX7Z.out
    obtain ⟨q0, q1, q2, q3, q4, q5⟩ := HWA.out
    rw [← q0, ← q1, ← q2, ← q3, ← q4, ← q5] at h
    exact h
  clear hk1 hk2
  go_wp2_with fail
  rw [← hZ7]
  clear hZ7 p0 p1 p2 p3 p4 p5 f0
  refine Calls.mono HS7.out ?_
  rintro e y8 ⟨rfl, hg8⟩
  have HG8 : Hid (y1.grownBy y8 none) := grown_trans HGZ7.out hg8
  have HC8 := hidP (HSTY.out y8 HG8.out)
  clear hg8 HS7
  go_wp2_with fail
  refine Calls.mono HC8.out ?_
  rintro e y9 ⟨rfl, hg9⟩
  have HG9 : Hid (y1.grownBy y9 none) := grown_trans HG8.out hg9
  clear hg9 HC8
  go_wp2_with fail
  refine Calls.mono (HAW.out y9) ?_
  rintro e y10 ⟨rfl, hg10⟩
  have HG10 : Hid (w.grownBy y10 none) := grown_trans HG1.out (grown_trans HG9.out hg10)
  clear hg10
  go_wp2_with fail
  go_ret
  exact ⟨rfl, HG10.out⟩

end Go.Proofs.Ythohllgpkiibhaa.J
