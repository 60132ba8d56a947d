/-
  Productions that are compared: sameProd, slices.EqualFunc.
-/
import Derived.Test.YtkbpnafahimeiaaEqual
namespace Go.Proofs.Ytkbpnafahimeiaa
open Go.RowKit Go.Maps Go.Shelf

attribute [local go_sem] Oper.semAt_some

theorem quietEqualInt (a1 a2 : Option Addr) (c1 c2 : Nat) (l1 l2 : List Int) (w W : World) (hg : w.grownBy W none) (h1 : IntsAt w a1 l1) (h2 : IntsAt w a2 l2) (hb : l1.length ≤ 17592186044416) (r : Bool) (hr : r = true ↔ l1 = l2) :
    Calls Try.prog 39 #[.slice a1 l1.length c1, .slice a2 l2.length c2] W fun e w' => e = .returned (.bool r) ∧ w.grownBy w' none := by
  refine (equalInt_any a1 a2 c1 c2 l1 l2 W (h1.kept hg) (h2.kept hg) hb r hr).mono ?_
  rintro e w' ⟨rfl, q, rfl⟩
  exact ⟨rfl, grown_trans hg (grown_drewN _ _)⟩

set_option maxRecDepth 100000 in
theorem sameProd_any (L1 L2 V1 V2 : Int) (a1 a2 : Option Addr) (c1 c2 : Nat) (R1 R2 : List Int) (w : World) (h1 : IntsAt w a1 R1) (h2 : IntsAt w a2 R2) (hb : R1.length ≤ 17592186044416) (r : Bool) (hr : r = true ↔ (L1 = L2 ∧ R1 = R2 ∧ V1 = V2)) :
    Calls Try.prog 41 #[.agg #[.int .i64 L1, .slice a1 R1.length c1, .int .i64 V1], .agg #[.int .i64 L2, .slice a2 R2.length c2, .int .i64 V2]] w fun e w' => e = .returned (.bool r) ∧ w.grownBy w' none := by
  obtain ⟨rR, hrR⟩ := boolOf (R1 = R2)
  have HE : Hid (∀ W, w.grownBy W none → Calls Try.prog 39 #[.slice a1 R1.length c1, .slice a2 R2.length c2] W fun e w' => e = .returned (.bool rR) ∧ w.grownBy w' none ∧ W.grownBy w' none) := fun W hg => by
    refine (equalInt_any a1 a2 c1 c2 R1 R2 W (h1.kept hg) (h2.kept hg) hb rR hrR).mono ?_
    rintro e w' ⟨rfl, q, rfl⟩
    exact ⟨rfl, grown_trans hg (grown_drewN _ _), grown_drewN _ _⟩
  have HR : Hid (r = true ↔ (L1 = L2 ∧ rR = true ∧ V1 = V2)) := by rw [hrR]; exact hr
  clear hr hrR h1 h2
  generalize R1.length = n1 at *
  generalize R2.length = n2 at *
  by_cases hL : L1 = L2
  · have d1 : (L1 == L2) = true := beq_iff_eq.2 hL
    have HG : Hid (w.grownBy ((w.alloc (.cells #[.int .i64 L1, .slice a1 n1 c1, .int .i64 V1] 52)).alloc (.cells #[.int .i64 L2, .slice a2 n2 c2, .int .i64 V2] 52)) none) := grown_trans (World.grownBy_alloc _ _ none) (World.grownBy_alloc _ _ none)
    have k1 : ((w.alloc (.cells #[.int .i64 L1, .slice a1 n1 c1, .int .i64 V1] 52)).alloc (.cells #[.int .i64 L2, .slice a2 n2 c2, .int .i64 V2] 52)).cell? ⟨w.heap.size, 2, none⟩ = some (.int .i64 V1) := (World.grownBy_alloc _ _ none).cell (by rw [cell_of_row _ _ _ _ _ _ (heap_alloc_last w _)]; rfl) (by simp)
    have k2 : ((w.alloc (.cells #[.int .i64 L1, .slice a1 n1 c1, .int .i64 V1] 52)).alloc (.cells #[.int .i64 L2, .slice a2 n2 c2, .int .i64 V2] 52)).cell? ⟨(w.alloc (.cells #[.int .i64 L1, .slice a1 n1 c1, .int .i64 V1] 52)).heap.size, 2, none⟩ = some (.int .i64 V2) := by rw [cell_of_row _ _ _ _ _ _ (heap_alloc_last _ _)]; rfl
    have es : (w.alloc (.cells #[.int .i64 L1, .slice a1 n1 c1, .int .i64 V1] 52)).heap.size = w.heap.size + 1 := World.size_alloc _ _
    rw [es] at k2
    have K1 : Hid (((w.alloc (.cells #[.int .i64 L1, .slice a1 n1 c1, .int .i64 V1] 52)).alloc (.cells #[.int .i64 L2, .slice a2 n2 c2, .int .i64 V2] 52)).cell? ⟨w.heap.size, 2, none⟩ = some (.int .i64 V1)) := k1
    have K2 : Hid (((w.alloc (.cells #[.int .i64 L1, .slice a1 n1 c1, .int .i64 V1] 52)).alloc (.cells #[.int .i64 L2, .slice a2 n2 c2, .int .i64 V2] 52)).cell? ⟨w.heap.size + 1, 2, none⟩ = some (.int .i64 V2)) := k2
    clear es k1 k2
    have HLL : Hid (L1 = L2) := hL
    clear hL
    cases rR with
    | true =>
      go_enter Try.func41, Try.ntmps41
      go_wp2_with fail
      refine (HE.out _ HG.out).mono ?_
      rintro e w2 ⟨rfl, hg2, hg3⟩
      have m1 := hg3.cell K1.out (by simp)
      have m2 := hg3.cell K2.out (by simp)
      have HG2 : Hid (w.grownBy w2 none) := hg2
      clear hg2 hg3 K1 K2 HG
      by_cases hV : V1 = V2
      · have d2 : (V1 == V2) = true := beq_iff_eq.2 hV
        have hrt : r = true := HR.out.2 ⟨HLL.out, trivial, hV⟩
        clear hV
        go_wp2_with fail
        go_ret
        exact ⟨by rw [hrt]; rfl, HG2.out⟩
      · have d2 : (V1 == V2) = false := beq_eq_false_iff_ne.2 hV
        have hrf : r = false := Bool.eq_false_iff.2 fun hh => hV (HR.out.1 hh).2.2
        clear hV
        go_wp2_with fail
        go_ret
        exact ⟨by rw [hrf]; rfl, HG2.out⟩
    | false =>
      have hrf : r = false := Bool.eq_false_iff.2 fun hh => by have := (HR.out.1 hh).2.1; cases this
      go_enter Try.func41, Try.ntmps41
      go_wp2_with fail
      refine (HE.out _ HG.out).mono ?_
      rintro e w2 ⟨rfl, hg2, hg3⟩
      have HG2 : Hid (w.grownBy w2 none) := hg2
      clear hg2 hg3 K1 K2 HG
      go_wp2_with fail
      go_ret
      exact ⟨by rw [hrf]; rfl, HG2.out⟩
  · have d1 : (L1 == L2) = false := beq_eq_false_iff_ne.2 hL
    have hrf : r = false := Bool.eq_false_iff.2 fun hh => hL (HR.out.1 hh).1
    clear hL
    go_enter Try.func41, Try.ntmps41
    go_wp2_with fail
    go_ret
    exact ⟨by rw [hrf]; rfl, grown_trans (World.grownBy_alloc _ _ none) (World.grownBy_alloc _ _ none)⟩

/-- Two rows of productions are alike. -/
def prodsSame (n m : Nat) (L1 : Nat → Int) (R1 : Nat → List Int) (V1 : Nat → Int) (L2 : Nat → Int) (R2 : Nat → List Int) (V2 : Nat → Int) : Prop := n = m ∧ ∀ i, i < n → L1 i = L2 i ∧ R1 i = R2 i ∧ V1 i = V2 i

set_option maxRecDepth 100000 in
set_option maxHeartbeats 1000000 in
theorem equalFunc_any (a1 a2 : Option Addr) (n m c1 c2 : Nat) (L1 L2 V1 V2 : Nat → Int) (R1 R2 : Nat → List Int) (ra1 ra2 : Nat → Option Addr) (rc1 rc2 : Nat → Nat) (w : World) (h1 : ProdsAt w a1 n L1 R1 ra1 rc1 V1) (h2 : ProdsAt w a2 m L2 R2 ra2 rc2 V2) (hb : n ≤ 17592186044416) (r : Bool) (hr : r = true ↔ prodsSame n m L1 R1 V1 L2 R2 V2) :
    Calls Try.prog 40 #[.slice a1 n c1, .slice a2 m c2, .func (.func 41) #[] #[]] w fun e w' => e = .returned (.bool r) ∧ w.grownBy w' none := by
  have H1 : Hid (ProdsAt w a1 n L1 R1 ra1 rc1 V1) := h1
  have H2 : Hid (ProdsAt w a2 m L2 R2 ra2 rc2 V2) := h2
  have HR : Hid (r = true ↔ prodsSame n m L1 R1 V1 L2 R2 V2) := hr
  clear h1 h2 hr
  by_cases hnm : n = m
  · subst hnm
    go_enter Try.func40, Try.ntmps40
    go_wp2_with fail
    go_loopw [17] (fun i wr => ∃ k : Nat, k ≤ n ∧ i = .int .i64 k ∧ w.grownBy wr none ∧ ∀ j, j < k → L1 j = L2 j ∧ R1 j = R2 j ∧ V1 j = V2 j) (fun i _ => n - (intOf i).toNat)
    case atStart => exact ⟨0, Nat.zero_le _, rfl, grown_refl _ _, fun j hj => by omega⟩
    case round =>
      obtain ⟨k, hk, rfl, hg, hall⟩ := hrel
      have HG : Hid (w.grownBy wr none) := hg
      have HA : Hid (∀ j, j < k → L1 j = L2 j ∧ R1 j = R2 j ∧ V1 j = V2 j) := hall
      clear hall hg
      by_cases hlt : k < n
      · obtain ⟨b1, o1, rfl, hc1⟩ : ∃ b off, a1 = some ⟨b, off, none⟩ ∧ ∀ k, k < n → w.cell? ⟨b, off + k * 3, none⟩ = some (.int .i64 (L1 k)) ∧ w.cell? ⟨b, off + k * 3 + 1, none⟩ = some (.slice (ra1 k) (R1 k).length (rc1 k)) ∧ w.cell? ⟨b, off + k * 3 + 2, none⟩ = some (.int .i64 (V1 k)) ∧ IntsAt w (ra1 k) (R1 k) ∧ (ra1 k = none → rc1 k = 0) ∧ (R1 k).length ≤ 17592186044416 := by
          rcases H1.out with h | h
          · omega
          · exact h
        obtain ⟨b2, o2, rfl, hc2⟩ : ∃ b off, a2 = some ⟨b, off, none⟩ ∧ ∀ k, k < n → w.cell? ⟨b, off + k * 3, none⟩ = some (.int .i64 (L2 k)) ∧ w.cell? ⟨b, off + k * 3 + 1, none⟩ = some (.slice (ra2 k) (R2 k).length (rc2 k)) ∧ w.cell? ⟨b, off + k * 3 + 2, none⟩ = some (.int .i64 (V2 k)) ∧ IntsAt w (ra2 k) (R2 k) ∧ (ra2 k = none → rc2 k = 0) ∧ (R2 k).length ≤ 17592186044416 := by
          rcases H2.out with h | h
          · omega
          · exact h
        obtain ⟨p1, p2, p3, p4, _, p6⟩ := hc1 k hlt
        obtain ⟨q1, q2, q3, q4, _, _⟩ := hc2 k hlt
        have p1 := HG.out.cell p1 (by simp)
        have p2 := HG.out.cell p2 (by simp)
        have p3 := HG.out.cell p3 (by simp)
        have q1' := fun o => (World.grownBy_alloc wr o none).cell (HG.out.cell q1 (by simp)) (by simp)
        have q2' := fun o => (World.grownBy_alloc wr o none).cell (HG.out.cell q2 (by simp)) (by simp)
        have q3' := fun o => (World.grownBy_alloc wr o none).cell (HG.out.cell q3 (by simp)) (by simp)
        obtain ⟨rk, hrk⟩ := boolOf (L1 k = L2 k ∧ R1 k = R2 k ∧ V1 k = V2 k)
        have HC : Hid (∀ W, w.grownBy W none → Calls Try.prog 41 #[.agg #[.int .i64 (L1 k), .slice (ra1 k) (R1 k).length (rc1 k), .int .i64 (V1 k)], .agg #[.int .i64 (L2 k), .slice (ra2 k) (R2 k).length (rc2 k), .int .i64 (V2 k)]] W fun e w' => e = .returned (.bool rk) ∧ w.grownBy w' none) := fun W hg =>
          (sameProd_any (L1 k) (L2 k) (V1 k) (V2 k) (ra1 k) (ra2 k) (rc1 k) (rc2 k) (R1 k) (R2 k) W (p4.kept hg) (q4.kept hg) p6 rk hrk).mono fun e w' h => ⟨h.1, grown_trans hg h.2⟩
        have HS : Hid (rk = true → ∀ j, j < k + 1 → L1 j = L2 j ∧ R1 j = R2 j ∧ V1 j = V2 j) := fun h j hj => by
          by_cases e : j = k
          · rw [e]; exact hrk.1 h
          · exact HA.out j (by omega)
        have HF : Hid (rk = false → r = false) := fun h => Bool.eq_false_iff.2 fun hh => by
          have := hrk.2 ((HR.out.1 hh).2 k hlt)
          rw [h] at this
          cases this
        clear hc1 hc2 p4 q4 p6 q1 q2 q3 hrk
        generalize (R1 k).length = n1 at *
        generalize (R2 k).length = n2 at *
        generalize L1 k = l1 at *
        generalize L2 k = l2 at *
        generalize V1 k = v1 at *
        generalize V2 k = v2 at *
        generalize ra1 k = x1 at *
        generalize ra2 k = x2 at *
        generalize rc1 k = y1 at *
        generalize rc2 k = y2 at *
        cases rk with
        | true =>
          have HS2 : Hid (∀ j, j < k + 1 → L1 j = L2 j ∧ R1 j = R2 j ∧ V1 j = V2 j) := HS.out rfl
          clear HS HF
          go_wp2_with fail
          refine (HC.out _ (grown_trans (grown_trans HG.out (World.grownBy_alloc _ _ none)) (World.grownBy_alloc _ _ none))).mono ?_
          rintro e w2 ⟨rfl, hg2⟩
          have HG2 : Hid (w.grownBy w2 none) := hg2
          clear hg2
          go_wp2_with fail
          go_roundw
          case rel => exact ⟨k + 1, by omega, by go_num, HG2.out, HS2.out⟩
          case measure => simp [intOf]; omega
        | false =>
          have hrf := HF.out rfl
          clear HS HF
          go_wp2_with fail
          refine (HC.out _ (grown_trans (grown_trans HG.out (World.grownBy_alloc _ _ none)) (World.grownBy_alloc _ _ none))).mono ?_
          rintro e w2 ⟨rfl, hg2⟩
          have HG2 : Hid (w.grownBy w2 none) := hg2
          clear hg2
          go_wp2_with fail
          go_ret
          exact ⟨by rw [hrf]; rfl, HG2.out⟩
      · obtain rfl : k = n := by omega
        have hrt : r = true := HR.out.2 ⟨rfl, HA.out⟩
        go_wp2_with fail
        go_ret
        exact ⟨by rw [hrt]; rfl, HG.out⟩
  · have hd : ((n : Int) != (m : Int)) = true := by simp; omega
    have hrf : r = false := Bool.eq_false_iff.2 fun hh => hnm (HR.out.1 hh).1
    clear hnm
    go_enter Try.func40, Try.ntmps40
    go_wp2_with fail
    go_ret
    exact ⟨by rw [hrf]; rfl, grown_refl _ _⟩

end Go.Proofs.Ytkbpnafahimeiaa

namespace Go.Proofs.Ytkbpnafahimeiaa
open Go.RowKit Go.Maps Go.Shelf

attribute [local go_sem] Oper.semAt_some

/-- Two boxed grammars. -/
structure Ph2 (w wr : World) (cs cs' : Array Value) : Prop where
  grown : w.grownBy wr none
  box : wr.heap[w.heap.size]? = some (.cells cs 42 (0, 0))
  box' : wr.heap[w.heap.size + 1]? = some (.cells cs' 42 (0, 0))
theorem Ph2.kept {w wr wx : World} {cs cs' : Array Value} (h : Ph2 w wr cs cs') (hg : wr.grownBy wx none) : Ph2 w wx cs cs' :=
  ⟨grown_trans h.grown hg, (hg.block _ (Array.getElem?_eq_some_iff.1 h.box).1 (by simp)).trans h.box, (hg.block _ (Array.getElem?_eq_some_iff.1 h.box').1 (by simp)).trans h.box'⟩
theorem Ph2.cells {w wr : World} {v0 v1 v2 v3 v4 u0 u1 u2 u3 u4 : Value} (h : Ph2 w wr #[v0, v1, v2, v3, v4] #[u0, u1, u2, u3, u4]) :
    (wr.cell? ⟨w.heap.size, 0, none⟩ = some v0 ∧ wr.cell? ⟨w.heap.size, 1, none⟩ = some v1 ∧ wr.cell? ⟨w.heap.size, 2, none⟩ = some v2 ∧ wr.cell? ⟨w.heap.size, 3, none⟩ = some v3 ∧ wr.cell? ⟨w.heap.size, 4, none⟩ = some v4) ∧
    (wr.cell? ⟨w.heap.size + 1, 0, none⟩ = some u0 ∧ wr.cell? ⟨w.heap.size + 1, 1, none⟩ = some u1 ∧ wr.cell? ⟨w.heap.size + 1, 2, none⟩ = some u2 ∧ wr.cell? ⟨w.heap.size + 1, 3, none⟩ = some u3 ∧ wr.cell? ⟨w.heap.size + 1, 4, none⟩ = some u4) := by
  refine ⟨⟨?_, ?_, ?_, ?_, ?_⟩, ?_, ?_, ?_, ?_, ?_⟩
  · rw [cell_of_row _ _ _ _ _ _ h.box]; rfl
  · rw [cell_of_row _ _ _ _ _ _ h.box]; rfl
  · rw [cell_of_row _ _ _ _ _ _ h.box]; rfl
  · rw [cell_of_row _ _ _ _ _ _ h.box]; rfl
  · rw [cell_of_row _ _ _ _ _ _ h.box]; rfl
  · rw [cell_of_row _ _ _ _ _ _ h.box']; rfl
  · rw [cell_of_row _ _ _ _ _ _ h.box']; rfl
  · rw [cell_of_row _ _ _ _ _ _ h.box']; rfl
  · rw [cell_of_row _ _ _ _ _ _ h.box']; rfl
  · rw [cell_of_row _ _ _ _ _ _ h.box']; rfl
theorem Ph2.mk' (w : World) (cs cs' : Array Value) : Ph2 w ((w.alloc (.cells cs 42)).alloc (.cells cs' 42)) cs cs' := by
  have h1 := heap_alloc_last w (.cells cs 42)
  have h2 := heap_alloc_last (w.alloc (.cells cs 42)) (.cells cs' 42)
  rw [World.size_alloc] at h2
  refine ⟨grown_trans (World.grownBy_alloc _ _ none) (World.grownBy_alloc _ _ none), ?_, h2⟩
  exact ((World.grownBy_alloc _ _ none).block _ (Array.getElem?_eq_some_iff.1 h1).1 (by simp)).trans h1

section
variable (ta na la pa ta' na' la' pa' : Option Addr) (tn nn ln pn tc nc lc pc tn' nn' ln' pn' tc' nc' lc' pc' : Nat) (st st' : Int)

set_option maxRecDepth 100000 in
set_option maxHeartbeats 1000000 in
theorem same_core (w : World) (rT rN rL rP : Bool)
    (hT : ∀ W, w.grownBy W none → Calls Try.prog 37 #[.slice ta tn tc, .slice ta' tn' tc'] W fun e w' => e = .returned (.bool rT) ∧ W.grownBy w' none)
    (hN : ∀ W, w.grownBy W none → Calls Try.prog 38 #[.slice na nn nc, .slice na' nn' nc'] W fun e w' => e = .returned (.bool rN) ∧ W.grownBy w' none)
    (hL : ∀ W, w.grownBy W none → Calls Try.prog 39 #[.slice la ln lc, .slice la' ln' lc'] W fun e w' => e = .returned (.bool rL) ∧ W.grownBy w' none)
    (hP : ∀ W, w.grownBy W none → Calls Try.prog 40 #[.slice pa pn pc, .slice pa' pn' pc', .func (.func 41) #[] #[]] W fun e w' => e = .returned (.bool rP) ∧ W.grownBy w' none) :
    Calls Try.prog 15 #[.agg #[.slice ta tn tc, .slice na nn nc, .slice la ln lc, .int .i64 st, .slice pa pn pc], .agg #[.slice ta' tn' tc', .slice na' nn' nc', .slice la' ln' lc', .int .i64 st', .slice pa' pn' pc']] w fun e w' => e = .returned (.bool (rT && rN && rL && (st == st') && rP)) ∧ w.grownBy w' none := by
  have HT : Hid (∀ W, w.grownBy W none → Calls Try.prog 37 #[.slice ta tn tc, .slice ta' tn' tc'] W fun e w' => e = .returned (.bool rT) ∧ W.grownBy w' none) := hT
  have HN : Hid (∀ W, w.grownBy W none → Calls Try.prog 38 #[.slice na nn nc, .slice na' nn' nc'] W fun e w' => e = .returned (.bool rN) ∧ W.grownBy w' none) := hN
  have HL : Hid (∀ W, w.grownBy W none → Calls Try.prog 39 #[.slice la ln lc, .slice la' ln' lc'] W fun e w' => e = .returned (.bool rL) ∧ W.grownBy w' none) := hL
  have HP : Hid (∀ W, w.grownBy W none → Calls Try.prog 40 #[.slice pa pn pc, .slice pa' pn' pc', .func (.func 41) #[] #[]] W fun e w' => e = .returned (.bool rP) ∧ W.grownBy w' none) := hP
  have HX : Hid (Ph2 w _ #[.slice ta tn tc, .slice na nn nc, .slice la ln lc, .int .i64 st, .slice pa pn pc] #[.slice ta' tn' tc', .slice na' nn' nc', .slice la' ln' lc', .int .i64 st', .slice pa' pn' pc']) := Ph2.mk' w _ _
  clear hT hN hL hP
  go_enter Try.func15, Try.ntmps15
  go_wp2_with fail
  refine (HT.out _ HX.out.grown).mono ?_
  rintro e w1 ⟨rfl, hg1⟩
  have HX1 : Hid (Ph2 w w1 #[.slice ta tn tc, .slice na nn nc, .slice la ln lc, .int .i64 st, .slice pa pn pc] #[.slice ta' tn' tc', .slice na' nn' nc', .slice la' ln' lc', .int .i64 st', .slice pa' pn' pc']) := HX.out.kept hg1
  clear hg1 HX HT
  cases rT with
  | false =>
    go_wp2_with fail
    go_ret
    exact ⟨rfl, HX1.out.grown⟩
  | true =>
    obtain ⟨⟨m0, m1, m2, m3, m4⟩, n0, n1, n2, n3, n4⟩ := HX1.out.cells
    go_wp2_with fail
    refine (HN.out _ HX1.out.grown).mono ?_
    rintro e w2 ⟨rfl, hg2⟩
    have HX2 : Hid (Ph2 w w2 #[.slice ta tn tc, .slice na nn nc, .slice la ln lc, .int .i64 st, .slice pa pn pc] #[.slice ta' tn' tc', .slice na' nn' nc', .slice la' ln' lc', .int .i64 st', .slice pa' pn' pc']) := HX1.out.kept hg2
    clear hg2 HX1 HN m0 m1 m2 m3 m4 n0 n1 n2 n3 n4
    cases rN with
    | false =>
      go_wp2_with fail
      go_ret
      exact ⟨rfl, HX2.out.grown⟩
    | true =>
      obtain ⟨⟨m0, m1, m2, m3, m4⟩, n0, n1, n2, n3, n4⟩ := HX2.out.cells
      go_wp2_with fail
      refine (HL.out _ HX2.out.grown).mono ?_
      rintro e w3 ⟨rfl, hg3⟩
      have HX3 : Hid (Ph2 w w3 #[.slice ta tn tc, .slice na nn nc, .slice la ln lc, .int .i64 st, .slice pa pn pc] #[.slice ta' tn' tc', .slice na' nn' nc', .slice la' ln' lc', .int .i64 st', .slice pa' pn' pc']) := HX2.out.kept hg3
      clear hg3 HX2 HL m0 m1 m2 m3 m4 n0 n1 n2 n3 n4
      cases rL with
      | false =>
        go_wp2_with fail
        go_ret
        exact ⟨rfl, HX3.out.grown⟩
      | true =>
        obtain ⟨⟨m0, m1, m2, m3, m4⟩, n0, n1, n2, n3, n4⟩ := HX3.out.cells
        cases hst : (st == st') with
        | false =>
          go_wp2_with fail
          go_ret
          exact ⟨by rw [hst]; rfl, HX3.out.grown⟩
        | true =>
          go_wp2_with fail
          refine (HP.out _ HX3.out.grown).mono ?_
          rintro e w4 ⟨rfl, hg4⟩
          have HG4 : Hid (w.grownBy w4 none) := grown_trans HX3.out.grown hg4
          clear hg4 HX3 HP m0 m1 m2 m3 m4 n0 n1 n2 n3 n4
          go_wp2_with fail
          go_ret
          exact ⟨by rw [hst]; cases rP <;> rfl, HG4.out⟩
end

end Go.Proofs.Ytkbpnafahimeiaa
