/-
  lr0: items compared.
-/
import Derived.Test.YthoamlahbnphkaaGreatQkcobfonflehg
import Derived.Sort.Grow
import Derived.Deep.RegionHeld3
namespace Go.Proofs.YthoamlahbnphkaaGreat.J
open Go.RowKit Go.Maps Go.Shelf

attribute [local go_sem] Oper.semAt_some

theorem calls_at {P : Program} {f : Nat} {args : Array Value} {w : World} {Q : Ending → World → Prop} (W : World) (h : w = W) (hc : Calls P f args W Q) : Calls P f args w Q := by rw [h]; exact hc

/-- How two numbers compare. -/
def cmpN (x y : Int) : Int := if x < y then -1 else if y < x then 1 else 0
/-- How two items compare: by Prod, then by Dot. -/
def cmpI (x y : It) : Int := if cmpN x.1 y.1 = 0 then cmpN x.2 y.2 else cmpN x.1 y.1

theorem isNaN_any (x : Int) (w : World) : Calls Tryz.prog 149 #[.int .i64 x] w fun e y => e = .returned (.bool false) ∧ y = w := by
  have hx : (x != x) = false := bne_self_eq_false _
  go_enter Tryz.func149, Tryz.ntmps149
  go_wp2_with fail
  go_ret
  exact ⟨rfl, rfl⟩

set_option maxRecDepth 100000 in
theorem compare_any (x y : Int) (w : World) : Calls Tryz.prog 118 #[.int .i64 x, .int .i64 y] w fun e w' => e = .returned (.int .i64 (cmpN x y)) ∧ w' = w := by
  have HN : Hid (∀ z, Calls Tryz.prog 149 #[.int .i64 z] w fun e y => e = .returned (.bool false) ∧ y = w) := fun z => isNaN_any z w
  by_cases h1 : x < y
  · have d1 : decide (x < y) = true := decide_eq_true h1
    have HR : Hid (cmpN x y = -1) := by show _ = _; unfold cmpN; rw [if_pos h1]
    go_enter Tryz.func118, Tryz.ntmps118
    go_wp2_with (first | (go_at_call 149; refine Calls.mono (HN.out _) ?_; rintro e w' ⟨rfl, rfl⟩) | fail)
    go_ret
    exact ⟨by rw [HR.out]; rfl, rfl⟩
  · have d1 : decide (x < y) = false := decide_eq_false h1
    by_cases h2 : y < x
    · have d2 : decide (y < x) = true := decide_eq_true h2
      have HR : Hid (cmpN x y = 1) := by show _ = _; unfold cmpN; rw [if_neg h1, if_pos h2]
      go_enter Tryz.func118, Tryz.ntmps118
      go_wp2_with (first | (go_at_call 149; refine Calls.mono (HN.out _) ?_; rintro e w' ⟨rfl, rfl⟩) | fail)
      go_ret
      exact ⟨by rw [HR.out]; rfl, rfl⟩
    · have d2 : decide (y < x) = false := decide_eq_false h2
      have HR : Hid (cmpN x y = 0) := by show _ = _; unfold cmpN; rw [if_neg h1, if_neg h2]
      go_enter Tryz.func118, Tryz.ntmps118
      go_wp2_with (first | (go_at_call 149; refine Calls.mono (HN.out _) ?_; rintro e w' ⟨rfl, rfl⟩) | fail)
      go_ret
      exact ⟨by rw [HR.out]; rfl, rfl⟩

set_option maxRecDepth 100000 in
theorem or_any (x y r : Int) (hr : r = if x = 0 then y else x) (b : Nat) (w : World) (h0 : w.cell? ⟨b, 0, none⟩ = some (.int .i64 x)) (h1 : w.cell? ⟨b, 1, none⟩ = some (.int .i64 y)) : Calls Tryz.prog 117 #[.slice (some ⟨b, 0, none⟩) 2 2] w fun e w' => e = .returned (.int .i64 r) ∧ w' = w := by
  have HRR : Hid (r = if x = 0 then y else x) := hr
  clear hr
  have H1 : Hid (w.cell? ⟨b, 0, none⟩ = some (.int .i64 x) ∧ w.cell? ⟨b, 1, none⟩ = some (.int .i64 y)) := ⟨h0, h1⟩
  clear h0 h1
  go_enter Tryz.func117, Tryz.ntmps117
  go_wp2_with fail
  go_loopg [8] 2 (fun gk v8 wr => ∃ j : Nat, j ≤ 2 ∧ gk = 2 - j ∧ v8 = .int .i64 j ∧ wr = w ∧ (0 < j → x = 0) ∧ (1 < j → y = 0))
  case atStart => exact ⟨0, by decide, rfl, rfl, rfl, fun h => absurd h (by decide), fun h => absurd h (by decide)⟩
  case round =>
    obtain ⟨j, hj, hgj, rfl, rfl, hx, hy⟩ := hrel
    have HX : Hid ((0 < j → x = 0) ∧ (1 < j → y = 0)) := ⟨hx, hy⟩
    have HGJ : Hid (gk = 2 - j) := hgj
    clear hx hy hgj
    obtain ⟨c0, c1⟩ := H1.out
    have hj3 : j = 0 ∨ j = 1 ∨ j = 2 := by omega
    rcases hj3 with rfl | rfl | rfl
    · by_cases e : x = 0
      · have d : (x != 0) = false := by rw [e]; rfl
        have HE : Hid (x = 0) := e
        clear e
        go_wp2_with fail
        go_roundg 1
        case measure => have := HGJ.out; omega
        case rel => exact ⟨1, by decide, rfl, rfl, rfl, fun _ => HE.out, fun h => absurd h (by decide)⟩
      · have d : (x != 0) = true := bne_iff_ne.2 e
        have HE : Hid (r = x) := HRR.out.trans (if_neg e)
        clear e
        go_wp2_with fail
        go_ret
        exact ⟨by rw [HE.out]; rfl, rfl⟩
    · have hx0 := HX.out.1 (by decide)
      by_cases e : y = 0
      · have d : (y != 0) = false := by rw [e]; rfl
        have HE : Hid (y = 0 ∧ x = 0) := ⟨e, hx0⟩
        clear e hx0
        go_wp2_with fail
        go_roundg 0
        case measure => have := HGJ.out; omega
        case rel => exact ⟨2, by decide, rfl, rfl, rfl, fun _ => HE.out.2, fun _ => HE.out.1⟩
      · have d : (y != 0) = true := bne_iff_ne.2 e
        have HE : Hid (r = y) := HRR.out.trans (if_pos hx0)
        clear e hx0
        go_wp2_with fail
        go_ret
        exact ⟨by rw [HE.out]; rfl, rfl⟩
    · have HE : Hid (r = 0) := HRR.out.trans (by rw [if_pos (HX.out.1 (by decide)), HX.out.2 (by decide)])
      go_wp2_with fail
      go_ret
      exact ⟨by rw [HE.out]; rfl, rfl⟩

set_option maxRecDepth 100000 in
set_option maxHeartbeats 1000000 in
theorem inOrder_any (x y : It) (w : World) : Calls Tryz.prog 81 #[.agg #[.int .i64 x.1, .int .i64 x.2], .agg #[.int .i64 y.1, .int .i64 y.2]] w fun e w' => e = .returned (.int .i64 (cmpI x y)) ∧ ∃ q os, w' = Go.Sort.grow (w.drewN q) os := by
  obtain ⟨p, d⟩ := x
  obtain ⟨p', d'⟩ := y
  simp only
  have HC : Hid (∀ a b X, Calls Tryz.prog 118 #[.int .i64 a, .int .i64 b] X fun e w' => e = .returned (.int .i64 (cmpN a b)) ∧ w' = X) := fun a b X => compare_any a b X
  obtain ⟨r, hr⟩ : ∃ r, r = cmpI (p, d) (p', d') := ⟨_, rfl⟩
  have HR : Hid (r = if cmpN p p' = 0 then cmpN d d' else cmpN p p') := hr
  rw [← hr]
  clear hr
  obtain ⟨c1, hc1⟩ : ∃ c, c = cmpN p p' := ⟨_, rfl⟩
  obtain ⟨c2, hc2⟩ : ∃ c, c = cmpN d d' := ⟨_, rfl⟩
  have HC1 : Hid (∀ X, Calls Tryz.prog 118 #[.int .i64 p, .int .i64 p'] X fun e w' => e = .returned (.int .i64 c1) ∧ w' = X) := fun X => by rw [hc1]; exact HC.out p p' X
  have HC2 : Hid (∀ X, Calls Tryz.prog 118 #[.int .i64 d, .int .i64 d'] X fun e w' => e = .returned (.int .i64 c2) ∧ w' = X) := fun X => by rw [hc2]; exact HC.out d d' X
  have HR2 : Hid (r = if c1 = 0 then c2 else c1) := by show _ = _; rw [HR.out, hc1, hc2]
  clear HC HR hc1 hc2
  obtain ⟨X, hX⟩ : ∃ X, X = (w.alloc (.cells #[.int .i64 p, .int .i64 d] 69)).alloc (.cells #[.int .i64 p', .int .i64 d'] 69) := ⟨_, rfl⟩
  have HXE : Hid (X = (w.alloc (.cells #[.int .i64 p, .int .i64 d] 69)).alloc (.cells #[.int .i64 p', .int .i64 d'] 69)) := hX
  have hb1 : X.heap[w.heap.size]? = some (.cells #[.int .i64 p, .int .i64 d] 69 (0, 0)) := by
    rw [hX]
    exact ((World.grownBy_alloc _ _ none).block w.heap.size (by simp) (by simp)).trans (heap_alloc_last w _)
  have hb2 : X.heap[w.heap.size + 1]? = some (.cells #[.int .i64 p', .int .i64 d'] 69 (0, 0)) := by
    rw [hX]
    have := heap_alloc_last (w.alloc (.cells #[.int .i64 p, .int .i64 d] 69)) (.cells #[.int .i64 p', .int .i64 d'] 69)
    rwa [World.size_alloc] at this
  have HK : Hid (∀ Y, X.grownBy Y none → (Y.cell? ⟨w.heap.size, 0, none⟩ = some (.int .i64 p) ∧ Y.cell? ⟨w.heap.size, 1, none⟩ = some (.int .i64 d)) ∧ Y.cell? ⟨w.heap.size + 1, 0, none⟩ = some (.int .i64 p') ∧ Y.cell? ⟨w.heap.size + 1, 1, none⟩ = some (.int .i64 d')) := fun Y hY => by
    have h1 := (hY.block _ (Array.getElem?_eq_some_iff.1 hb1).1 (by simp)).trans hb1
    have h2 := (hY.block _ (Array.getElem?_eq_some_iff.1 hb2).1 (by simp)).trans hb2
    refine ⟨⟨?_, ?_⟩, ?_, ?_⟩
    · rw [cell_of_row _ _ _ _ _ _ h1]; rfl
    · rw [cell_of_row _ _ _ _ _ _ h1]; rfl
    · rw [cell_of_row _ _ _ _ _ _ h2]; rfl
    · rw [cell_of_row _ _ _ _ _ _ h2]; rfl
  have HD : Hid (X.grownBy X.drew none) := grown_drewN X 1
  have HO : Hid (Calls Tryz.prog 117 #[.slice (some ⟨X.heap.size, 0, none⟩) 2 2] ((X.alloc (.cells #[.int .i64 c1, .int .i64 c2] 3)).drew) fun e w' => e = .returned (.int .i64 r) ∧ w' = (X.alloc (.cells #[.int .i64 c1, .int .i64 c2] 3)).drew) := by
    have hb : ((X.alloc (.cells #[.int .i64 c1, .int .i64 c2] 3)).drew).heap[X.heap.size]? = some (.cells #[.int .i64 c1, .int .i64 c2] 3 (0, 0)) := heap_alloc_last X _
    exact or_any c1 c2 r HR2.out X.heap.size _ (by rw [cell_of_row _ _ _ _ _ _ hb]; rfl) (by rw [cell_of_row _ _ _ _ _ _ hb]; rfl)
  have HA : Hid (X.grownBy (X.alloc (.cells #[.int .i64 c1, .int .i64 c2] 3)).drew none) := grown_trans (World.grownBy_alloc _ _ none) (grown_drewN _ 1)
  clear hX hb1 hb2
  go_enter Tryz.func81, Tryz.ntmps81
  go_wp2_with fail
  rw [← HXE.out]
  go_region_held3 (fun Y => (Y.cell? ⟨w.heap.size, 0, none⟩ = some (.int .i64 p) ∧ Y.cell? ⟨w.heap.size, 1, none⟩ = some (.int .i64 d)) ∧ Y.cell? ⟨w.heap.size + 1, 0, none⟩ = some (.int .i64 p') ∧ Y.cell? ⟨w.heap.size + 1, 1, none⟩ = some (.int .i64 d')) (first | exact HK.out _ HD.out | exact HK.out _ HA.out | go_keep)
    ((first
      | (go_at_call_of 118 p; refine Calls.mono (HC1.out _) ?_; rintro e w' ⟨rfl, rfl⟩)
      | (go_at_call_of 118 d; refine Calls.mono (HC2.out _) ?_; rintro e w' ⟨rfl, rfl⟩)
      | (go_at_call 117; refine calls_at ((X.alloc (.cells #[.int .i64 c1, .int .i64 c2] 3)).drew) (by with_reducible rfl) ?_; refine Calls.mono HO.out ?_; rintro e w' ⟨rfl, rfl⟩)
      | fail))
  all_goals go_wp2_with fail
  all_goals go_ret
  all_goals exact ⟨rfl, 1, _, by rw [HXE.out, Go.Sort.alloc_eq_grow, Go.Sort.alloc_eq_grow, Go.Sort.alloc_eq_grow, Go.Sort.grow_grow, Go.Sort.grow_grow]; rfl⟩

end Go.Proofs.YthoamlahbnphkaaGreat.J
