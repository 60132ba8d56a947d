/-
  hasAdded of any grammar.
-/
import Derived.Test.YthoamlahbnphkaaGreatQkcobfonflehg
import Derived.Test.YthoamlahbnphkaaGreatQcompfealipec
import Derived.Deep.RegionHeld3
namespace Go.Proofs.YthoamlahbnphkaaGreat
open Go.RowKit Go.Maps Go.Shelf

/-- Are the first nonterminal and production 0 the added ones? -/
structure addedOK (ts : List (ByteArray × Int)) (ns : List ByteArray) (st : Int) (n : Nat) (L : Nat → Int) (R : Nat → List Int) (V : Nat → Int) : Prop where
  nn : 0 < ns.length
  name : ns.getD 0 ⟨#[]⟩ = ⟨#[]⟩
  pn : 0 < n
  left : L 0 = ts.length
  right : R 0 = [st]
  level : V 0 = 0

attribute [local go_sem] Oper.semAt_some

set_option maxRecDepth 100000 in
set_option maxHeartbeats 1000000 in
theorem hasAdded_look (bn on bp op : Nat) (ta la ra : Option Addr) (tn nn ln pn tc nc lc pc rc : Nat) (st L0 V0 : Int) (R0 : List Int) (w : World) (hn : w.cell? ⟨bn, on, none⟩ = some (.string ⟨#[]⟩)) (h0 : 0 < nn) (hp : 0 < pn)
    (p0 : w.cell? ⟨bp, op, none⟩ = some (.int .i64 L0)) (p1 : w.cell? ⟨bp, op + 1, none⟩ = some (.slice ra R0.length rc)) (p2 : w.cell? ⟨bp, op + 2, none⟩ = some (.int .i64 V0)) (hR : IntsAt w ra R0) (hRl : R0.length ≤ 17592186044416) (r : Bool) (hr : r = true ↔ (L0 = tn ∧ R0 = [st] ∧ V0 = 0)) :
    Calls Tryz.prog 70 #[.agg #[.slice ta tn tc, .slice (some ⟨bn, on, none⟩) nn nc, .slice la ln lc, .int .i64 st, .slice (some ⟨bp, op, none⟩) pn pc]] w fun e w' => e = .returned (.bool r) ∧ w.grownBy w' none := by
  have HSP : Hid (∀ W a, w.grownBy W none → IntsAt W a [st] → Calls Tryz.prog 105 #[.agg #[.int .i64 L0, .slice ra R0.length rc, .int .i64 V0], .agg #[.int .i64 tn, .slice a 1 1, .int .i64 0]] W fun e w' => e = .returned (.bool r) ∧ W.grownBy w' none) := fun W a hg ha =>
    sameProd_any L0 tn V0 0 ra a rc 1 R0 [st] W (hR.kept hg) ha hRl r hr
  have hd : decide (0 < (nn : Int)) = true := decide_eq_true (by omega)
  have hd' : decide (0 < nn) = true := decide_eq_true h0
  have hd2 : decide (0 < (pn : Int)) = true := decide_eq_true (by omega)
  have hd2' : decide (0 < pn) = true := decide_eq_true hp
  obtain ⟨W, hW⟩ : ∃ W, W = w.alloc (.cells #[.slice ta tn tc, .slice (some ⟨bn, on, none⟩) nn nc, .slice la ln lc, .int .i64 st, .slice (some ⟨bp, op, none⟩) pn pc] 27) := ⟨_, rfl⟩
  have HW := show Hid _ from hW
  have hgW : w.grownBy W none := by rw [hW]; exact World.grownBy_alloc w _ none
  have hbox : W.heap[w.heap.size]? = some (.cells #[.slice ta tn tc, .slice (some ⟨bn, on, none⟩) nn nc, .slice la ln lc, .int .i64 st, .slice (some ⟨bp, op, none⟩) pn pc] 27 (0, 0)) := by rw [hW]; exact heap_alloc_last w _
  have HGW := show Hid _ from hgW
  have b0 : W.cell? ⟨w.heap.size, 0, none⟩ = some (.slice ta tn tc) := by rw [cell_of_row _ _ _ _ _ _ hbox]; rfl
  have b1 : W.cell? ⟨w.heap.size, 1, none⟩ = some (.slice (some ⟨bn, on, none⟩) nn nc) := by rw [cell_of_row _ _ _ _ _ _ hbox]; rfl
  have b3 : W.cell? ⟨w.heap.size, 3, none⟩ = some (.int .i64 st) := by rw [cell_of_row _ _ _ _ _ _ hbox]; rfl
  have b4 : W.cell? ⟨w.heap.size, 4, none⟩ = some (.slice (some ⟨bp, op, none⟩) pn pc) := by rw [cell_of_row _ _ _ _ _ _ hbox]; rfl
  have n0 : W.cell? ⟨bn, on, none⟩ = some (.string ⟨#[]⟩) := hgW.cell hn (by simp)
  have q0 : W.cell? ⟨bp, op, none⟩ = some (.int .i64 L0) := hgW.cell p0 (by simp)
  have q1 : W.cell? ⟨bp, op + 1, none⟩ = some (.slice ra R0.length rc) := hgW.cell p1 (by simp)
  have q2 : W.cell? ⟨bp, op + 2, none⟩ = some (.int .i64 V0) := hgW.cell p2 (by simp)
  have hgA : W.grownBy (W.alloc (.cells #[.int .i64 st] 3)).drew none := grown_trans (World.grownBy_alloc W _ none) (grown_drewN _ 1)
  have HKP : Hid (∀ w1, (W.alloc (.cells #[.int .i64 st] 3)).drew.grownBy w1 none → w1.cell? ⟨w.heap.size, 0, none⟩ = some (.slice ta tn tc) ∧ w1.cell? ⟨w.heap.size, 1, none⟩ = some (.slice (some ⟨bn, on, none⟩) nn nc) ∧ w1.cell? ⟨w.heap.size, 3, none⟩ = some (.int .i64 st) ∧ w1.cell? ⟨w.heap.size, 4, none⟩ = some (.slice (some ⟨bp, op, none⟩) pn pc) ∧ w1.cell? ⟨bn, on, none⟩ = some (.string ⟨#[]⟩) ∧ w1.cell? ⟨bp, op, none⟩ = some (.int .i64 L0) ∧ w1.cell? ⟨bp, op + 1, none⟩ = some (.slice ra R0.length rc) ∧ w1.cell? ⟨bp, op + 2, none⟩ = some (.int .i64 V0)) := fun w1 h1 => by
    have hg := grown_trans hgA h1
    exact ⟨hg.cell b0 (by simp), hg.cell b1 (by simp), hg.cell b3 (by simp), hg.cell b4 (by simp), hg.cell n0 (by simp), hg.cell q0 (by simp), hg.cell q1 (by simp), hg.cell q2 (by simp)⟩
  have HC := show Hid _ from HSP.out (W.alloc (.cells #[.int .i64 st] 3)).drew (some ⟨W.heap.size, 0, none⟩) (grown_trans hgW hgA) (.inr ⟨W.heap.size, 0, rfl, fun i hi => by
    have : i = 0 := by simp at hi; omega
    subst this
    show (W.alloc (.cells #[.int .i64 st] 3)).cell? _ = _
    rw [cell_of_row _ _ _ _ _ _ (heap_alloc_last W _)]; rfl⟩)
  have HGA : Hid (w.grownBy (W.alloc (.cells #[.int .i64 st] 3)).drew none) := grown_trans hgW hgA
  clear hn p0 p1 p2 hR hr hW hgW hbox hgA HSP
  go_enter Tryz.func70, Tryz.ntmps70
  go_wp2_with fail
  rw [← HW.out]
  generalize w.heap.size = gb at *
  go_region_held3 (fun w' => w'.cell? ⟨gb, 0, none⟩ = some (.slice ta tn tc) ∧ w'.cell? ⟨gb, 1, none⟩ = some (.slice (some ⟨bn, on, none⟩) nn nc) ∧ w'.cell? ⟨gb, 3, none⟩ = some (.int .i64 st) ∧ w'.cell? ⟨gb, 4, none⟩ = some (.slice (some ⟨bp, op, none⟩) pn pc) ∧ w'.cell? ⟨bn, on, none⟩ = some (.string ⟨#[]⟩) ∧ w'.cell? ⟨bp, op, none⟩ = some (.int .i64 L0) ∧ w'.cell? ⟨bp, op + 1, none⟩ = some (.slice ra R0.length rc) ∧ w'.cell? ⟨bp, op + 2, none⟩ = some (.int .i64 V0)) (first | go_keep | exact HKP.out _ hg1) ((go_at_call 105; refine Calls.mono HC.out ?_; rintro e w1 ⟨rfl, hg1⟩))
  all_goals go_wp2_with fail
  all_goals go_ret
  all_goals exact ⟨rfl, grown_trans HGA.out (by first | exact hg1 | exact grown_trans hg1 (grown_drewN _ 1))⟩

set_option maxRecDepth 100000 in
set_option maxHeartbeats 1000000 in
theorem hasAdded_nons (ta na la pa : Option Addr) (tn ln pn tc nc lc pc : Nat) (st : Int) (w : World) :
    Calls Tryz.prog 70 #[.agg #[.slice ta tn tc, .slice na 0 nc, .slice la ln lc, .int .i64 st, .slice pa pn pc]] w fun e w' => e = .returned (.bool false) ∧ w.grownBy w' none := by
  go_enter Tryz.func70, Tryz.ntmps70
  go_wp2_with fail
  go_quiet (fail)
  go_wp2
  go_ret
  exact ⟨by first | rfl | simp, grown_trans (World.grownBy_alloc _ _ none) (grown_drewN _ _)⟩

set_option maxRecDepth 100000 in
set_option maxHeartbeats 1000000 in
theorem hasAdded_prods (bn on : Nat) (ta la pa : Option Addr) (tn nn ln tc nc lc pc : Nat) (st : Int) (w : World) (hn : w.cell? ⟨bn, on, none⟩ = some (.string ⟨#[]⟩)) (h0 : 0 < nn) :
    Calls Tryz.prog 70 #[.agg #[.slice ta tn tc, .slice (some ⟨bn, on, none⟩) nn nc, .slice la ln lc, .int .i64 st, .slice pa 0 pc]] w fun e w' => e = .returned (.bool false) ∧ w.grownBy w' none := by
  have hc' : ∀ o, (w.alloc o).cell? ⟨bn, on, none⟩ = some (.string ⟨#[]⟩) := fun o => (World.grownBy_alloc w o none).cell hn (by simp)
  have hc2 : ∀ o, (w.alloc o).drew.cell? ⟨bn, on, none⟩ = some (.string ⟨#[]⟩) := fun o => hc' o
  have hd : decide (0 < (nn : Int)) = true := decide_eq_true (by omega)
  have hd' : decide (0 < nn) = true := decide_eq_true h0
  clear hn
  go_enter Tryz.func70, Tryz.ntmps70
  go_wp2_with fail
  go_quiet (fail)
  go_wp2
  go_ret
  exact ⟨by first | rfl | simp, grown_trans (World.grownBy_alloc _ _ none) (grown_drewN _ _)⟩

theorem hasAdded_any {w : World} {ta na la pa : Option Addr} {tc nc lc pc : Nat} {ts : List (ByteArray × Int)} {ns : List ByteArray} {lv : List Int} {n : Nat} {L : Nat → Int} {R : Nat → List Int} {ra : Nat → Option Addr} {rc : Nat → Nat} {V : Nat → Int} (st : Int) (hG : GAt w ta na la pa tc nc lc pc ts ns lv n L R ra rc V) (r : Bool) (hr : r = true ↔ addedOK ts ns st n L R V) :
    Calls Tryz.prog 70 #[.agg #[.slice ta ts.length tc, .slice na ns.length nc, .slice la lv.length lc, .int .i64 st, .slice pa n pc]] w fun e w' => e = .returned (.bool r) ∧ w.grownBy w' none := by
  have no : ¬ addedOK ts ns st n L R V → r = false := fun h => Bool.eq_false_iff.2 fun hh => h (hr.1 hh)
  by_cases h0 : ns.length = 0
  · rw [no (fun h => by have := h.nn; omega), h0]
    exact hasAdded_nons ta na la pa _ _ _ _ _ _ _ st w
  · obtain ⟨bn, on, rfl, hns⟩ : ∃ b off, na = some ⟨b, off, none⟩ ∧ ∀ i, i < ns.length → w.cell? ⟨b, off + i, none⟩ = some (.string (ns.getD i ⟨#[]⟩)) := by
      rcases hG.nons with h | h
      · rw [h] at h0; simp at h0
      · exact h
    have hc := hns 0 (by omega)
    by_cases hs : ns.getD 0 ⟨#[]⟩ = ⟨#[]⟩
    · rw [hs] at hc
      by_cases hp : n = 0
      · subst hp
        rw [no (fun h => by have := h.pn; omega)]
        exact hasAdded_prods bn on ta la pa _ _ _ _ _ _ _ st w hc (by omega)
      · obtain ⟨bp, op, rfl, hps⟩ : ∃ b off, pa = some ⟨b, off, none⟩ ∧ ∀ k, k < n → w.cell? ⟨b, off + k * 3, none⟩ = some (.int .i64 (L k)) ∧ w.cell? ⟨b, off + k * 3 + 1, none⟩ = some (.slice (ra k) (R k).length (rc k)) ∧ w.cell? ⟨b, off + k * 3 + 2, none⟩ = some (.int .i64 (V k)) ∧ IntsAt w (ra k) (R k) ∧ (ra k = none → rc k = 0) ∧ (R k).length ≤ 17592186044416 := by
          rcases hG.prods with h | h
          · exact absurd h hp
          · exact h
        obtain ⟨p0, p1, p2, p3, _, p5⟩ := hps 0 (by omega)
        simp only [Nat.zero_mul, Nat.add_zero] at p0 p1 p2
        refine hasAdded_look bn on bp op ta la (ra 0) ts.length ns.length lv.length n tc nc lc pc (rc 0) st (L 0) (V 0) (R 0) w hc (by omega) (by omega) p0 p1 p2 p3 p5 r ?_
        rw [hr]
        exact ⟨fun h => ⟨h.left, h.right, h.level⟩, fun ⟨h1, h2, h3⟩ => ⟨by omega, hs, by omega, h1, h2, h3⟩⟩
    · rw [no (fun h => hs h.name)]
      refine hasAdded_no bn on ta la pa _ _ _ _ _ _ _ _ st (ns.getD 0 ⟨#[]⟩) w hc (by omega) ?_
      apply Nat.pos_of_ne_zero
      intro hz
      apply hs
      cases hh : ns.getD 0 ⟨#[]⟩ with
      | mk d =>
        rw [hh] at hz
        have : d.size = 0 := hz
        rw [Array.eq_empty_of_size_eq_zero this]

end Go.Proofs.YthoamlahbnphkaaGreat
