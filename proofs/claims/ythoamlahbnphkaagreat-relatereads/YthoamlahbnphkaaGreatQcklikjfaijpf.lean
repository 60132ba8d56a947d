import Derived.Test.YthoamlahbnphkaaGreatQjkjdjmonjfol
import Derived.Test.YthoamlahbnphkaaGreatQfpejkjhamhib

/-
  relate: the law's awake.
-/
namespace Go.Proofs.YthoamlahbnphkaaGreat.J
open Go.RowKit Go.Maps Go.Shelf

attribute [local go_sem] Oper.semAt_some

set_option maxRecDepth 100000 in
set_option maxHeartbeats 2000000 in
theorem uawake_any (w : World) : Calls Tryz.prog 7 #[] w fun e w' => e = .returned (.bool true) ∧ w.grownBy w' none := by
  go_enter Tryz.func7, Tryz.ntmps7
  go_wp2_with fail
  refine Calls.mono (vsmall_any w) ?_
  rintro e w1 ⟨b1, b2, b7, ra, rc, rfl, hG1, hg1⟩
  have HRD : Hid (∀ X, w1.grownBy X none → Calls Tryz.prog 12 #[.agg #[.slice (some ⟨b1, 0, none⟩) 3 3, .slice (some ⟨b2, 0, none⟩) 4 4, .slice none 0 0, .int .i64 4, .slice (some ⟨b7, 0, none⟩) 6 6]] X fun e y => ∃ kb a c, e = .returned (.tuple #[.slice (some ⟨kb, 0, none⟩) 5 5, .int .i64 0]) ∧ y.cell? ⟨kb, 1, none⟩ = some (.slice (some ⟨a, 0, none⟩) 1 c) ∧ y.cell? ⟨a, 0, none⟩ = some (.int .i64 3) ∧ X.grownBy y none) := fun X hX => by
    refine (rel_reads (some ⟨b1, 0, none⟩) (some ⟨b2, 0, none⟩) none (some ⟨b7, 0, none⟩) 3 4 0 6 vTs vNs [] 6 vL vR ra rc (fun _ => 0) 4 w1 3 4 0 ⟨rfl, rfl, rfl⟩ hG1 v_closed v_ggT X hX).mono ?_
    rintro e y ⟨P, kb, bx, ua, uc, hP, rfl, hL⟩
    rw [v_trT] at hL ⊢
    rw [v_nul] at hL
    have h1 := hL.val.cell 1 (by decide)
    have h2 := hL.own 1 (by decide)
    have e1 : foldQ (fun _ => []) (rdT vEs [(0, 4), (0, 5), (3, 4), (3, 5), (4, 6)] 3 vF [((0 : Int), (4 : Int)), (0, 5), (3, 4), (3, 5), (4, 6)].length) 1 = [3] := v_rd
    rw [e1] at h1 h2
    obtain ⟨g, c, he, hc⟩ := owns_at h2 (by decide)
    simp only [Value.slice.injEq] at he
    rw [he.1] at h1
    exact ⟨kb, g, uc 1, rfl, h1, hc 0 _ rfl, grown_trans hP hL.grown⟩
  have HIN : Hid (∀ X, w1.grownBy X none → Calls Tryz.prog 13 #[.agg #[.slice (some ⟨b1, 0, none⟩) 3 3, .slice (some ⟨b2, 0, none⟩) 4 4, .slice none 0 0, .int .i64 4, .slice (some ⟨b7, 0, none⟩) 6 6]] X fun e y => ∃ kb a c, e = .returned (.tuple #[.slice (some ⟨kb, 0, none⟩) 5 5, .int .i64 0]) ∧ y.cell? ⟨kb, 2, none⟩ = some (.slice a 2 c) ∧ X.grownBy y none) := fun X hX => by
    refine (rel_includes (some ⟨b1, 0, none⟩) (some ⟨b2, 0, none⟩) none (some ⟨b7, 0, none⟩) 3 4 0 6 vTs vNs [] 6 vL vR ra rc (fun _ => 0) 4 w1 3 4 0 ⟨rfl, rfl, rfl⟩ hG1 v_closed v_ggT X hX).mono ?_
    rintro e y ⟨P, kb, bx, ua, uc, hP, rfl, hL⟩
    rw [v_trT] at hL ⊢
    rw [v_nul] at hL
    have h1 := hL.val.cell 2 (by decide)
    have e1 : (foldQ (fun _ => []) (inT vEs [(0, 4), (0, 5), (3, 4), (3, 5), (4, 6)] 3 vF 6 vL vR [((0 : Int), (4 : Int)), (0, 5), (3, 4), (3, 5), (4, 6)].length) 2).length = 2 := v_in
    rw [e1] at h1
    exact ⟨kb, ua 2, uc 2, rfl, h1, grown_trans hP hL.grown⟩
  have HLB : Hid (∀ X, w1.grownBy X none → Calls Tryz.prog 14 #[.agg #[.slice (some ⟨b1, 0, none⟩) 3 3, .slice (some ⟨b2, 0, none⟩) 4 4, .slice none 0 0, .int .i64 4, .slice (some ⟨b7, 0, none⟩) 6 6]] X fun e y => ∃ g a c c', e = .returned (.tuple #[.slice (some ⟨g, 0, none⟩) 6 c', .int .i64 0]) ∧ y.cell? ⟨g, 17, none⟩ = some (.slice a 2 c) ∧ X.grownBy y none) := fun X hX => by
    refine (rel_lookback (some ⟨b1, 0, none⟩) (some ⟨b2, 0, none⟩) none (some ⟨b7, 0, none⟩) 3 4 0 6 vTs vNs [] 6 vL vR ra rc (fun _ => 0) 4 w1 3 4 0 ⟨rfl, rfl, rfl⟩ hG1 v_closed v_ggT X hX).mono ?_
    rintro e y ⟨P, a, c, bx, kb, rb, ua, uc, hP, rfl, hL, ho⟩
    rw [v_trT] at hL ho ⊢
    have e0 : lbT vEs [(0, 4), (0, 5), (3, 4), (3, 5), (4, 6)] 6 vL vR [((0 : Int), (4 : Int)), (0, 5), (3, 4), (3, 5), (4, 6)].length = [(37, 0), (8, 0), (3, 1), (37, 2), (8, 2), (21, 3), (28, 4), (35, 4)] := v_lb
    rw [e0] at hL ho ⊢
    have e1 : bkI (foldA [(37, 0), (8, 0), (3, 1), (37, 2), (8, 2), (21, 3), (28, 4), (35, 4)]) 6 vKs.length = [(0, 3), (1, 2), (3, 3), (4, 4), (5, 5), (6, 1)] := v_bk
    rw [e1] at ho ⊢
    obtain ⟨g, c2, he, hc⟩ := owns_at ho (by decide)
    simp only [Value.slice.injEq] at he
    obtain ⟨rfl, _, rfl⟩ := he
    have h1 := hc 17 _ rfl
    have e2 : (foldA [(37, 0), (8, 0), (3, 1), (37, 2), (8, 2), (21, 3), (28, 4), (35, 4)] (6 * 6 + 1)).length = 2 := v_b5
    rw [e2] at h1
    exact ⟨g, _, _, c, rfl, h1, grown_trans hP hL.grown⟩
  obtain ⟨gb, hgb⟩ : ∃ gb, gb = w1.heap.size := ⟨_, rfl⟩
  obtain ⟨X1, hX1⟩ : ∃ X1, X1 = w1.alloc (.cells #[.slice (some ⟨b1, 0, none⟩) 3 3, .slice (some ⟨b2, 0, none⟩) 4 4, .slice none 0 0, .int .i64 4, .slice (some ⟨b7, 0, none⟩) 6 6] 27) := ⟨_, rfl⟩
  have HP1 : Hid (PhAt w1 X1 gb #[.slice (some ⟨b1, 0, none⟩) 3 3, .slice (some ⟨b2, 0, none⟩) 4 4, .slice none 0 0, .int .i64 4, .slice (some ⟨b7, 0, none⟩) 6 6]) := ⟨by rw [hX1]; exact World.grownBy_alloc _ _ none, by rw [hX1, hgb]; exact heap_alloc_last w1 _⟩
  have HGW : Hid (w.grownBy w1 none) := hg1
  have HXE := show Hid _ from hX1
  have HGE := show Hid _ from hgb
  clear hG1 hg1 hX1 hgb
  go_wp2_with fail
  rw [← HXE.out, ← HGE.out]
  refine Calls.mono (HRD.out X1 HP1.out.grown) ?_
  rintro e w2 ⟨k2, g2, c2, rfl, r0, r1, hg2⟩
  have HP2 : Hid (PhAt w1 w2 gb #[.slice (some ⟨b1, 0, none⟩) 3 3, .slice (some ⟨b2, 0, none⟩) 4 4, .slice none 0 0, .int .i64 4, .slice (some ⟨b7, 0, none⟩) 6 6]) := HP1.out.kept hg2
  clear hg2 HP1 HXE HGE HRD
  obtain ⟨k0, k1, k2', k3, k4⟩ := HP2.out.cells
  go_wp2_with fail
  refine Calls.mono (HIN.out w2 HP2.out.grown) ?_
  rintro e w3 ⟨kc, a3, c3, rfl, y0, hg3⟩
  have HP3 : Hid (PhAt w1 w3 gb #[.slice (some ⟨b1, 0, none⟩) 3 3, .slice (some ⟨b2, 0, none⟩) 4 4, .slice none 0 0, .int .i64 4, .slice (some ⟨b7, 0, none⟩) 6 6]) := HP2.out.kept hg3
  have q0 := hg3.cell r0 (by simp)
  have q1 := hg3.cell r1 (by simp)
  clear hg3 HP2 HIN k0 k1 k2' k3 k4 r0 r1
  obtain ⟨k0, k1, k2', k3, k4⟩ := HP3.out.cells
  go_wp2_with fail
  refine Calls.mono (HLB.out w3 HP3.out.grown) ?_
  rintro e w4 ⟨g4, a4, c4, c5, rfl, z0, hg4⟩
  have s0 := hg4.cell q0 (by simp)
  have s1 := hg4.cell q1 (by simp)
  have s2 := hg4.cell y0 (by simp)
  have HG4 : Hid (w.grownBy w4 none) := grown_trans HGW.out (grown_trans HP3.out.grown hg4)
  clear hg4 HP3 HLB k0 k1 k2' k3 k4 q0 q1 y0 HGW
  go_wp2_with fail
  go_ret
  exact ⟨rfl, HG4.out⟩

end Go.Proofs.YthoamlahbnphkaaGreat.J

/-
  relate: the law's asked.
-/
namespace Go.Proofs.YthoamlahbnphkaaGreat.J
open Go.RowKit Go.Maps Go.Shelf

attribute [local go_sem] Oper.semAt_some

section
variable (ta na la pa : Option Addr) (tc nc lc pc : Nat) (n : Nat) (st : Int) (w : World) (tn nn ln : Nat)

set_option maxRecDepth 100000 in
set_option maxHeartbeats 1000000 in
theorem uasked_bad1 (hBU : ∀ X, w.grownBy X none → Calls Tryz.prog 22 #[.agg #[.slice ta tn tc, .slice na nn nc, .slice la ln lc, .int .i64 st, .slice pa n pc]] X fun e y => e = .returned (.tuple #[.agg #[.slice none 0 0, .int .i64 0, .int .i64 0], .int .i64 1]) ∧ X.grownBy y none)
    (hLI : ∀ X, w.grownBy X none → Calls Tryz.prog 36 #[.agg #[.slice ta tn tc, .slice na nn nc, .slice la ln lc, .int .i64 st, .slice pa n pc]] X fun e y => e = .returned (.tuple #[.slice none 0 0, .int .i64 1]) ∧ X.grownBy y none)
    (hRE : ∀ X, w.grownBy X none → (Calls Tryz.prog 12 #[.agg #[.slice ta tn tc, .slice na nn nc, .slice la ln lc, .int .i64 st, .slice pa n pc]] X fun e y => e = .returned (.tuple #[.slice none 0 0, .int .i64 1]) ∧ X.grownBy y none) ∧ (Calls Tryz.prog 13 #[.agg #[.slice ta tn tc, .slice na nn nc, .slice la ln lc, .int .i64 st, .slice pa n pc]] X fun e y => e = .returned (.tuple #[.slice none 0 0, .int .i64 1]) ∧ X.grownBy y none) ∧ (Calls Tryz.prog 14 #[.agg #[.slice ta tn tc, .slice na nn nc, .slice la ln lc, .int .i64 st, .slice pa n pc]] X fun e y => e = .returned (.tuple #[.slice none 0 0, .int .i64 1]) ∧ X.grownBy y none))
    (hCL : ∀ X, w.grownBy X none → Calls Tryz.prog 37 #[.agg #[.slice ta tn tc, .slice na nn nc, .slice la ln lc, .int .i64 st, .slice pa n pc]] X fun e y => e = .returned (.bool false) ∧ X.grownBy y none) :
    Calls Tryz.prog 18 #[.agg #[.slice ta tn tc, .slice na nn nc, .slice la ln lc, .int .i64 st, .slice pa n pc]] w fun e y => e = .returned (.tuple #[.pointer none, .bool true]) ∧ w.grownBy y none := by
  have HBU := show Hid _ from hBU
  have HLI := show Hid _ from hLI
  have HRE := show Hid _ from hRE
  have HCL := show Hid _ from hCL
  have HP0 : Hid (PhAt w (w.alloc (.cells #[.slice ta tn tc, .slice na nn nc, .slice la ln lc, .int .i64 st, .slice pa n pc] 27)) w.heap.size #[.slice ta tn tc, .slice na nn nc, .slice la ln lc, .int .i64 st, .slice pa n pc]) := ⟨World.grownBy_alloc _ _ none, heap_alloc_last w _⟩
  clear hBU hLI hRE hCL
  go_enter Tryz.func18, Tryz.ntmps18
  go_wp2_with fail
  refine Calls.mono (HBU.out _ HP0.out.grown) ?_
  rintro e w1 ⟨rfl, hg1⟩
  have HP1 : Hid (PhAt w (w1.alloc (.cells #[.slice none 0 0, .int .i64 0, .int .i64 0] 59)) w.heap.size #[.slice ta tn tc, .slice na nn nc, .slice la ln lc, .int .i64 st, .slice pa n pc]) := HP0.out.kept (grown_trans hg1 (World.grownBy_alloc _ _ none))
  clear hg1 HP0
  obtain ⟨k0, k1, k2, k3, k4⟩ := HP1.out.cells
  go_wp2_with fail
  refine Calls.mono (HLI.out _ HP1.out.grown) ?_
  rintro e w2 ⟨rfl, hg2⟩
  have HP2 : Hid (PhAt w w2 w.heap.size #[.slice ta tn tc, .slice na nn nc, .slice la ln lc, .int .i64 st, .slice pa n pc]) := HP1.out.kept hg2
  clear hg2 HP1 k0 k1 k2 k3 k4
  obtain ⟨k0, k1, k2, k3, k4⟩ := HP2.out.cells
  go_wp2_with fail
  refine Calls.mono (HRE.out _ HP2.out.grown).1 ?_
  rintro e w3 ⟨rfl, hg3⟩
  have HP3 : Hid (PhAt w w3 w.heap.size #[.slice ta tn tc, .slice na nn nc, .slice la ln lc, .int .i64 st, .slice pa n pc]) := HP2.out.kept hg3
  clear hg3 HP2 k0 k1 k2 k3 k4
  obtain ⟨k0, k1, k2, k3, k4⟩ := HP3.out.cells
  go_wp2_with fail
  refine Calls.mono (HRE.out _ HP3.out.grown).2.1 ?_
  rintro e w4 ⟨rfl, hg4⟩
  have HP4 : Hid (PhAt w w4 w.heap.size #[.slice ta tn tc, .slice na nn nc, .slice la ln lc, .int .i64 st, .slice pa n pc]) := HP3.out.kept hg4
  clear hg4 HP3 k0 k1 k2 k3 k4
  obtain ⟨k0, k1, k2, k3, k4⟩ := HP4.out.cells
  go_wp2_with fail
  refine Calls.mono (HRE.out _ HP4.out.grown).2.2 ?_
  rintro e w5 ⟨rfl, hg5⟩
  have HP5 : Hid (PhAt w w5 w.heap.size #[.slice ta tn tc, .slice na nn nc, .slice la ln lc, .int .i64 st, .slice pa n pc]) := HP4.out.kept hg5
  clear hg5 HP4 k0 k1 k2 k3 k4
  obtain ⟨k0, k1, k2, k3, k4⟩ := HP5.out.cells
  go_wp2_with fail
  refine Calls.mono (HCL.out _ HP5.out.grown) ?_
  rintro e w6 ⟨rfl, hg6⟩
  have HG6 : Hid (w.grownBy w6 none) := grown_trans HP5.out.grown hg6
  clear hg6 HP5 k0 k1 k2 k3 k4
  go_wp2_with fail
  go_ret2
  exact ⟨rfl, HG6.out⟩

set_option maxRecDepth 100000 in
set_option maxHeartbeats 1000000 in
theorem uasked_bad11 (hBU : ∀ X, w.grownBy X none → Calls Tryz.prog 22 #[.agg #[.slice ta tn tc, .slice na nn nc, .slice la ln lc, .int .i64 st, .slice pa n pc]] X fun e y => e = .returned (.tuple #[.agg #[.slice none 0 0, .int .i64 0, .int .i64 0], .int .i64 11]) ∧ X.grownBy y none)
    (hLI : ∀ X, w.grownBy X none → Calls Tryz.prog 36 #[.agg #[.slice ta tn tc, .slice na nn nc, .slice la ln lc, .int .i64 st, .slice pa n pc]] X fun e y => e = .returned (.tuple #[.slice none 0 0, .int .i64 11]) ∧ X.grownBy y none)
    (hRE : ∀ X, w.grownBy X none → (Calls Tryz.prog 12 #[.agg #[.slice ta tn tc, .slice na nn nc, .slice la ln lc, .int .i64 st, .slice pa n pc]] X fun e y => e = .returned (.tuple #[.slice none 0 0, .int .i64 11]) ∧ X.grownBy y none) ∧ (Calls Tryz.prog 13 #[.agg #[.slice ta tn tc, .slice na nn nc, .slice la ln lc, .int .i64 st, .slice pa n pc]] X fun e y => e = .returned (.tuple #[.slice none 0 0, .int .i64 11]) ∧ X.grownBy y none) ∧ (Calls Tryz.prog 14 #[.agg #[.slice ta tn tc, .slice na nn nc, .slice la ln lc, .int .i64 st, .slice pa n pc]] X fun e y => e = .returned (.tuple #[.slice none 0 0, .int .i64 11]) ∧ X.grownBy y none))
    (hCL : ∀ X, w.grownBy X none → Calls Tryz.prog 37 #[.agg #[.slice ta tn tc, .slice na nn nc, .slice la ln lc, .int .i64 st, .slice pa n pc]] X fun e y => e = .returned (.bool true) ∧ X.grownBy y none) :
    Calls Tryz.prog 18 #[.agg #[.slice ta tn tc, .slice na nn nc, .slice la ln lc, .int .i64 st, .slice pa n pc]] w fun e y => e = .returned (.tuple #[.pointer none, .bool true]) ∧ w.grownBy y none := by
  have HBU := show Hid _ from hBU
  have HLI := show Hid _ from hLI
  have HRE := show Hid _ from hRE
  have HCL := show Hid _ from hCL
  have HP0 : Hid (PhAt w (w.alloc (.cells #[.slice ta tn tc, .slice na nn nc, .slice la ln lc, .int .i64 st, .slice pa n pc] 27)) w.heap.size #[.slice ta tn tc, .slice na nn nc, .slice la ln lc, .int .i64 st, .slice pa n pc]) := ⟨World.grownBy_alloc _ _ none, heap_alloc_last w _⟩
  clear hBU hLI hRE hCL
  go_enter Tryz.func18, Tryz.ntmps18
  go_wp2_with fail
  refine Calls.mono (HBU.out _ HP0.out.grown) ?_
  rintro e w1 ⟨rfl, hg1⟩
  have HP1 : Hid (PhAt w (w1.alloc (.cells #[.slice none 0 0, .int .i64 0, .int .i64 0] 59)) w.heap.size #[.slice ta tn tc, .slice na nn nc, .slice la ln lc, .int .i64 st, .slice pa n pc]) := HP0.out.kept (grown_trans hg1 (World.grownBy_alloc _ _ none))
  clear hg1 HP0
  obtain ⟨k0, k1, k2, k3, k4⟩ := HP1.out.cells
  go_wp2_with fail
  refine Calls.mono (HLI.out _ HP1.out.grown) ?_
  rintro e w2 ⟨rfl, hg2⟩
  have HP2 : Hid (PhAt w w2 w.heap.size #[.slice ta tn tc, .slice na nn nc, .slice la ln lc, .int .i64 st, .slice pa n pc]) := HP1.out.kept hg2
  clear hg2 HP1 k0 k1 k2 k3 k4
  obtain ⟨k0, k1, k2, k3, k4⟩ := HP2.out.cells
  go_wp2_with fail
  refine Calls.mono (HRE.out _ HP2.out.grown).1 ?_
  rintro e w3 ⟨rfl, hg3⟩
  have HP3 : Hid (PhAt w w3 w.heap.size #[.slice ta tn tc, .slice na nn nc, .slice la ln lc, .int .i64 st, .slice pa n pc]) := HP2.out.kept hg3
  clear hg3 HP2 k0 k1 k2 k3 k4
  obtain ⟨k0, k1, k2, k3, k4⟩ := HP3.out.cells
  go_wp2_with fail
  refine Calls.mono (HRE.out _ HP3.out.grown).2.1 ?_
  rintro e w4 ⟨rfl, hg4⟩
  have HP4 : Hid (PhAt w w4 w.heap.size #[.slice ta tn tc, .slice na nn nc, .slice la ln lc, .int .i64 st, .slice pa n pc]) := HP3.out.kept hg4
  clear hg4 HP3 k0 k1 k2 k3 k4
  obtain ⟨k0, k1, k2, k3, k4⟩ := HP4.out.cells
  go_wp2_with fail
  refine Calls.mono (HRE.out _ HP4.out.grown).2.2 ?_
  rintro e w5 ⟨rfl, hg5⟩
  have HP5 : Hid (PhAt w w5 w.heap.size #[.slice ta tn tc, .slice na nn nc, .slice la ln lc, .int .i64 st, .slice pa n pc]) := HP4.out.kept hg5
  clear hg5 HP4 k0 k1 k2 k3 k4
  obtain ⟨k0, k1, k2, k3, k4⟩ := HP5.out.cells
  go_wp2_with fail
  refine Calls.mono (HCL.out _ HP5.out.grown) ?_
  rintro e w6 ⟨rfl, hg6⟩
  have HG6 : Hid (w.grownBy w6 none) := grown_trans HP5.out.grown hg6
  clear hg6 HP5 k0 k1 k2 k3 k4
  go_wp2_with fail
  go_ret2
  exact ⟨rfl, HG6.out⟩

/-- What asked tells. -/
def UAskTold (ta na la pa : Option Addr) (tc nc lc pc : Nat) (n : Nat) (st : Int) (tn nn ln : Nat) (tl : List It) (F : Nat → Bool) (w : World) (e : Ending) (y : World) : Prop := ∃ wb a c nb, e = .returned (.tuple #[.pointer (some ⟨wb, 0, none⟩), .bool true]) ∧ y.heap[wb]? = some (.cells #[.slice ta tn tc, .slice na nn nc, .slice la ln lc, .int .i64 st, .slice pa n pc, .slice a tl.length c, .slice (some ⟨nb, 0, none⟩) nn nn] 49 (0, 0)) ∧ y.ownsRow w.heap.size 53 2 (.slice a tl.length c) tl.length (itsV tl) ∧ ValAt y nb nn 4 (fun i => .bool (F i)) ∧ w.grownBy y none

set_option maxRecDepth 100000 in
set_option maxHeartbeats 1000000 in
theorem uasked_ok (ks : List (List It)) (es : List (List (Nat × Nat))) (tl : List It) (F : Nat → Bool) (N T : Nat) (Q1 Q2 Q3 : Nat → List Int)
    (hBU : ∀ X, w.grownBy X none → Calls Tryz.prog 22 #[.agg #[.slice ta tn tc, .slice na nn nc, .slice la ln lc, .int .i64 st, .slice pa n pc]] X fun e y => ∃ sa sc kv ev, e = .returned (.tuple #[.agg #[.slice sa ks.length sc, .int .i64 (askN es : Int), .int .i64 (ks.length : Int)], .int .i64 0]) ∧ AutP X.heap.size y (.slice sa ks.length sc) ks (elF es) kv ev ∧ X.grownBy y none)
    (hLI : ∀ X, w.grownBy X none → Calls Tryz.prog 36 #[.agg #[.slice ta tn tc, .slice na nn nc, .slice la ln lc, .int .i64 st, .slice pa n pc]] X fun e y => TrErr tl X e y)
    (hRD : ∀ X, w.grownBy X none → Calls Tryz.prog 12 #[.agg #[.slice ta tn tc, .slice na nn nc, .slice la ln lc, .int .i64 st, .slice pa n pc]] X fun e y => RelTold T Q1 X e y)
    (hIN : ∀ X, w.grownBy X none → Calls Tryz.prog 13 #[.agg #[.slice ta tn tc, .slice na nn nc, .slice la ln lc, .int .i64 st, .slice pa n pc]] X fun e y => RelTold T Q2 X e y)
    (hLB : ∀ X, w.grownBy X none → Calls Tryz.prog 14 #[.agg #[.slice ta tn tc, .slice na nn nc, .slice la ln lc, .int .i64 st, .slice pa n pc]] X fun e y => BkTold N n Q3 X e y)
    (hCL : ∀ X, w.grownBy X none → Calls Tryz.prog 37 #[.agg #[.slice ta tn tc, .slice na nn nc, .slice la ln lc, .int .i64 st, .slice pa n pc]] X fun e y => e = .returned (.bool true) ∧ X.grownBy y none)
    (hNU : ∀ X, w.grownBy X none → Calls Tryz.prog 38 #[.agg #[.slice ta tn tc, .slice na nn nc, .slice la ln lc, .int .i64 st, .slice pa n pc]] X fun e y => ∃ k, e = .returned (.tuple #[.slice (some ⟨k, 0, none⟩) nn nn, .int .i64 0]) ∧ X.heap.size ≤ k ∧ ValAt y k nn 4 (fun i => .bool (F i)) ∧ X.grownBy y none) :
    Calls Tryz.prog 18 #[.agg #[.slice ta tn tc, .slice na nn nc, .slice la ln lc, .int .i64 st, .slice pa n pc]] w fun e y => UAskTold ta na la pa tc nc lc pc n st tn nn ln tl F w e y := by
  have HBU := show Hid _ from hBU
  have HLI := show Hid _ from hLI
  have HRD := show Hid _ from hRD
  have HIN := show Hid _ from hIN
  have HLB := show Hid _ from hLB
  have HCL := show Hid _ from hCL
  have HNU := show Hid _ from hNU
  have HP0 : Hid (PhAt w (w.alloc (.cells #[.slice ta tn tc, .slice na nn nc, .slice la ln lc, .int .i64 st, .slice pa n pc] 27)) w.heap.size #[.slice ta tn tc, .slice na nn nc, .slice la ln lc, .int .i64 st, .slice pa n pc]) := ⟨World.grownBy_alloc _ _ none, heap_alloc_last w _⟩
  clear hBU hLI hRD hIN hLB hCL hNU
  go_enter Tryz.func18, Tryz.ntmps18
  go_wp2_with fail
  refine Calls.mono (HBU.out _ HP0.out.grown) ?_
  rintro e w1 ⟨sa, sc, kv, ev, rfl, _, hg1⟩
  have HP1 : Hid (PhAt w (w1.alloc (.cells #[.slice sa ks.length sc, .int .i64 (askN es : Int), .int .i64 (ks.length : Int)] 59)) w.heap.size #[.slice ta tn tc, .slice na nn nc, .slice la ln lc, .int .i64 st, .slice pa n pc]) := HP0.out.kept (grown_trans hg1 (World.grownBy_alloc _ _ none))
  clear hg1 HP0
  obtain ⟨k0, k1, k2, k3, k4⟩ := HP1.out.cells
  go_wp2_with fail
  refine Calls.mono (HLI.out _ HP1.out.grown) ?_
  rintro e w2 ⟨a, c, rfl, ho2, hg2⟩
  have HP2 : Hid (PhAt w w2 w.heap.size #[.slice ta tn tc, .slice na nn nc, .slice la ln lc, .int .i64 st, .slice pa n pc]) := HP1.out.kept hg2
  have HO2 : Hid (w2.ownsRow w.heap.size 53 2 (.slice a tl.length c) tl.length (itsV tl)) := owns_base ho2 HP1.out.grown.size
  clear hg2 ho2 HP1 k0 k1 k2 k3 k4
  obtain ⟨k0, k1, k2, k3, k4⟩ := HP2.out.cells
  go_wp2_with fail
  refine Calls.mono (HRD.out _ HP2.out.grown) ?_
  rintro e w3 ⟨P3, kb3, bx3, ua3, uc3, hp3, rfl, hl3⟩
  have hg3 := grown_trans hp3 hl3.grown
  have HP3 : Hid (PhAt w w3 w.heap.size #[.slice ta tn tc, .slice na nn nc, .slice la ln lc, .int .i64 st, .slice pa n pc]) := HP2.out.kept hg3
  have HO3 := show Hid _ from keep0 HO2.out hg3
  clear hg3 hp3 hl3 HP2 HO2 k0 k1 k2 k3 k4
  obtain ⟨k0, k1, k2, k3, k4⟩ := HP3.out.cells
  go_wp2_with fail
  refine Calls.mono (HIN.out _ HP3.out.grown) ?_
  rintro e w4 ⟨P4, kb4, bx4, ua4, uc4, hp4, rfl, hl4⟩
  have hg4 := grown_trans hp4 hl4.grown
  have HP4 : Hid (PhAt w w4 w.heap.size #[.slice ta tn tc, .slice na nn nc, .slice la ln lc, .int .i64 st, .slice pa n pc]) := HP3.out.kept hg4
  have HO4 := show Hid _ from keep0 HO3.out hg4
  clear hg4 hp4 hl4 HP3 HO3 k0 k1 k2 k3 k4
  obtain ⟨k0, k1, k2, k3, k4⟩ := HP4.out.cells
  go_wp2_with fail
  refine Calls.mono (HLB.out _ HP4.out.grown) ?_
  rintro e w5 ⟨P5, a5, c5, bx5, kb5, rb5, ua5, uc5, hp5, rfl, hl5, _⟩
  have hg5 := grown_trans hp5 hl5.grown
  have HP5 : Hid (PhAt w w5 w.heap.size #[.slice ta tn tc, .slice na nn nc, .slice la ln lc, .int .i64 st, .slice pa n pc]) := HP4.out.kept hg5
  have HO5 := show Hid _ from keep0 HO4.out hg5
  clear hg5 hp5 hl5 HP4 HO4 k0 k1 k2 k3 k4
  obtain ⟨k0, k1, k2, k3, k4⟩ := HP5.out.cells
  go_wp2_with fail
  refine Calls.mono (HCL.out _ HP5.out.grown) ?_
  rintro e w6 ⟨rfl, hg6⟩
  have HP6 : Hid (PhAt w w6 w.heap.size #[.slice ta tn tc, .slice na nn nc, .slice la ln lc, .int .i64 st, .slice pa n pc]) := HP5.out.kept hg6
  have HO6 := show Hid _ from keep0 HO5.out hg6
  clear hg6 HP5 HO5 k0 k1 k2 k3 k4
  obtain ⟨k0, k1, k2, k3, k4⟩ := HP6.out.cells
  go_wp2_with fail
  refine Calls.mono (HNU.out _ HP6.out.grown) ?_
  rintro e w7 ⟨nb, rfl, _, hv7, hg7⟩
  have HP7 : Hid (PhAt w w7 w.heap.size #[.slice ta tn tc, .slice na nn nc, .slice la ln lc, .int .i64 st, .slice pa n pc]) := HP6.out.kept hg7
  have HO7 := show Hid _ from keep0 HO6.out hg7
  have HV7 : Hid (ValAt w7 nb nn 4 (fun i => .bool (F i))) := hv7
  clear hg7 hv7 HP6 HO6 k0 k1 k2 k3 k4
  obtain ⟨k0, k1, k2, k3, k4⟩ := HP7.out.cells
  have hnn : (nn != nn) = false := bne_self_eq_false _
  have hnn2 : ((nn : Int) != (nn : Int)) = false := bne_self_eq_false _
  have hbd : ∀ u, (Instr.build 49 #[(0, .agg #[.slice ta tn tc, .slice na nn nc, .slice la ln lc, .int .i64 st, .slice pa n pc]), (1, .slice a tl.length c), (2, .slice (some ⟨nb, 0, none⟩) nn nn)]).run Tryz.prog u = .ok (.agg #[.slice ta tn tc, .slice na nn nc, .slice la ln lc, .int .i64 st, .slice pa n pc, .slice a tl.length c, .slice (some ⟨nb, 0, none⟩) nn nn]) u := fun u => run_build u _ _ _ (by kernel_rfl)
  have HFIN : Hid (UAskTold ta na la pa tc nc lc pc n st tn nn ln tl F w (.returned (.tuple #[.pointer (some ⟨w7.heap.size, 0, none⟩), .bool true])) (w7.alloc (.cells #[.slice ta tn tc, .slice na nn nc, .slice la ln lc, .int .i64 st, .slice pa n pc, .slice a tl.length c, .slice (some ⟨nb, 0, none⟩) nn nn] 49))) :=
    ⟨_, a, c, nb, rfl, heap_alloc_last w7 _, keep0 HO7.out (World.grownBy_alloc _ _ none), HV7.out.kept (World.grownBy_alloc _ _ none), grown_trans HP7.out.grown (World.grownBy_alloc _ _ none)⟩
  clear HP7 HO7 HV7
  go_wp2_with fail
  go_ret2
  exact HFIN.out
end

end Go.Proofs.YthoamlahbnphkaaGreat.J

/-
  relate: the law's has.
-/
namespace Go.Proofs.YthoamlahbnphkaaGreat.J
open Go.RowKit Go.Maps Go.Shelf

attribute [local go_sem] Oper.semAt_some

set_option maxRecDepth 100000 in
set_option maxHeartbeats 1000000 in
theorem uhas_any (w : World) (a : Option Addr) (c : Nat) (l : List Int) (hI : IntsAt w a l) (hl : l.length ≤ 1000000) (z : Int) (r : Bool) (hr : r = decide (z ∈ l)) : Calls Tryz.prog 20 #[.slice a l.length c, .int .i64 z] w fun e w' => e = .returned (.bool r) ∧ w' = w := by
  have HI := show Hid _ from hI
  have HR := show Hid _ from hr
  obtain ⟨m, hm⟩ : ∃ m, m = l.length := ⟨_, rfl⟩
  have HM := show Hid _ from hm
  rw [← hm] at hl ⊢
  clear hI hr hm
  go_enter Tryz.func20, Tryz.ntmps20
  go_wp2_with fail
  go_loopg [5] m (fun gk v5 wr => ∃ (j : Nat), j ≤ m ∧ gk = m - j ∧ v5 = .int .i64 j ∧ wr = w ∧ ∀ x ∈ l.take j, x ≠ z)
  case atStart => exact ⟨0, Nat.zero_le _, rfl, rfl, rfl, fun x hx => by simp at hx⟩
  case round =>
    obtain ⟨j, hj, hgj, rfl, rfl, hno⟩ := hrel
    have HGJ : Hid (gk = m - j) := hgj
    have HNO := show Hid _ from hno
    clear hgj hno
    by_cases hlt : j < m
    · have hjd : decide (j < m) = true := decide_eq_true hlt
      have hj0 : (0 : Int) ≤ (j : Int) := by omega
      have hj1 : (j : Int) < (m : Int) := by omega
      have hjl : j < l.length := by rw [← HM.out]; exact hlt
      obtain ⟨x, hx⟩ : ∃ x, x = l.getD j 0 := ⟨_, rfl⟩
      obtain ⟨b, o, rfl, r0⟩ : ∃ b o, a = some ⟨b, o, none⟩ ∧ wr.cell? ⟨b, o + j, none⟩ = some (.int .i64 x) := by
        rcases HI.out with h | ⟨b, o, e, h⟩
        · rw [h] at hjl; exact absurd hjl (by simp)
        · exact ⟨b, o, e, by rw [hx]; exact h j hjl⟩
      have hjw : IntKind.i64.wrap ((j : Int) + 1) = (j : Int) + 1 := by rw [IntKind.wrap_i64]; omega
      by_cases e : x = z
      · have hxz : (x == z) = true := by rw [e]; exact beq_self_eq_true _
        have HRT : Hid (r = true) := by
          show _ = _
          rw [HR.out]
          refine decide_eq_true ?_
          rw [← e, hx]
          exact getD_in hjl
        clear hx e
        go_wp2_with fail
        go_ret
        exact ⟨by rw [HRT.out]; rfl, rfl⟩
      · have hxz : (x == z) = false := beq_eq_false_iff_ne.2 e
        have HN2 : Hid (∀ y ∈ l.take (j + 1), y ≠ z) := fun y hy => by
          rw [List.take_succ_eq_append_getElem hjl] at hy
          rcases List.mem_append.1 hy with h | h
          · exact HNO.out y h
          · rw [List.mem_singleton.1 h]
            rw [hx, List.getD_eq_getElem?_getD, List.getElem?_eq_getElem hjl] at e
            exact e
        clear hx e
        go_wp2_with fail
        go_roundg (m - (j + 1))
        all_goals first
          | exact (show ∃ (j' : Nat), _ from ⟨j + 1, by omega, rfl, by go_num, rfl, HN2.out⟩)
          | (have := HGJ.out; omega)
    · have hjm : m = j := by omega
      have hjd : decide (j < m) = false := decide_eq_false hlt
      have HRF : Hid (r = false) := by
        show _ = _
        rw [HR.out]
        refine decide_eq_false fun h => HNO.out z ?_ rfl
        rw [← hjm, HM.out, List.take_length]
        exact h
      clear hjm
      go_wp2_with fail
      go_ret
      exact ⟨by rw [HRF.out]; rfl, rfl⟩

end Go.Proofs.YthoamlahbnphkaaGreat.J
