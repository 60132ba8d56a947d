import Derived.Test.YtkbjbijoekmooaaGreatQomiadnpfbhoj

/-
  relate: the law RelateIncludes, walked.
-/
namespace Go.Proofs.YtkbjbijoekmooaaGreat.J
open Go.RowKit Go.Maps Go.Shelf

attribute [local go_sem] Oper.semAt_some

section
variable (ta na la pa : Option Addr) (tc nc lc pc : Nat) (n : Nat) (st : Int) (w : World) (tn nn ln : Nat)

set_option maxRecDepth 100000 in
set_option maxHeartbeats 1000000 in
theorem uincL_bad (z : Int) (hAS : ∀ X, w.grownBy X none → Calls Tryz.prog 18 #[.agg #[.slice ta tn tc, .slice na nn nc, .slice la ln lc, .int .i64 st, .slice pa n pc]] X fun e y => e = .returned (.tuple #[.pointer none, .bool true]) ∧ X.grownBy y none) : Calls Tryz.prog 5 #[.agg #[.slice ta tn tc, .slice na nn nc, .slice la ln lc, .int .i64 st, .slice pa n pc], .int .i64 z] w fun e y => e = .returned (.bool true) ∧ w.grownBy y none := by
  have HAS := show Hid _ from hAS
  have HP0 : Hid (PhAt w (w.alloc (.cells #[.slice ta tn tc, .slice na nn nc, .slice la ln lc, .int .i64 st, .slice pa n pc] 27)) w.heap.size #[.slice ta tn tc, .slice na nn nc, .slice la ln lc, .int .i64 st, .slice pa n pc]) := ⟨World.grownBy_alloc _ _ none, heap_alloc_last w _⟩
  clear hAS
  go_enter Tryz.func5, Tryz.ntmps5
  go_wp2_with fail
  refine Calls.mono (uawake_any _) ?_
  rintro e w1 ⟨rfl, hg1⟩
  have HP1 : Hid (PhAt w w1 w.heap.size #[.slice ta tn tc, .slice na nn nc, .slice la ln lc, .int .i64 st, .slice pa n pc]) := HP0.out.kept hg1
  clear hg1 HP0
  obtain ⟨k0, k1, k2, k3, k4⟩ := HP1.out.cells
  go_wp2_with fail
  refine Calls.mono (HAS.out _ HP1.out.grown) ?_
  rintro e w2 ⟨rfl, hg2⟩
  have HG2 : Hid (w.grownBy w2 none) := grown_trans HP1.out.grown hg2
  clear hg2 HP1 k0 k1 k2 k3 k4
  go_wp2_with fail
  go_ret
  exact ⟨rfl, HG2.out⟩

set_option maxRecDepth 100000 in
set_option maxHeartbeats 4000000 in
theorem uincL_pos (N T : Nat) (tl : List It) (F : Nat → Bool) (Q : Nat → List Int) (z : Int) (i : Nat) (hz : 0 ≤ z) (hmod : z.tmod (T : Int) = (i : Int)) (hi : i < T) (hT : T = tl.length) (hT4 : T ≤ 40000)
    (htb : ∀ j, j < T → ∃ q s : Nat, tl.getD j (0, 0) = ((q : Int), (s : Int)) ∧ q < N)
    (hAS : ∀ X, w.grownBy X none → Calls Tryz.prog 18 #[.agg #[.slice ta tn tc, .slice na nn nc, .slice la ln lc, .int .i64 st, .slice pa n pc]] X fun e y => UAskTold ta na la pa tc nc lc pc n st tn nn ln tl F X e y)
    (hRD : ∀ X, w.grownBy X none → Calls Tryz.prog 13 #[.agg #[.slice ta tn tc, .slice na nn nc, .slice la ln lc, .int .i64 st, .slice pa n pc]] X fun e y => RelTold tl.length Q X e y)
    (hAH : ∀ (X : World) (wb nb : Nat) (a5 : Value) (k qi si qk sk : Nat), w.grownBy X none → X.heap[wb]? = some (.cells #[.slice ta tn tc, .slice na nn nc, .slice la ln lc, .int .i64 st, .slice pa n pc, a5, .slice (some ⟨nb, 0, none⟩) nn nn] 49 (0, 0)) → ValAt X nb nn 4 (fun i => .bool (F i)) → k < T → tl.getD i (0, 0) = ((qi : Int), (si : Int)) → tl.getD k (0, 0) = ((qk : Int), (sk : Int)) → Calls Tryz.prog 21 #[.pointer (some ⟨wb, 0, none⟩), .agg #[.int .i64 (qi : Int), .int .i64 (si : Int)], .agg #[.int .i64 (qk : Int), .int .i64 (sk : Int)]] X fun e y => e = .returned (.bool (decide ((k : Int) ∈ Q i))) ∧ X.grownBy y none)
    (hSP : (Q i).length ≤ 40000 ∧ (Q i).Pairwise (· < ·) ∧ ∀ x ∈ Q i, 0 ≤ x ∧ x < (T : Int)) :
    Calls Tryz.prog 5 #[.agg #[.slice ta tn tc, .slice na nn nc, .slice la ln lc, .int .i64 st, .slice pa n pc], .int .i64 z] w fun e y => e = .returned (.bool true) ∧ w.grownBy y none := by
  have HAS := show Hid _ from hAS
  have HRD := show Hid _ from hRD
  have HAH := show Hid _ from hAH
  have HSP := show Hid _ from hSP
  have HTB := show Hid _ from htb
  have HT := show Hid _ from hT
  have HP0 : Hid (PhAt w (w.alloc (.cells #[.slice ta tn tc, .slice na nn nc, .slice la ln lc, .int .i64 st, .slice pa n pc] 27)) w.heap.size #[.slice ta tn tc, .slice na nn nc, .slice la ln lc, .int .i64 st, .slice pa n pc]) := ⟨World.grownBy_alloc _ _ none, heap_alloc_last w _⟩
  rw [← hT] at HRD
  have hzd : decide (z < 0) = false := decide_eq_false (by omega)
  have hmw : IntKind.i64.wrap (z.tmod (T : Int)) = (i : Int) := by rw [hmod, IntKind.wrap_i64]; omega
  clear hz
  clear hAS hRD hAH hSP htb
  go_enter Tryz.func5, Tryz.ntmps5
  go_wp2_with fail
  refine Calls.mono (uawake_any _) ?_
  rintro e w1 ⟨rfl, hg1⟩
  have HP1 : Hid (PhAt w w1 w.heap.size #[.slice ta tn tc, .slice na nn nc, .slice la ln lc, .int .i64 st, .slice pa n pc]) := HP0.out.kept hg1
  clear hg1 HP0
  obtain ⟨k0, k1, k2, k3, k4⟩ := HP1.out.cells
  go_wp2_with fail
  refine Calls.mono (HAS.out _ HP1.out.grown) ?_
  rintro e w2 ⟨wb, a, c, nb, rfl, hwb, hrow, hnul, hg2⟩
  rw [← hT] at hwb hrow
  have HP2 : Hid (PhAt w w2 w.heap.size #[.slice ta tn tc, .slice na nn nc, .slice la ln lc, .int .i64 st, .slice pa n pc]) := HP1.out.kept hg2
  have HWB := show Hid _ from hwb
  have HROW : Hid (w2.ownsRow w.heap.size 53 2 (.slice a T c) T (itsV tl)) := owns_base hrow HP1.out.grown.size
  have HNUL : Hid (ValAt w2 nb nn 4 (fun i => .bool (F i))) := hnul
  clear hg2 HP1 k0 k1 k2 k3 k4 hwb hrow hnul HAS hT
  obtain ⟨k0, k1, k2, k3, k4⟩ := HP2.out.cells
  go_wp2_with fail
  refine Calls.mono (HRD.out _ HP2.out.grown) ?_
  rintro e w3 ⟨P, kb, bx, ua, uc, hP, rfl, hL⟩
  have hg3 := grown_trans hP hL.grown
  obtain ⟨wv, hwv⟩ : ∃ wv : Array Value, wv = #[.slice ta tn tc, .slice na nn nc, .slice la ln lc, .int .i64 st, .slice pa n pc, .slice a T c, .slice (some ⟨nb, 0, none⟩) nn nn] := ⟨_, rfl⟩
  have HWV := show Hid _ from hwv
  have HW3 : Hid (LwP w w3 #[.slice ta tn tc, .slice na nn nc, .slice la ln lc, .int .i64 st, .slice pa n pc] wv wb nb nn T kb a c tl F Q ua uc) := ⟨HP2.out.kept hg3, by rw [hwv]; exact box_kept HWB.out hg3, keep0 HROW.out hg3, HNUL.out.kept hg3, hL.val, fun k hk => ints_of (hL.own k hk)⟩
  have HWF : Hid (∀ X, w3.grownBy X none → LwP w X #[.slice ta tn tc, .slice na nn nc, .slice la ln lc, .int .i64 st, .slice pa n pc] wv wb nb nn T kb a c tl F Q ua uc) := fun X hX => HW3.out.kept hX
  have HWC : Hid (∀ X, w3.grownBy X none → X.cell? ⟨wb, 5, none⟩ = some (.slice a T c) ∧ X.cell? ⟨wb, 6, none⟩ = some (.slice (some ⟨nb, 0, none⟩) nn nn)) := fun X hX => by
    have h := (HWF.out X hX).wbox
    rw [HWV.out] at h
    exact ⟨(wv_cells h).2.2.1, (wv_cells h).2.2.2⟩
  obtain ⟨b5, b6⟩ := HWC.out w3 (grown_refl _ _)
  have hTT : ((T : Int) != (T : Int)) = false := bne_self_eq_false _
  have hTT2 : (T != T) = false := bne_self_eq_false _
  have hT0 : ((T : Int) == 0) = false := beq_eq_false_iff_ne.2 (by omega)
  have hT1 : (T == 0) = false := beq_eq_false_iff_ne.2 (by omega)
  clear hP hL hg3 k0 k1 k2 k3 k4 HP2 HWB HROW HNUL HRD hwv HW3
  go_wp2_with fail
  clear b5 b6 hTT hTT2 hT0 hT1
  have hi0 : (0 : Int) ≤ (i : Int) := by omega
  have hi1 : (i : Int) < (T : Int) := by omega
  obtain ⟨qi, si, hqsi, _⟩ := HTB.out i hi
  obtain ⟨xg, rfl, _, _⟩ := (HWF.out w3 (grown_refl _ _)).tr HT.out hi hqsi
  have HTR : Hid (∀ X, w3.grownBy X none → ∀ j q s : Nat, j < T → tl.getD j (0, 0) = ((q : Int), (s : Int)) → X.cell? ⟨xg, j * 2, none⟩ = some (.int .i64 (q : Int)) ∧ X.cell? ⟨xg, j * 2 + 1, none⟩ = some (.int .i64 (s : Int))) := fun X hX j q s hj e => by
    obtain ⟨xg', e1, h1, h2⟩ := (HWF.out X hX).tr HT.out hj e
    simp only [Option.some.injEq, Addr.mk.injEq, and_true] at e1
    rw [e1]
    exact ⟨h1, h2⟩
  have HQSI := show Hid _ from hqsi
  obtain ⟨m, hm⟩ : ∃ m, m = (Q i).length := ⟨_, rfl⟩
  have hm4 : m ≤ 40000 := by rw [hm]; exact HSP.out.1
  obtain ⟨ul, hul⟩ : ∃ x, x = ua i := ⟨_, rfl⟩
  obtain ⟨cl, hcl⟩ : ∃ x, x = uc i := ⟨_, rfl⟩
  have HLC : Hid (∀ X, w3.grownBy X none → X.cell? ⟨kb, i, none⟩ = some (.slice ul m cl)) := fun X hX => by
    rw [hul, hm, hcl]
    exact (HWF.out X hX).val.cell i hi
  have HLI : Hid (∀ X, w3.grownBy X none → IntsAt X ul (Q i)) := fun X hX => by
    rw [hul]
    exact (HWF.out X hX).ints i hi
  have HM := show Hid _ from hm
  clear hm hul hcl hqsi
  go_loopg [11] T (fun gk v11 wr => ∃ (k : Nat), k ≤ T ∧ gk = T - k ∧ v11 = .int .i64 k ∧ w3.grownBy wr none)
  case atStart => exact ⟨0, Nat.zero_le _, rfl, rfl, grown_refl _ _⟩
  case round =>
    obtain ⟨k, hk, hgk, rfl, hg⟩ := hrel
    have HGK : Hid (gk = T - k) := hgk
    have HG5 : Hid (w3.grownBy wr none) := hg
    clear hgk hg
    generalize wr = X at *
    obtain ⟨b5, b6⟩ := HWC.out X HG5.out
    by_cases hltk : k < T ∧ k < 60
    · obtain ⟨hltk, hk60⟩ := hltk
      have hkd : decide (k < T) = true := decide_eq_true hltk
      have hkd2 : decide ((k : Int) < 60) = true := decide_eq_true (by omega)
      have hkd3 : decide (k < 60) = true := decide_eq_true hk60
      have hk0 : (0 : Int) ≤ (k : Int) := by omega
      have hk1 : (k : Int) < (T : Int) := by omega
      obtain ⟨qk, sk, hqsk, _⟩ := HTB.out k hltk
      have hkw : IntKind.i64.wrap ((k : Int) + 1) = (k : Int) + 1 := by rw [IntKind.wrap_i64]; omega
      obtain ⟨rv, hrv⟩ : ∃ rv, rv = decide ((k : Int) ∈ Q i) := ⟨_, rfl⟩
      have HRV := show Hid _ from hrv
      haveI hne : Nonempty (WBox (fun x => X.grownBy x none)) := ⟨⟨_, grown_refl _ _⟩⟩
      have HXI : Hid (∀ Z, w3.grownBy Z none → Z.cell? ⟨xg, i * 2, none⟩ = some (.int .i64 (qi : Int)) ∧ Z.cell? ⟨xg, i * 2 + 1, none⟩ = some (.int .i64 (si : Int)) ∧ Z.cell? ⟨xg, k * 2, none⟩ = some (.int .i64 (qk : Int)) ∧ Z.cell? ⟨xg, k * 2 + 1, none⟩ = some (.int .i64 (sk : Int))) := fun Z hZ => ⟨(HTR.out Z hZ i qi si hi HQSI.out).1, (HTR.out Z hZ i qi si hi HQSI.out).2, HTR.out Z hZ k qk sk hltk hqsk⟩
      have x0 := fun s : WBox (fun x => X.grownBy x none) => (HXI.out s.w (grown_trans HG5.out s.ok)).1
      have x1 := fun s : WBox (fun x => X.grownBy x none) => (HXI.out s.w (grown_trans HG5.out s.ok)).2.1
      have x2 := fun s : WBox (fun x => X.grownBy x none) => (HXI.out s.w (grown_trans HG5.out s.ok)).2.2.1
      have x3 := fun s : WBox (fun x => X.grownBy x none) => (HXI.out s.w (grown_trans HG5.out s.ok)).2.2.2
      have x5 := fun s : WBox (fun x => X.grownBy x none) => (HWC.out s.w (grown_trans HG5.out s.ok)).1
      have K1 : Hid (∀ s : WBox (fun x => X.grownBy x none), Calls Tryz.prog 21 #[.pointer (some ⟨wb, 0, none⟩), .agg #[.int .i64 (qi : Int), .int .i64 (si : Int)], .agg #[.int .i64 (qk : Int), .int .i64 (sk : Int)]] s.w fun e w' => e = .returned (.bool rv) ∧ ∃ s' : WBox (fun x => X.grownBy x none), w' = s'.w) := fun s => calls_class ((HAH.out s.w wb nb _ k qi si qk sk (HWF.out s.w (grown_trans HG5.out s.ok)).ph.grown (by have h := (HWF.out s.w (grown_trans HG5.out s.ok)).wbox; rw [HWV.out] at h; exact h) (HWF.out s.w (grown_trans HG5.out s.ok)).nul hltk HQSI.out hqsk).mono fun e w' h => ⟨by rw [HRV.out]; exact h.1, grown_trans s.ok h.2⟩)
      have HHAS : Hid (∀ Z, w3.grownBy Z none → Calls Tryz.prog 20 #[.slice ul m cl, .int .i64 (k : Int)] Z fun e w' => e = .returned (.bool rv) ∧ w' = Z) := fun Z hZ => by
        rw [HM.out]
        exact uhas_any Z ul cl (Q i) (HLI.out Z hZ) (by rw [← HM.out]; omega) (k : Int) rv HRV.out
      have hff : (rv != rv) = false := bne_self_eq_false _
      clear hrv
      go_wp2_with fail
      refine wp_region_class (p := fun x => X.grownBy x none) (by kernel_rfl) (by kernel_rfl) (by first | exact grown_drewN _ _ | exact grown_trans (grown_drewN _ _) (grown_drewN _ _)) ?_
      repeat (go_big_quiet_step (first | (go_at_call 21; rename_i s; with_reducible exact K1.out s)))
      refine wpQuiet_nil ?_
      rintro _ ⟨s, rfl⟩
      have HGS : Hid (w3.grownBy s.w none) := grown_trans HG5.out s.ok
      generalize s.w = Z at HGS ⊢
      clear x0 x1 x2 x3 x5 K1 b5 b6
      have l0 := HLC.out Z HGS.out
      go_wp2_with fail
      refine Calls.mono (HHAS.out _ HGS.out) ?_
      rintro e w5 ⟨rfl, rfl⟩
      go_wp2_with fail
      go_roundg (T - (k + 1))
      all_goals first
        | exact (show ∃ (k' : Nat), _ from ⟨k + 1, by omega, rfl, by go_num, HGS.out⟩)
        | (have := HGK.out; omega)
    · have HLAST : Hid True := trivial
      by_cases hlt2 : k < T
      · have hkd : decide (k < T) = true := decide_eq_true hlt2
        have hkd2 : decide ((k : Int) < 60) = false := decide_eq_false (by omega)
        have hkd3 : decide (k < 60) = false := decide_eq_false (by omega)
        go_wp2_with fail
        clear b5 b6
        go_loopg [13] m (fun gk v13 wr => ∃ (j : Nat), j ≤ m ∧ gk = m - j ∧ v13 = .int .i64 j ∧ w3.grownBy wr none)
        case atStart => exact ⟨0, Nat.zero_le _, rfl, rfl, HG5.out⟩
        case round =>
          obtain ⟨j, hj, hgj, rfl, hg⟩ := hrel
          have HGJ : Hid (gk = m - j) := hgj
          have HG6 : Hid (w3.grownBy wr none) := hg
          clear hgj hg HG5
          generalize wr = Z at *
          obtain ⟨b5, b6⟩ := HWC.out Z HG6.out
          have l0 := HLC.out Z HG6.out
          by_cases hltj : j < m
          · have hjl : j < (Q i).length := by rw [← HM.out]; exact hltj
            obtain ⟨x, hx⟩ : ∃ x, x = (Q i).getD j 0 := ⟨_, rfl⟩
            have hxr := HSP.out.2.2 _ (getD_in (d := 0) hjl)
            rw [← hx] at hxr
            have hx0 : decide (x < 0) = false := decide_eq_false (by omega)
            have hx1 : decide ((T : Int) ≤ x) = false := decide_eq_false (by omega)
            obtain ⟨ib, io, rfl, hc⟩ : ∃ ib io, ul = some ⟨ib, io, none⟩ ∧ ∀ j, j < (Q i).length → Z.cell? ⟨ib, io + j, none⟩ = some (.int .i64 ((Q i).getD j 0)) := by
              rcases HLI.out Z HG6.out with h | ⟨ib, io, e, h⟩
              · rw [h] at hjl; exact absurd hjl (by simp)
              · exact ⟨ib, io, e, h⟩
            have r0 := hc j hjl
            rw [← hx] at r0
            cases j with
            | zero =>
              have hjd : decide (0 < m) = true := decide_eq_true hltj
              have hm1 : (0 : Int) < (m : Int) := by omega
              rw [Nat.add_zero] at r0
              clear hx hc hxr
              go_wp2_with fail
              go_quiet (fail)
              go_wp2_with fail
              go_roundg (m - (0 + 1))
              all_goals first
                | exact (show ∃ (j' : Nat), _ from ⟨0 + 1, by omega, rfl, by go_num, grown_trans HG6.out (grown_drewN _ _)⟩)
                | (have := HGJ.out; omega)
            | succ j =>
              have hjd : decide (j + 1 < m) = true := decide_eq_true hltj
              obtain ⟨x', hx'⟩ : ∃ x, x = (Q i).getD j 0 := ⟨_, rfl⟩
              have r1 := hc j (by omega)
              rw [← hx'] at r1
              have hxx : decide (x ≤ x') = false := by
                refine decide_eq_false ?_
                have h := List.pairwise_iff_getElem.1 HSP.out.2.1 j (j + 1) (by omega) hjl (by omega)
                rw [hx, hx', List.getD_eq_getElem?_getD, List.getD_eq_getElem?_getD, List.getElem?_eq_getElem hjl, List.getElem?_eq_getElem (show j < (Q i).length by omega)]
                simp only [Option.getD_some]
                omega
              have e14 : ((j + 1 : Nat) : Int) = (j : Int) + 1 := by omega
              have hj1 : (0 : Int) ≤ (j : Int) + 1 := by omega
              have hj2 : (j : Int) + 1 < (m : Int) := by omega
              have hj3 : (0 : Int) < (j : Int) + 1 := by omega
              have hj4 : decide ((0 : Int) < (j : Int) + 1) = true := decide_eq_true hj3
              have hj5 : (j : Int) < (m : Int) := by omega
              have hj6 : (0 : Int) ≤ (j : Int) := by omega
              have hj7 : decide ((j : Int) + 1 < (m : Int)) = true := decide_eq_true hj2
              have hmw : IntKind.i64.wrap ((j : Int) + 1 - 1) = (j : Int) := by rw [IntKind.wrap_i64]; omega
              have hmw2 : IntKind.i64.wrap (j : Int) = (j : Int) := by rw [IntKind.wrap_i64]; omega
              have hmw4 : (j : Int) + 1 - 1 = (j : Int) := by omega
              have hmw5 : IntKind.i64.wrap ((j : Int) + 1 + 1) = (j : Int) + 1 + 1 := by rw [IntKind.wrap_i64]; omega
              rw [e14]
              clear hx hc hxr hx' e14
              go_wp2_with fail
              go_quiet (fail)
              go_wp2_with fail
              go_roundg (m - (j + 1 + 1))
              all_goals first
                | exact (show ∃ (j' : Nat), _ from ⟨j + 1 + 1, by omega, rfl, by go_num, grown_trans HG6.out (grown_drewN _ _)⟩)
                | (have := HGJ.out; omega)
          · have hjd : decide (j < m) = false := decide_eq_false hltj
            go_wp2_with fail
            go_ret
            exact ⟨rfl, (HWF.out Z HG6.out).ph.grown⟩
      · have hkd : decide (k < T) = false := decide_eq_false hlt2
        go_wp2_with fail
        clear b5 b6
        go_loopg [13] m (fun gk v13 wr => ∃ (j : Nat), j ≤ m ∧ gk = m - j ∧ v13 = .int .i64 j ∧ w3.grownBy wr none)
        case atStart => exact ⟨0, Nat.zero_le _, rfl, rfl, HG5.out⟩
        case round =>
          obtain ⟨j, hj, hgj, rfl, hg⟩ := hrel
          have HGJ : Hid (gk = m - j) := hgj
          have HG6 : Hid (w3.grownBy wr none) := hg
          clear hgj hg HG5
          generalize wr = Z at *
          obtain ⟨b5, b6⟩ := HWC.out Z HG6.out
          have l0 := HLC.out Z HG6.out
          by_cases hltj : j < m
          · have hjl : j < (Q i).length := by rw [← HM.out]; exact hltj
            obtain ⟨x, hx⟩ : ∃ x, x = (Q i).getD j 0 := ⟨_, rfl⟩
            have hxr := HSP.out.2.2 _ (getD_in (d := 0) hjl)
            rw [← hx] at hxr
            have hx0 : decide (x < 0) = false := decide_eq_false (by omega)
            have hx1 : decide ((T : Int) ≤ x) = false := decide_eq_false (by omega)
            obtain ⟨ib, io, rfl, hc⟩ : ∃ ib io, ul = some ⟨ib, io, none⟩ ∧ ∀ j, j < (Q i).length → Z.cell? ⟨ib, io + j, none⟩ = some (.int .i64 ((Q i).getD j 0)) := by
              rcases HLI.out Z HG6.out with h | ⟨ib, io, e, h⟩
              · rw [h] at hjl; exact absurd hjl (by simp)
              · exact ⟨ib, io, e, h⟩
            have r0 := hc j hjl
            rw [← hx] at r0
            cases j with
            | zero =>
              have hjd : decide (0 < m) = true := decide_eq_true hltj
              have hm1 : (0 : Int) < (m : Int) := by omega
              rw [Nat.add_zero] at r0
              clear hx hc hxr
              go_wp2_with fail
              go_quiet (fail)
              go_wp2_with fail
              go_roundg (m - (0 + 1))
              all_goals first
                | exact (show ∃ (j' : Nat), _ from ⟨0 + 1, by omega, rfl, by go_num, grown_trans HG6.out (grown_drewN _ _)⟩)
                | (have := HGJ.out; omega)
            | succ j =>
              have hjd : decide (j + 1 < m) = true := decide_eq_true hltj
              obtain ⟨x', hx'⟩ : ∃ x, x = (Q i).getD j 0 := ⟨_, rfl⟩
              have r1 := hc j (by omega)
              rw [← hx'] at r1
              have hxx : decide (x ≤ x') = false := by
                refine decide_eq_false ?_
                have h := List.pairwise_iff_getElem.1 HSP.out.2.1 j (j + 1) (by omega) hjl (by omega)
                rw [hx, hx', List.getD_eq_getElem?_getD, List.getD_eq_getElem?_getD, List.getElem?_eq_getElem hjl, List.getElem?_eq_getElem (show j < (Q i).length by omega)]
                simp only [Option.getD_some]
                omega
              have e14 : ((j + 1 : Nat) : Int) = (j : Int) + 1 := by omega
              have hj1 : (0 : Int) ≤ (j : Int) + 1 := by omega
              have hj2 : (j : Int) + 1 < (m : Int) := by omega
              have hj3 : (0 : Int) < (j : Int) + 1 := by omega
              have hj4 : decide ((0 : Int) < (j : Int) + 1) = true := decide_eq_true hj3
              have hj5 : (j : Int) < (m : Int) := by omega
              have hj6 : (0 : Int) ≤ (j : Int) := by omega
              have hj7 : decide ((j : Int) + 1 < (m : Int)) = true := decide_eq_true hj2
              have hmw : IntKind.i64.wrap ((j : Int) + 1 - 1) = (j : Int) := by rw [IntKind.wrap_i64]; omega
              have hmw2 : IntKind.i64.wrap (j : Int) = (j : Int) := by rw [IntKind.wrap_i64]; omega
              have hmw4 : (j : Int) + 1 - 1 = (j : Int) := by omega
              have hmw5 : IntKind.i64.wrap ((j : Int) + 1 + 1) = (j : Int) + 1 + 1 := by rw [IntKind.wrap_i64]; omega
              rw [e14]
              clear hx hc hxr hx' e14
              go_wp2_with fail
              go_quiet (fail)
              go_wp2_with fail
              go_roundg (m - (j + 1 + 1))
              all_goals first
                | exact (show ∃ (j' : Nat), _ from ⟨j + 1 + 1, by omega, rfl, by go_num, grown_trans HG6.out (grown_drewN _ _)⟩)
                | (have := HGJ.out; omega)
          · have hjd : decide (j < m) = false := decide_eq_false hltj
            go_wp2_with fail
            go_ret
            exact ⟨rfl, (HWF.out Z HG6.out).ph.grown⟩

set_option maxRecDepth 100000 in
set_option maxHeartbeats 4000000 in
theorem uincL_neg (N T : Nat) (tl : List It) (F : Nat → Bool) (Q : Nat → List Int) (z : Int) (i : Nat) (hz : z < 0) (hzl : -9223372036854775808 ≤ z) (hmod : (-(z + 1)).tmod (T : Int) = (i : Int)) (hi : i < T) (hT : T = tl.length) (hT4 : T ≤ 40000)
    (htb : ∀ j, j < T → ∃ q s : Nat, tl.getD j (0, 0) = ((q : Int), (s : Int)) ∧ q < N)
    (hAS : ∀ X, w.grownBy X none → Calls Tryz.prog 18 #[.agg #[.slice ta tn tc, .slice na nn nc, .slice la ln lc, .int .i64 st, .slice pa n pc]] X fun e y => UAskTold ta na la pa tc nc lc pc n st tn nn ln tl F X e y)
    (hRD : ∀ X, w.grownBy X none → Calls Tryz.prog 13 #[.agg #[.slice ta tn tc, .slice na nn nc, .slice la ln lc, .int .i64 st, .slice pa n pc]] X fun e y => RelTold tl.length Q X e y)
    (hAH : ∀ (X : World) (wb nb : Nat) (a5 : Value) (k qi si qk sk : Nat), w.grownBy X none → X.heap[wb]? = some (.cells #[.slice ta tn tc, .slice na nn nc, .slice la ln lc, .int .i64 st, .slice pa n pc, a5, .slice (some ⟨nb, 0, none⟩) nn nn] 49 (0, 0)) → ValAt X nb nn 4 (fun i => .bool (F i)) → k < T → tl.getD i (0, 0) = ((qi : Int), (si : Int)) → tl.getD k (0, 0) = ((qk : Int), (sk : Int)) → Calls Tryz.prog 21 #[.pointer (some ⟨wb, 0, none⟩), .agg #[.int .i64 (qi : Int), .int .i64 (si : Int)], .agg #[.int .i64 (qk : Int), .int .i64 (sk : Int)]] X fun e y => e = .returned (.bool (decide ((k : Int) ∈ Q i))) ∧ X.grownBy y none)
    (hSP : (Q i).length ≤ 40000 ∧ (Q i).Pairwise (· < ·) ∧ ∀ x ∈ Q i, 0 ≤ x ∧ x < (T : Int)) :
    Calls Tryz.prog 5 #[.agg #[.slice ta tn tc, .slice na nn nc, .slice la ln lc, .int .i64 st, .slice pa n pc], .int .i64 z] w fun e y => e = .returned (.bool true) ∧ w.grownBy y none := by
  have HAS := show Hid _ from hAS
  have HRD := show Hid _ from hRD
  have HAH := show Hid _ from hAH
  have HSP := show Hid _ from hSP
  have HTB := show Hid _ from htb
  have HT := show Hid _ from hT
  have HP0 : Hid (PhAt w (w.alloc (.cells #[.slice ta tn tc, .slice na nn nc, .slice la ln lc, .int .i64 st, .slice pa n pc] 27)) w.heap.size #[.slice ta tn tc, .slice na nn nc, .slice la ln lc, .int .i64 st, .slice pa n pc]) := ⟨World.grownBy_alloc _ _ none, heap_alloc_last w _⟩
  rw [← hT] at HRD
  have hzd : decide (z < 0) = true := decide_eq_true hz
  have hw1 : IntKind.i64.wrap (z + 1) = z + 1 := by rw [IntKind.wrap_i64]; omega
  have hw2 : IntKind.i64.wrap (-(z + 1)) = -(z + 1) := by rw [IntKind.wrap_i64]; omega
  have hmw : IntKind.i64.wrap ((-(z + 1)).tmod (T : Int)) = (i : Int) := by rw [hmod, IntKind.wrap_i64]; omega
  clear hz hzl
  clear hAS hRD hAH hSP htb
  go_enter Tryz.func5, Tryz.ntmps5
  go_wp2_with fail
  refine Calls.mono (uawake_any _) ?_
  rintro e w1 ⟨rfl, hg1⟩
  have HP1 : Hid (PhAt w w1 w.heap.size #[.slice ta tn tc, .slice na nn nc, .slice la ln lc, .int .i64 st, .slice pa n pc]) := HP0.out.kept hg1
  clear hg1 HP0
  obtain ⟨k0, k1, k2, k3, k4⟩ := HP1.out.cells
  go_wp2_with fail
  refine Calls.mono (HAS.out _ HP1.out.grown) ?_
  rintro e w2 ⟨wb, a, c, nb, rfl, hwb, hrow, hnul, hg2⟩
  rw [← hT] at hwb hrow
  have HP2 : Hid (PhAt w w2 w.heap.size #[.slice ta tn tc, .slice na nn nc, .slice la ln lc, .int .i64 st, .slice pa n pc]) := HP1.out.kept hg2
  have HWB := show Hid _ from hwb
  have HROW : Hid (w2.ownsRow w.heap.size 53 2 (.slice a T c) T (itsV tl)) := owns_base hrow HP1.out.grown.size
  have HNUL : Hid (ValAt w2 nb nn 4 (fun i => .bool (F i))) := hnul
  clear hg2 HP1 k0 k1 k2 k3 k4 hwb hrow hnul HAS hT
  obtain ⟨k0, k1, k2, k3, k4⟩ := HP2.out.cells
  go_wp2_with fail
  refine Calls.mono (HRD.out _ HP2.out.grown) ?_
  rintro e w3 ⟨P, kb, bx, ua, uc, hP, rfl, hL⟩
  have hg3 := grown_trans hP hL.grown
  obtain ⟨wv, hwv⟩ : ∃ wv : Array Value, wv = #[.slice ta tn tc, .slice na nn nc, .slice la ln lc, .int .i64 st, .slice pa n pc, .slice a T c, .slice (some ⟨nb, 0, none⟩) nn nn] := ⟨_, rfl⟩
  have HWV := show Hid _ from hwv
  have HW3 : Hid (LwP w w3 #[.slice ta tn tc, .slice na nn nc, .slice la ln lc, .int .i64 st, .slice pa n pc] wv wb nb nn T kb a c tl F Q ua uc) := ⟨HP2.out.kept hg3, by rw [hwv]; exact box_kept HWB.out hg3, keep0 HROW.out hg3, HNUL.out.kept hg3, hL.val, fun k hk => ints_of (hL.own k hk)⟩
  have HWF : Hid (∀ X, w3.grownBy X none → LwP w X #[.slice ta tn tc, .slice na nn nc, .slice la ln lc, .int .i64 st, .slice pa n pc] wv wb nb nn T kb a c tl F Q ua uc) := fun X hX => HW3.out.kept hX
  have HWC : Hid (∀ X, w3.grownBy X none → X.cell? ⟨wb, 5, none⟩ = some (.slice a T c) ∧ X.cell? ⟨wb, 6, none⟩ = some (.slice (some ⟨nb, 0, none⟩) nn nn)) := fun X hX => by
    have h := (HWF.out X hX).wbox
    rw [HWV.out] at h
    exact ⟨(wv_cells h).2.2.1, (wv_cells h).2.2.2⟩
  obtain ⟨b5, b6⟩ := HWC.out w3 (grown_refl _ _)
  have hTT : ((T : Int) != (T : Int)) = false := bne_self_eq_false _
  have hTT2 : (T != T) = false := bne_self_eq_false _
  have hT0 : ((T : Int) == 0) = false := beq_eq_false_iff_ne.2 (by omega)
  have hT1 : (T == 0) = false := beq_eq_false_iff_ne.2 (by omega)
  clear hP hL hg3 k0 k1 k2 k3 k4 HP2 HWB HROW HNUL HRD hwv HW3
  go_wp2_with fail
  clear b5 b6 hTT hTT2 hT0 hT1
  have hi0 : (0 : Int) ≤ (i : Int) := by omega
  have hi1 : (i : Int) < (T : Int) := by omega
  obtain ⟨qi, si, hqsi, _⟩ := HTB.out i hi
  obtain ⟨xg, rfl, _, _⟩ := (HWF.out w3 (grown_refl _ _)).tr HT.out hi hqsi
  have HTR : Hid (∀ X, w3.grownBy X none → ∀ j q s : Nat, j < T → tl.getD j (0, 0) = ((q : Int), (s : Int)) → X.cell? ⟨xg, j * 2, none⟩ = some (.int .i64 (q : Int)) ∧ X.cell? ⟨xg, j * 2 + 1, none⟩ = some (.int .i64 (s : Int))) := fun X hX j q s hj e => by
    obtain ⟨xg', e1, h1, h2⟩ := (HWF.out X hX).tr HT.out hj e
    simp only [Option.some.injEq, Addr.mk.injEq, and_true] at e1
    rw [e1]
    exact ⟨h1, h2⟩
  have HQSI := show Hid _ from hqsi
  obtain ⟨m, hm⟩ : ∃ m, m = (Q i).length := ⟨_, rfl⟩
  have hm4 : m ≤ 40000 := by rw [hm]; exact HSP.out.1
  obtain ⟨ul, hul⟩ : ∃ x, x = ua i := ⟨_, rfl⟩
  obtain ⟨cl, hcl⟩ : ∃ x, x = uc i := ⟨_, rfl⟩
  have HLC : Hid (∀ X, w3.grownBy X none → X.cell? ⟨kb, i, none⟩ = some (.slice ul m cl)) := fun X hX => by
    rw [hul, hm, hcl]
    exact (HWF.out X hX).val.cell i hi
  have HLI : Hid (∀ X, w3.grownBy X none → IntsAt X ul (Q i)) := fun X hX => by
    rw [hul]
    exact (HWF.out X hX).ints i hi
  have HM := show Hid _ from hm
  clear hm hul hcl hqsi
  go_loopg [11] T (fun gk v11 wr => ∃ (k : Nat), k ≤ T ∧ gk = T - k ∧ v11 = .int .i64 k ∧ w3.grownBy wr none)
  case atStart => exact ⟨0, Nat.zero_le _, rfl, rfl, grown_refl _ _⟩
  case round =>
    obtain ⟨k, hk, hgk, rfl, hg⟩ := hrel
    have HGK : Hid (gk = T - k) := hgk
    have HG5 : Hid (w3.grownBy wr none) := hg
    clear hgk hg
    generalize wr = X at *
    obtain ⟨b5, b6⟩ := HWC.out X HG5.out
    by_cases hltk : k < T ∧ k < 60
    · obtain ⟨hltk, hk60⟩ := hltk
      have hkd : decide (k < T) = true := decide_eq_true hltk
      have hkd2 : decide ((k : Int) < 60) = true := decide_eq_true (by omega)
      have hkd3 : decide (k < 60) = true := decide_eq_true hk60
      have hk0 : (0 : Int) ≤ (k : Int) := by omega
      have hk1 : (k : Int) < (T : Int) := by omega
      obtain ⟨qk, sk, hqsk, _⟩ := HTB.out k hltk
      have hkw : IntKind.i64.wrap ((k : Int) + 1) = (k : Int) + 1 := by rw [IntKind.wrap_i64]; omega
      obtain ⟨rv, hrv⟩ : ∃ rv, rv = decide ((k : Int) ∈ Q i) := ⟨_, rfl⟩
      have HRV := show Hid _ from hrv
      haveI hne : Nonempty (WBox (fun x => X.grownBy x none)) := ⟨⟨_, grown_refl _ _⟩⟩
      have HXI : Hid (∀ Z, w3.grownBy Z none → Z.cell? ⟨xg, i * 2, none⟩ = some (.int .i64 (qi : Int)) ∧ Z.cell? ⟨xg, i * 2 + 1, none⟩ = some (.int .i64 (si : Int)) ∧ Z.cell? ⟨xg, k * 2, none⟩ = some (.int .i64 (qk : Int)) ∧ Z.cell? ⟨xg, k * 2 + 1, none⟩ = some (.int .i64 (sk : Int))) := fun Z hZ => ⟨(HTR.out Z hZ i qi si hi HQSI.out).1, (HTR.out Z hZ i qi si hi HQSI.out).2, HTR.out Z hZ k qk sk hltk hqsk⟩
      have x0 := fun s : WBox (fun x => X.grownBy x none) => (HXI.out s.w (grown_trans HG5.out s.ok)).1
      have x1 := fun s : WBox (fun x => X.grownBy x none) => (HXI.out s.w (grown_trans HG5.out s.ok)).2.1
      have x2 := fun s : WBox (fun x => X.grownBy x none) => (HXI.out s.w (grown_trans HG5.out s.ok)).2.2.1
      have x3 := fun s : WBox (fun x => X.grownBy x none) => (HXI.out s.w (grown_trans HG5.out s.ok)).2.2.2
      have x5 := fun s : WBox (fun x => X.grownBy x none) => (HWC.out s.w (grown_trans HG5.out s.ok)).1
      have K1 : Hid (∀ s : WBox (fun x => X.grownBy x none), Calls Tryz.prog 21 #[.pointer (some ⟨wb, 0, none⟩), .agg #[.int .i64 (qi : Int), .int .i64 (si : Int)], .agg #[.int .i64 (qk : Int), .int .i64 (sk : Int)]] s.w fun e w' => e = .returned (.bool rv) ∧ ∃ s' : WBox (fun x => X.grownBy x none), w' = s'.w) := fun s => calls_class ((HAH.out s.w wb nb _ k qi si qk sk (HWF.out s.w (grown_trans HG5.out s.ok)).ph.grown (by have h := (HWF.out s.w (grown_trans HG5.out s.ok)).wbox; rw [HWV.out] at h; exact h) (HWF.out s.w (grown_trans HG5.out s.ok)).nul hltk HQSI.out hqsk).mono fun e w' h => ⟨by rw [HRV.out]; exact h.1, grown_trans s.ok h.2⟩)
      have HHAS : Hid (∀ Z, w3.grownBy Z none → Calls Tryz.prog 20 #[.slice ul m cl, .int .i64 (k : Int)] Z fun e w' => e = .returned (.bool rv) ∧ w' = Z) := fun Z hZ => by
        rw [HM.out]
        exact uhas_any Z ul cl (Q i) (HLI.out Z hZ) (by rw [← HM.out]; omega) (k : Int) rv HRV.out
      have hff : (rv != rv) = false := bne_self_eq_false _
      clear hrv
      go_wp2_with fail
      refine wp_region_class (p := fun x => X.grownBy x none) (by kernel_rfl) (by kernel_rfl) (by first | exact grown_drewN _ _ | exact grown_trans (grown_drewN _ _) (grown_drewN _ _)) ?_
      repeat (go_big_quiet_step (first | (go_at_call 21; rename_i s; with_reducible exact K1.out s)))
      refine wpQuiet_nil ?_
      rintro _ ⟨s, rfl⟩
      have HGS : Hid (w3.grownBy s.w none) := grown_trans HG5.out s.ok
      generalize s.w = Z at HGS ⊢
      clear x0 x1 x2 x3 x5 K1 b5 b6
      have l0 := HLC.out Z HGS.out
      go_wp2_with fail
      refine Calls.mono (HHAS.out _ HGS.out) ?_
      rintro e w5 ⟨rfl, rfl⟩
      go_wp2_with fail
      go_roundg (T - (k + 1))
      all_goals first
        | exact (show ∃ (k' : Nat), _ from ⟨k + 1, by omega, rfl, by go_num, HGS.out⟩)
        | (have := HGK.out; omega)
    · have HLAST : Hid True := trivial
      by_cases hlt2 : k < T
      · have hkd : decide (k < T) = true := decide_eq_true hlt2
        have hkd2 : decide ((k : Int) < 60) = false := decide_eq_false (by omega)
        have hkd3 : decide (k < 60) = false := decide_eq_false (by omega)
        go_wp2_with fail
        clear b5 b6
        go_loopg [13] m (fun gk v13 wr => ∃ (j : Nat), j ≤ m ∧ gk = m - j ∧ v13 = .int .i64 j ∧ w3.grownBy wr none)
        case atStart => exact ⟨0, Nat.zero_le _, rfl, rfl, HG5.out⟩
        case round =>
          obtain ⟨j, hj, hgj, rfl, hg⟩ := hrel
          have HGJ : Hid (gk = m - j) := hgj
          have HG6 : Hid (w3.grownBy wr none) := hg
          clear hgj hg HG5
          generalize wr = Z at *
          obtain ⟨b5, b6⟩ := HWC.out Z HG6.out
          have l0 := HLC.out Z HG6.out
          by_cases hltj : j < m
          · have hjl : j < (Q i).length := by rw [← HM.out]; exact hltj
            obtain ⟨x, hx⟩ : ∃ x, x = (Q i).getD j 0 := ⟨_, rfl⟩
            have hxr := HSP.out.2.2 _ (getD_in (d := 0) hjl)
            rw [← hx] at hxr
            have hx0 : decide (x < 0) = false := decide_eq_false (by omega)
            have hx1 : decide ((T : Int) ≤ x) = false := decide_eq_false (by omega)
            obtain ⟨ib, io, rfl, hc⟩ : ∃ ib io, ul = some ⟨ib, io, none⟩ ∧ ∀ j, j < (Q i).length → Z.cell? ⟨ib, io + j, none⟩ = some (.int .i64 ((Q i).getD j 0)) := by
              rcases HLI.out Z HG6.out with h | ⟨ib, io, e, h⟩
              · rw [h] at hjl; exact absurd hjl (by simp)
              · exact ⟨ib, io, e, h⟩
            have r0 := hc j hjl
            rw [← hx] at r0
            cases j with
            | zero =>
              have hjd : decide (0 < m) = true := decide_eq_true hltj
              have hm1 : (0 : Int) < (m : Int) := by omega
              rw [Nat.add_zero] at r0
              clear hx hc hxr
              go_wp2_with fail
              go_quiet (fail)
              go_wp2_with fail
              go_roundg (m - (0 + 1))
              all_goals first
                | exact (show ∃ (j' : Nat), _ from ⟨0 + 1, by omega, rfl, by go_num, grown_trans HG6.out (grown_drewN _ _)⟩)
                | (have := HGJ.out; omega)
            | succ j =>
              have hjd : decide (j + 1 < m) = true := decide_eq_true hltj
              obtain ⟨x', hx'⟩ : ∃ x, x = (Q i).getD j 0 := ⟨_, rfl⟩
              have r1 := hc j (by omega)
              rw [← hx'] at r1
              have hxx : decide (x ≤ x') = false := by
                refine decide_eq_false ?_
                have h := List.pairwise_iff_getElem.1 HSP.out.2.1 j (j + 1) (by omega) hjl (by omega)
                rw [hx, hx', List.getD_eq_getElem?_getD, List.getD_eq_getElem?_getD, List.getElem?_eq_getElem hjl, List.getElem?_eq_getElem (show j < (Q i).length by omega)]
                simp only [Option.getD_some]
                omega
              have e14 : ((j + 1 : Nat) : Int) = (j : Int) + 1 := by omega
              have hj1 : (0 : Int) ≤ (j : Int) + 1 := by omega
              have hj2 : (j : Int) + 1 < (m : Int) := by omega
              have hj3 : (0 : Int) < (j : Int) + 1 := by omega
              have hj4 : decide ((0 : Int) < (j : Int) + 1) = true := decide_eq_true hj3
              have hj5 : (j : Int) < (m : Int) := by omega
              have hj6 : (0 : Int) ≤ (j : Int) := by omega
              have hj7 : decide ((j : Int) + 1 < (m : Int)) = true := decide_eq_true hj2
              have hmw : IntKind.i64.wrap ((j : Int) + 1 - 1) = (j : Int) := by rw [IntKind.wrap_i64]; omega
              have hmw2 : IntKind.i64.wrap (j : Int) = (j : Int) := by rw [IntKind.wrap_i64]; omega
              have hmw4 : (j : Int) + 1 - 1 = (j : Int) := by omega
              have hmw5 : IntKind.i64.wrap ((j : Int) + 1 + 1) = (j : Int) + 1 + 1 := by rw [IntKind.wrap_i64]; omega
              rw [e14]
              clear hx hc hxr hx' e14
              go_wp2_with fail
              go_quiet (fail)
              go_wp2_with fail
              go_roundg (m - (j + 1 + 1))
              all_goals first
                | exact (show ∃ (j' : Nat), _ from ⟨j + 1 + 1, by omega, rfl, by go_num, grown_trans HG6.out (grown_drewN _ _)⟩)
                | (have := HGJ.out; omega)
          · have hjd : decide (j < m) = false := decide_eq_false hltj
            go_wp2_with fail
            go_ret
            exact ⟨rfl, (HWF.out Z HG6.out).ph.grown⟩
      · have hkd : decide (k < T) = false := decide_eq_false hlt2
        go_wp2_with fail
        clear b5 b6
        go_loopg [13] m (fun gk v13 wr => ∃ (j : Nat), j ≤ m ∧ gk = m - j ∧ v13 = .int .i64 j ∧ w3.grownBy wr none)
        case atStart => exact ⟨0, Nat.zero_le _, rfl, rfl, HG5.out⟩
        case round =>
          obtain ⟨j, hj, hgj, rfl, hg⟩ := hrel
          have HGJ : Hid (gk = m - j) := hgj
          have HG6 : Hid (w3.grownBy wr none) := hg
          clear hgj hg HG5
          generalize wr = Z at *
          obtain ⟨b5, b6⟩ := HWC.out Z HG6.out
          have l0 := HLC.out Z HG6.out
          by_cases hltj : j < m
          · have hjl : j < (Q i).length := by rw [← HM.out]; exact hltj
            obtain ⟨x, hx⟩ : ∃ x, x = (Q i).getD j 0 := ⟨_, rfl⟩
            have hxr := HSP.out.2.2 _ (getD_in (d := 0) hjl)
            rw [← hx] at hxr
            have hx0 : decide (x < 0) = false := decide_eq_false (by omega)
            have hx1 : decide ((T : Int) ≤ x) = false := decide_eq_false (by omega)
            obtain ⟨ib, io, rfl, hc⟩ : ∃ ib io, ul = some ⟨ib, io, none⟩ ∧ ∀ j, j < (Q i).length → Z.cell? ⟨ib, io + j, none⟩ = some (.int .i64 ((Q i).getD j 0)) := by
              rcases HLI.out Z HG6.out with h | ⟨ib, io, e, h⟩
              · rw [h] at hjl; exact absurd hjl (by simp)
              · exact ⟨ib, io, e, h⟩
            have r0 := hc j hjl
            rw [← hx] at r0
            cases j with
            | zero =>
              have hjd : decide (0 < m) = true := decide_eq_true hltj
              have hm1 : (0 : Int) < (m : Int) := by omega
              rw [Nat.add_zero] at r0
              clear hx hc hxr
              go_wp2_with fail
              go_quiet (fail)
              go_wp2_with fail
              go_roundg (m - (0 + 1))
              all_goals first
                | exact (show ∃ (j' : Nat), _ from ⟨0 + 1, by omega, rfl, by go_num, grown_trans HG6.out (grown_drewN _ _)⟩)
                | (have := HGJ.out; omega)
            | succ j =>
              have hjd : decide (j + 1 < m) = true := decide_eq_true hltj
              obtain ⟨x', hx'⟩ : ∃ x, x = (Q i).getD j 0 := ⟨_, rfl⟩
              have r1 := hc j (by omega)
              rw [← hx'] at r1
              have hxx : decide (x ≤ x') = false := by
                refine decide_eq_false ?_
                have h := List.pairwise_iff_getElem.1 HSP.out.2.1 j (j + 1) (by omega) hjl (by omega)
                rw [hx, hx', List.getD_eq_getElem?_getD, List.getD_eq_getElem?_getD, List.getElem?_eq_getElem hjl, List.getElem?_eq_getElem (show j < (Q i).length by omega)]
                simp only [Option.getD_some]
                omega
              have e14 : ((j + 1 : Nat) : Int) = (j : Int) + 1 := by omega
              have hj1 : (0 : Int) ≤ (j : Int) + 1 := by omega
              have hj2 : (j : Int) + 1 < (m : Int) := by omega
              have hj3 : (0 : Int) < (j : Int) + 1 := by omega
              have hj4 : decide ((0 : Int) < (j : Int) + 1) = true := decide_eq_true hj3
              have hj5 : (j : Int) < (m : Int) := by omega
              have hj6 : (0 : Int) ≤ (j : Int) := by omega
              have hj7 : decide ((j : Int) + 1 < (m : Int)) = true := decide_eq_true hj2
              have hmw : IntKind.i64.wrap ((j : Int) + 1 - 1) = (j : Int) := by rw [IntKind.wrap_i64]; omega
              have hmw2 : IntKind.i64.wrap (j : Int) = (j : Int) := by rw [IntKind.wrap_i64]; omega
              have hmw4 : (j : Int) + 1 - 1 = (j : Int) := by omega
              have hmw5 : IntKind.i64.wrap ((j : Int) + 1 + 1) = (j : Int) + 1 + 1 := by rw [IntKind.wrap_i64]; omega
              rw [e14]
              clear hx hc hxr hx' e14
              go_wp2_with fail
              go_quiet (fail)
              go_wp2_with fail
              go_roundg (m - (j + 1 + 1))
              all_goals first
                | exact (show ∃ (j' : Nat), _ from ⟨j + 1 + 1, by omega, rfl, by go_num, grown_trans HG6.out (grown_drewN _ _)⟩)
                | (have := HGJ.out; omega)
          · have hjd : decide (j < m) = false := decide_eq_false hltj
            go_wp2_with fail
            go_ret
            exact ⟨rfl, (HWF.out Z HG6.out).ph.grown⟩
end

end Go.Proofs.YtkbjbijoekmooaaGreat.J

/-
  relate: the law's ahead.
-/
namespace Go.Proofs.YtkbjbijoekmooaaGreat.J
open Go.RowKit Go.Maps Go.Shelf

attribute [local go_sem] Oper.semAt_some

/-- Some place of a production includes. -/
def AhJ (tn : Nat) (F : Nat → Bool) (R : Nat → List Int) (wv : Nat → Nat → Int) (qi si : Int) (p j : Nat) : Prop := (R p).getD j 0 = si ∧ wv p j = qi ∧ ∀ x ∈ (R p).drop (j + 1), VanP tn F x
theorem ints_dropJ {w : World} {b o : Nat} {l : List Int} (d : Nat) (hc : ∀ i, i < l.length → w.cell? ⟨b, o + i, none⟩ = some (.int .i64 (l.getD i 0))) : IntsAt w (some ⟨b, o + d, none⟩) (l.drop d) := by
  refine .inr ⟨b, o + d, rfl, fun i hi => ?_⟩
  rw [List.length_drop] at hi
  have := hc (d + i) (by omega)
  rw [← Nat.add_assoc] at this
  rw [this]
  simp [List.getD, List.getElem?_drop]

section
variable (ta na la pa : Option Addr) (tc nc lc pc : Nat) (n : Nat) (st : Int) (w : World) (tn nn ln : Nat)

set_option maxRecDepth 100000 in
set_option maxHeartbeats 8000000 in
theorem uahead_any (wb nb : Nat) (a5 : Value) (F : Nat → Bool) (L : Nat → Int) (R : Nat → List Int) (ra : Nat → Option Addr) (rc : Nat → Nat) (V : Nat → Int) (hwb : w.heap[wb]? = some (.cells #[.slice ta tn tc, .slice na nn nc, .slice la ln lc, .int .i64 st, .slice pa n pc, a5, .slice (some ⟨nb, 0, none⟩) nn nn] 49 (0, 0))) (hnul : ValAt w nb nn 4 (fun i => .bool (F i))) (hnn : nn ≤ 65) (hn : n ≤ 97) (hn0 : 0 < n) (hPr : ProdsAt w pa n L R ra rc V) (hrc : ∀ p, p < n → (R p).length ≤ rc p)
    (qi si qk sk : Int) (wv : Nat → Nat → Int) (hrl : ∀ p, p < n → L p = sk → (R p).length ≤ 10000) (hsy : ∀ p, p < n → ∀ x ∈ R p, 0 ≤ x ∧ x < ((tn + nn : Nat) : Int))
    (hWK : ∀ (X : World) (p j : Nat), w.grownBy X none → p < n → L p = sk → j < (R p).length → Calls Tryz.prog 19 #[.agg #[.slice ta tn tc, .slice na nn nc, .slice la ln lc, .int .i64 st, .slice pa n pc], .int .i64 qk, .slice (ra p) j (rc p)] X fun e y => e = .returned (.tuple #[.int .i64 (wv p j), .int .i64 0]) ∧ X.grownBy y none)
    (r : Bool) (hr : r = true ↔ ∃ p, 1 ≤ p ∧ p < n ∧ L p = sk ∧ ∃ j, j < (R p).length ∧ AhJ tn F R wv qi si p j) :
    Calls Tryz.prog 21 #[.pointer (some ⟨wb, 0, none⟩), .agg #[.int .i64 qi, .int .i64 si], .agg #[.int .i64 qk, .int .i64 sk]] w fun e y => e = .returned (.bool r) ∧ w.grownBy y none := by
  have HWK := show Hid _ from hWK
  have HR := show Hid _ from hr
  have HRL := show Hid _ from hrl
  have HSY := show Hid _ from hsy
  have HRC := show Hid _ from hrc
  have HN : Hid (∀ X, w.grownBy X none → ValAt X nb nn 4 (fun i => .bool (F i))) := fun X hX => hnul.kept hX
  obtain ⟨pb, po, rfl, hps⟩ := prods_at hPr hn0
  have HPS : Hid (∀ X, w.grownBy X none → ∀ k, k < n → X.cell? ⟨pb, po + k * 3, none⟩ = some (.int .i64 (L k)) ∧ X.cell? ⟨pb, po + k * 3 + 1, none⟩ = some (.slice (ra k) (R k).length (rc k)) ∧ IntsAt X (ra k) (R k)) := fun X hX k hk => ⟨hX.cell (hps k hk).1 (by simp), hX.cell (hps k hk).2.1 (by simp), (hps k hk).2.2.2.kept hX⟩
  have HWC : Hid (∀ X, w.grownBy X none → X.cell? ⟨wb, 0, none⟩ = some (.slice ta tn tc) ∧ X.cell? ⟨wb, 1, none⟩ = some (.slice na nn nc) ∧ X.cell? ⟨wb, 2, none⟩ = some (.slice la ln lc) ∧ X.cell? ⟨wb, 3, none⟩ = some (.int .i64 st) ∧ X.cell? ⟨wb, 4, none⟩ = some (.slice (some ⟨pb, po, none⟩) n pc) ∧ X.cell? ⟨wb, 6, none⟩ = some (.slice (some ⟨nb, 0, none⟩) nn nn)) := fun X hX => by
    have h := box_kept hwb hX
    refine ⟨?_, ?_, ?_, ?_, ?_, ?_⟩ <;> rw [cell_of_row _ _ _ _ _ _ h] <;> rfl
  obtain ⟨X1, hX1⟩ : ∃ X, X = w.alloc (.cells #[.int .i64 qi, .int .i64 si] 53) := ⟨_, rfl⟩
  obtain ⟨X2, hX2⟩ : ∃ X, X = X1.alloc (.cells #[.int .i64 qk, .int .i64 sk] 53) := ⟨_, rfl⟩
  have hg1 : w.grownBy X1 none := by rw [hX1]; exact World.grownBy_alloc _ _ none
  have hg2 : X1.grownBy X2 none := by rw [hX2]; exact World.grownBy_alloc _ _ none
  have hs1 : X1.heap.size = w.heap.size + 1 := by rw [hX1, World.size_alloc]
  have hb1 : X2.heap[w.heap.size]? = some (.cells #[.int .i64 qi, .int .i64 si] 53 (0, 0)) := box_kept (by rw [hX1]; exact heap_alloc_last w _) hg2
  have hb2 : X2.heap[w.heap.size + 1]? = some (.cells #[.int .i64 qk, .int .i64 sk] 53 (0, 0)) := by rw [← hs1, hX2]; exact heap_alloc_last X1 _
  have HG2 : Hid (w.grownBy X2 none) := grown_trans hg1 hg2
  obtain ⟨xb, hxb⟩ : ∃ b, b = w.heap.size := ⟨_, rfl⟩
  obtain ⟨yb, hyb⟩ : ∃ b, b = w.heap.size + 1 := ⟨_, rfl⟩
  rw [← hxb] at hb1
  rw [← hyb] at hb2
  have HBC : Hid (∀ X, X2.grownBy X none → X.cell? ⟨xb, 0, none⟩ = some (.int .i64 qi) ∧ X.cell? ⟨xb, 1, none⟩ = some (.int .i64 si) ∧ X.cell? ⟨yb, 0, none⟩ = some (.int .i64 qk) ∧ X.cell? ⟨yb, 1, none⟩ = some (.int .i64 sk)) := fun X hX => by
    have h1 := box_kept hb1 hX
    have h2 := box_kept hb2 hX
    refine ⟨?_, ?_, ?_, ?_⟩
    · rw [cell_of_row _ _ _ _ _ _ h1]; rfl
    · rw [cell_of_row _ _ _ _ _ _ h1]; rfl
    · rw [cell_of_row _ _ _ _ _ _ h2]; rfl
    · rw [cell_of_row _ _ _ _ _ _ h2]; rfl
  have HXE : Hid (X2 = (w.alloc (.cells #[.int .i64 qi, .int .i64 si] 53)).alloc (.cells #[.int .i64 qk, .int .i64 sk] 53)) := by show _ = _; rw [hX2, hX1]
  have HXB := show Hid _ from hxb
  have HYB := show Hid _ from hyb
  clear hWK hr hrl hsy hrc hnul hPr hps hwb hX1 hX2 hg1 hg2 hs1 hb1 hb2 hxb hyb
  go_enter Tryz.func21, Tryz.ntmps21
  go_wp2_with fail
  rw [← HXE.out, ← HYB.out, ← HXB.out]
  clear HXE HYB HXB
  go_loopg [7] (n - 1) (fun gk v7 wr => ∃ (p : Nat), 1 ≤ p ∧ p ≤ n ∧ gk = n - p ∧ v7 = .int .i64 p ∧ X2.grownBy wr none ∧ ∀ p', 1 ≤ p' → p' < p → L p' = sk → ∀ j, j < (R p').length → ¬ AhJ tn F R wv qi si p' j)
  case atStart => exact ⟨1, Nat.le_refl _, hn0, rfl, rfl, grown_refl _ _, fun p' h1 h2 => by omega⟩
  case round =>
    obtain ⟨p, hp1, hpn, hgp, rfl, hg, hno⟩ := hrel
    have HGP : Hid (gk = n - p) := hgp
    have HG : Hid (X2.grownBy wr none) := hg
    have HNO := show Hid _ from hno
    clear hgp hg hno
    generalize wr = Y at *
    obtain ⟨d0, d1, d2, d3, d4, d6⟩ := HWC.out Y (grown_trans HG2.out HG.out)
    by_cases hlt : p < n
    · have hpd : decide (p < n) = true := decide_eq_true hlt
      have hp0 : (0 : Int) ≤ (p : Int) := by omega
      have hp2 : (p : Int) < (n : Int) := by omega
      obtain ⟨p0, p1, _⟩ := HPS.out Y (grown_trans HG2.out HG.out) p hlt
      obtain ⟨rap, hrap⟩ : ∃ x, x = ra p := ⟨_, rfl⟩
      obtain ⟨rcp, hrcp⟩ : ∃ x, x = rc p := ⟨_, rfl⟩
      obtain ⟨lf, hlf⟩ : ∃ x, x = L p := ⟨_, rfl⟩
      obtain ⟨m, hm⟩ : ∃ x, x = (R p).length := ⟨_, rfl⟩
      rw [← hrap, ← hrcp, ← hm] at p1
      have HPX : Hid (∀ X, X2.grownBy X none → X.cell? ⟨pb, po + p * 3, none⟩ = some (.int .i64 lf) ∧ IntsAt X rap (R p)) := fun X hX => by
        obtain ⟨h1, _, h3⟩ := HPS.out X (grown_trans HG2.out hX) p hlt
        rw [hlf, hrap]
        exact ⟨h1, h3⟩
      have HCAP : Hid (m ≤ rcp) := by show _ ≤ _; rw [hm, hrcp]; exact HRC.out p hlt
      have HLF := show Hid _ from hlf
      have HM := show Hid _ from hm
      have HWP : Hid (∀ (X : World) (j : Nat), X2.grownBy X none → lf = sk → j < m → Calls Tryz.prog 19 #[.agg #[.slice ta tn tc, .slice na nn nc, .slice la ln lc, .int .i64 st, .slice (some ⟨pb, po, none⟩) n pc], .int .i64 qk, .slice rap j rcp] X fun e y => e = .returned (.tuple #[.int .i64 (wv p j), .int .i64 0]) ∧ X.grownBy y none) := fun X j hX h1 h2 => by
        rw [hrap, hrcp]
        exact HWK.out X p j (grown_trans HG2.out hX) hlt (by rw [← HLF.out]; exact h1) (by rw [← HM.out]; exact h2)
      have hpw : IntKind.i64.wrap ((p : Int) + 1) = (p : Int) + 1 := by rw [IntKind.wrap_i64]; omega
      clear hrap hrcp hlf hm p0
      go_wp2_with fail
      clear d0 d1 d2 d3 d4 d6 p1
      go_loopg [9] m (fun gk v9 wr => ∃ (j : Nat), j ≤ m ∧ gk = m - j ∧ v9 = .int .i64 j ∧ X2.grownBy wr none ∧ (lf = sk → ∀ j', j' < j → ¬ AhJ tn F R wv qi si p j'))
      case atStart => exact ⟨0, Nat.zero_le _, rfl, rfl, HG.out, fun _ j' h => by omega⟩
      case round =>
        obtain ⟨j, hj, hgj, rfl, hg, hnj⟩ := hrel
        have HGJ : Hid (gk = m - j) := hgj
        have HG5 : Hid (X2.grownBy wr none) := hg
        have HNJ := show Hid _ from hnj
        clear hgj hg hnj HG
        generalize wr = X at *
        obtain ⟨d0, d1, d2, d3, d4, d6⟩ := HWC.out X (grown_trans HG2.out HG5.out)
        obtain ⟨f0, f1, f2, f3⟩ := HBC.out X HG5.out
        have p0 := (HPX.out X HG5.out).1
        by_cases hltj : j < m
        · have hjd : decide (j < m) = true := decide_eq_true hltj
          have hjd2 : decide ((j : Int) < (m : Int)) = true := decide_eq_true (by omega)
          have hj0 : (0 : Int) ≤ (j : Int) := by omega
          have hj1 : (j : Int) < (m : Int) := by omega
          by_cases hls : lf = sk
          · have hlb : (lf == sk) = true := by rw [hls]; exact beq_self_eq_true _
            have HLS := show Hid _ from hls
            have hm4 : m ≤ 10000 := by rw [HM.out]; exact HRL.out p hlt (by rw [← HLF.out]; exact hls)
            have hjw : IntKind.i64.wrap ((j : Int) + 1) = (j : Int) + 1 := by rw [IntKind.wrap_i64]; omega
            have hjl : j < (R p).length := by rw [← HM.out]; exact hltj
            obtain ⟨sj, hsj⟩ : ∃ x, x = (R p).getD j 0 := ⟨_, rfl⟩
            obtain ⟨b, o, rfl, hc⟩ : ∃ b o, rap = some ⟨b, o, none⟩ ∧ ∀ Z, X2.grownBy Z none → ∀ i, i < (R p).length → Z.cell? ⟨b, o + i, none⟩ = some (.int .i64 ((R p).getD i 0)) := by
              rcases (HPX.out X2 (grown_refl _ _)).2 with h | ⟨b, o, e, h⟩
              · rw [h] at hjl; exact absurd hjl (by simp)
              · exact ⟨b, o, e, fun Z hZ i hi => hZ.cell (h i hi) (by simp)⟩
            have HC := show Hid _ from hc
            have r0 := hc X HG5.out j hjl
            rw [← hsj] at r0
            have HSJ := show Hid _ from hsj
            clear hls hsj hc
            by_cases hss : sj = si
            · have hsb : (sj != si) = false := by rw [hss]; exact bne_self_eq_false _
              have HSS := show Hid _ from hss
              clear hss
              have k0 := fun s : WBox (fun x => X.grownBy x none) => (HWC.out s.w (grown_trans HG2.out (grown_trans HG5.out s.ok))).1
              have k1 := fun s : WBox (fun x => X.grownBy x none) => (HWC.out s.w (grown_trans HG2.out (grown_trans HG5.out s.ok))).2.1
              have k2 := fun s : WBox (fun x => X.grownBy x none) => (HWC.out s.w (grown_trans HG2.out (grown_trans HG5.out s.ok))).2.2.1
              have k3 := fun s : WBox (fun x => X.grownBy x none) => (HWC.out s.w (grown_trans HG2.out (grown_trans HG5.out s.ok))).2.2.2.1
              have k4 := fun s : WBox (fun x => X.grownBy x none) => (HWC.out s.w (grown_trans HG2.out (grown_trans HG5.out s.ok))).2.2.2.2.1
              have y0 := fun s : WBox (fun x => X.grownBy x none) => (HBC.out s.w (grown_trans HG5.out s.ok)).2.2.1
              haveI hne : Nonempty (WBox (fun x => X.grownBy x none)) := ⟨⟨_, grown_refl _ _⟩⟩
              obtain ⟨tv, htv⟩ : ∃ t, t = wv p j := ⟨_, rfl⟩
              have HTV := show Hid _ from htv
              have K1 : Hid (∀ s : WBox (fun x => X.grownBy x none), Calls Tryz.prog 19 #[.agg #[.slice ta tn tc, .slice na nn nc, .slice la ln lc, .int .i64 st, .slice (some ⟨pb, po, none⟩) n pc], .int .i64 qk, .slice (some ⟨b, o, none⟩) j rcp] s.w fun e w' => e = .returned (.tuple #[.int .i64 tv, .int .i64 0]) ∧ ∃ s' : WBox (fun x => X.grownBy x none), w' = s'.w) := fun s => calls_class ((HWP.out s.w j (grown_trans HG5.out s.ok) HLS.out hltj).mono fun e w' h => ⟨by rw [HTV.out]; exact h.1, grown_trans s.ok h.2⟩)
              have hcp := HCAP.out
              have hr0 : ¬ rcp = 0 := by omega
              have hjr : (j : Int) ≤ (rcp : Int) := by omega
              have hj3 : (0 : Int) ≤ (j : Int) + 1 := by omega
              have hj4 : (j : Int) + 1 ≤ (m : Int) := by omega
              obtain ⟨rv, hrv⟩ : ∃ rv : Bool, (rv = true ↔ ∀ x ∈ (R p).drop (j + 1), VanP tn F x) := by
                by_cases h : ∀ x ∈ (R p).drop (j + 1), VanP tn F x
                · exact ⟨true, ⟨fun _ => h, fun _ => rfl⟩⟩
                · exact ⟨false, ⟨fun h2 => absurd h2 (by decide), fun h2 => absurd h2 h⟩⟩
              have HRV := show Hid _ from hrv
              have HVN : Hid (∀ (Z : World) (av : Option Addr) (cv : Nat), X2.grownBy Z none → IntsAt Z av ((R p).drop (j + 1)) → Calls Tryz.prog 43 #[.pointer (some ⟨wb, 0, none⟩), .slice av (m - (j + 1)) cv] Z fun e y => e = .returned (.bool rv) ∧ Z.grownBy y none) := fun Z av cv hZ hI => by
                have hz := HWC.out Z (grown_trans HG2.out hZ)
                have e5 : m - (j + 1) = ((R p).drop (j + 1)).length := by rw [List.length_drop, ← HM.out]
                rw [e5]
                exact uvanL_any Z wb nb tn nn tc ta F hz.1 hz.2.2.2.2.2 (HN.out Z (grown_trans HG2.out hZ)) hnn av cv ((R p).drop (j + 1)) hI (by rw [List.length_drop, ← HM.out]; omega) (fun x hx => HSY.out p hlt x (List.mem_of_mem_drop hx)) rv HRV.out
              clear htv hrv
              go_wp2_with fail
              go_quiet (fail)
              go_wp2_with fail
              go_quiet (fail)
              go_wp2_with fail
              refine wp_region_class (p := fun x => X.grownBy x none) (by kernel_rfl) (by kernel_rfl) (by first | exact grown_drewN _ _ | exact grown_trans (grown_drewN _ _) (grown_drewN _ _) | exact grown_trans (grown_drewN _ _) (grown_trans (grown_drewN _ _) (grown_drewN _ _))) ?_
              repeat (go_big_quiet_step (first | (go_at_call 19; rename_i s; with_reducible exact K1.out s)))
              refine wpQuiet_nil ?_
              rintro _ ⟨s, rfl⟩
              have HGS : Hid (X2.grownBy s.w none) := grown_trans HG5.out s.ok
              generalize s.w = Z at HGS ⊢
              clear k0 k1 k2 k3 k4 y0 K1
              obtain ⟨z0, z1, z2, z3, z4, z6⟩ := HWC.out Z (grown_trans HG2.out HGS.out)
              obtain ⟨e0, e1, e2, e3⟩ := HBC.out Z HGS.out
              by_cases hz : rcp = j + 1
              · subst hz
                have HVA : Hid (∀ Z, X2.grownBy Z none → Calls Tryz.prog 43 #[.pointer (some ⟨wb, 0, none⟩), .slice (some ⟨b, o, none⟩) (m - (j + 1)) 0] Z fun e y => e = .returned (.bool rv) ∧ Z.grownBy y none) := fun Z hZ => HVN.out Z _ _ hZ (.inl (List.drop_eq_nil_of_le (by rw [← HM.out]; omega)))
                have hm0 : m - (j + 1) = 0 := by omega
                rw [hm0] at HVA
                clear hm0
                go_wp2_with fail
                refine Calls.mono (HVA.out _ HGS.out) ?_
                rintro e w6 ⟨rfl, hg6⟩
                have HG6 : Hid (X2.grownBy w6 none) := grown_trans HGS.out hg6
                clear hg6 z0 z1 z2 z3 z4 z6 e0 e1 e2 e3 HVA HVN
                obtain ⟨e0, e1, e2, e3⟩ := HBC.out w6 HG6.out
                by_cases hcd : tv = qi ∧ rv = true
                · have htb : (tv == qi) = true := by rw [hcd.1]; exact beq_self_eq_true _
                  obtain ⟨ht, hrt⟩ := hcd
                  have HRT : Hid (r = true) := by
                    show _ = _
                    refine HR.out.2 ⟨p, hp1, hlt, by rw [← HLF.out]; exact HLS.out, j, by rw [← HM.out]; exact hltj, by rw [← HSJ.out]; exact HSS.out, by rw [← HTV.out]; exact ht, HRV.out.1 hrt⟩
                  subst hrt
                  clear ht
                  go_wp2_with fail
                  go_ret
                  exact ⟨by rw [HRT.out]; rfl, grown_trans HG2.out HG6.out⟩
                · have HNK : Hid (lf = sk → ∀ j', j' < j + 1 → ¬ AhJ tn F R wv qi si p j') := fun h j' hj' ha => by
                    by_cases e : j' = j
                    · subst e; exact hcd ⟨by rw [HTV.out]; exact ha.2.1, HRV.out.2 ha.2.2⟩
                    · exact HNJ.out h j' (by omega) ha
                  by_cases ht : tv = qi
                  · have htb : (tv == qi) = true := by rw [ht]; exact beq_self_eq_true _
                    have hrf : rv = false := by
                      cases hh : rv with
                      | false => rfl
                      | true => exact absurd ⟨ht, hh⟩ hcd
                    subst hrf
                    clear ht hcd
                    go_wp2_with fail
                    go_roundg (m - (j + 1))
                    all_goals first
                      | exact (show ∃ (j' : Nat), _ from ⟨j + 1, by omega, rfl, by go_num, HG6.out, HNK.out⟩)
                      | (have := HGJ.out; omega)
                  · have htb : (tv == qi) = false := beq_eq_false_iff_ne.2 ht
                    clear ht hcd
                    go_wp2_with fail
                    go_roundg (m - (j + 1))
                    all_goals first
                      | exact (show ∃ (j' : Nat), _ from ⟨j + 1, by omega, rfl, by go_num, HG6.out, HNK.out⟩)
                      | (have := HGJ.out; omega)
              · have HVA : Hid (∀ Z, X2.grownBy Z none → Calls Tryz.prog 43 #[.pointer (some ⟨wb, 0, none⟩), .slice (some ⟨b, o + (j + 1), none⟩) (m - (j + 1)) (rcp - (j + 1))] Z fun e y => e = .returned (.bool rv) ∧ Z.grownBy y none) := fun Z hZ => HVN.out Z _ _ hZ (ints_dropJ (j + 1) (HC.out Z hZ))
                go_wp2_with fail
                refine Calls.mono (HVA.out _ HGS.out) ?_
                rintro e w6 ⟨rfl, hg6⟩
                have HG6 : Hid (X2.grownBy w6 none) := grown_trans HGS.out hg6
                clear hg6 z0 z1 z2 z3 z4 z6 e0 e1 e2 e3 HVA HVN
                obtain ⟨e0, e1, e2, e3⟩ := HBC.out w6 HG6.out
                by_cases hcd : tv = qi ∧ rv = true
                · have htb : (tv == qi) = true := by rw [hcd.1]; exact beq_self_eq_true _
                  obtain ⟨ht, hrt⟩ := hcd
                  have HRT : Hid (r = true) := by
                    show _ = _
                    refine HR.out.2 ⟨p, hp1, hlt, by rw [← HLF.out]; exact HLS.out, j, by rw [← HM.out]; exact hltj, by rw [← HSJ.out]; exact HSS.out, by rw [← HTV.out]; exact ht, HRV.out.1 hrt⟩
                  subst hrt
                  clear ht
                  go_wp2_with fail
                  go_ret
                  exact ⟨by rw [HRT.out]; rfl, grown_trans HG2.out HG6.out⟩
                · have HNK : Hid (lf = sk → ∀ j', j' < j + 1 → ¬ AhJ tn F R wv qi si p j') := fun h j' hj' ha => by
                    by_cases e : j' = j
                    · subst e; exact hcd ⟨by rw [HTV.out]; exact ha.2.1, HRV.out.2 ha.2.2⟩
                    · exact HNJ.out h j' (by omega) ha
                  by_cases ht : tv = qi
                  · have htb : (tv == qi) = true := by rw [ht]; exact beq_self_eq_true _
                    have hrf : rv = false := by
                      cases hh : rv with
                      | false => rfl
                      | true => exact absurd ⟨ht, hh⟩ hcd
                    subst hrf
                    clear ht hcd
                    go_wp2_with fail
                    go_roundg (m - (j + 1))
                    all_goals first
                      | exact (show ∃ (j' : Nat), _ from ⟨j + 1, by omega, rfl, by go_num, HG6.out, HNK.out⟩)
                      | (have := HGJ.out; omega)
                  · have htb : (tv == qi) = false := beq_eq_false_iff_ne.2 ht
                    clear ht hcd
                    go_wp2_with fail
                    go_roundg (m - (j + 1))
                    all_goals first
                      | exact (show ∃ (j' : Nat), _ from ⟨j + 1, by omega, rfl, by go_num, HG6.out, HNK.out⟩)
                      | (have := HGJ.out; omega)
            · have hsb : (sj != si) = true := bne_iff_ne.2 hss
              have HNK : Hid (lf = sk → ∀ j', j' < j + 1 → ¬ AhJ tn F R wv qi si p j') := fun h j' hj' ha => by
                by_cases e : j' = j
                · subst e; exact hss (by rw [HSJ.out]; exact ha.1)
                · exact HNJ.out h j' (by omega) ha
              clear hss
              go_wp2_with fail
              go_quiet (fail)
              go_wp2_with fail
              go_quiet (fail)
              go_wp2_with fail
              go_roundg (m - (j + 1))
              all_goals first
                | exact (show ∃ (j' : Nat), _ from ⟨j + 1, by omega, rfl, by go_num, grown_trans HG5.out (grown_drewN _ _), HNK.out⟩)
                | (have := HGJ.out; omega)
          · have hlb : (lf == sk) = false := beq_eq_false_iff_ne.2 hls
            have HN2 : Hid (∀ p', 1 ≤ p' → p' < p + 1 → L p' = sk → ∀ j, j < (R p').length → ¬ AhJ tn F R wv qi si p' j) := fun p' h1 h2 h3 => by
              by_cases e : p' = p
              · subst e; exact absurd (by rw [HLF.out]; exact h3) hls
              · exact HNO.out p' h1 (by omega) h3
            clear hls
            go_wp2_with fail
            go_quiet (fail)
            go_wp2_with fail
            go_roundg (n - (p + 1))
            all_goals first
              | exact (show ∃ (p' : Nat), _ from ⟨p + 1, by omega, by omega, rfl, by go_num, grown_trans HG5.out (grown_drewN _ _), HN2.out⟩)
              | (have := HGP.out; omega)
        · have hjm : m = j := by omega
          have hjd : decide (j < m) = false := decide_eq_false hltj
          have hjd2 : decide ((j : Int) < (m : Int)) = false := decide_eq_false (by omega)
          have HN2 : Hid (∀ p', 1 ≤ p' → p' < p + 1 → L p' = sk → ∀ j, j < (R p').length → ¬ AhJ tn F R wv qi si p' j) := fun p' h1 h2 h3 j' h4 => by
            by_cases e : p' = p
            · subst e; exact HNJ.out (by rw [HLF.out]; exact h3) j' (by rw [← HM.out] at h4; omega)
            · exact HNO.out p' h1 (by omega) h3 j' h4
          clear hjm
          go_wp2_with fail
          go_quiet (fail)
          go_wp2_with fail
          go_roundg (n - (p + 1))
          all_goals first
            | exact (show ∃ (p' : Nat), _ from ⟨p + 1, by omega, by omega, rfl, by go_num, grown_trans HG5.out (grown_drewN _ _), HN2.out⟩)
            | (have := HGP.out; omega)
    · have hpm : n = p := by omega
      have hpd : decide (p < n) = false := decide_eq_false hlt
      have HRF : Hid (r = false) := by
        show _ = _
        cases hrr : r with
        | false => rfl
        | true =>
          obtain ⟨p', h1, h2, h3, j, h4, h5⟩ := HR.out.1 hrr
          exact absurd h5 (HNO.out p' h1 (by omega) h3 j h4)
      clear hpm
      go_wp2_with fail
      go_ret
      exact ⟨by rw [HRF.out]; rfl, grown_trans HG2.out HG.out⟩
end

end Go.Proofs.YtkbjbijoekmooaaGreat.J

/-
  relate: the law RelateIncludes, for every grammar.
-/
namespace Go.Proofs.YtkbjbijoekmooaaGreat.J
open Go.RowKit Go.Maps Go.Shelf

theorem ints_takeJ {w : World} {a : Option Addr} {l : List Int} (d : Nat) (h : IntsAt w a l) : IntsAt w a (l.take d) := by
  rcases h with h | ⟨b, off, e, hc⟩
  · exact .inl (by rw [h]; simp)
  · refine .inr ⟨b, off, e, fun i hi => ?_⟩
    have hi' : i < l.length := by rw [List.length_take] at hi; omega
    have hd : i < d := by rw [List.length_take] at hi; omega
    rw [hc i hi']
    simp [List.getD, hd]
theorem wayV_iff {o : Option Int} {q : Nat} : wayV o = (q : Int) ↔ o = some (q : Int) := by
  cases o with
  | none =>
    constructor
    · intro h
      have h' : (-1 : Int) = (q : Int) := h
      omega
    · intro h; cases h
  | some v =>
    constructor
    · intro h
      exact congrArg some h
    · intro h
      cases h
      rfl
theorem drop_all {l : List Int} {d : Nat} {P : Int → Prop} : (∀ x ∈ l.drop d, P x) ↔ ∀ m, d ≤ m → m < l.length → P (l.getD m 0) := by
  constructor
  · intro h m h1 h2
    refine h _ ?_
    rw [List.mem_iff_getElem?]
    refine ⟨m - d, ?_⟩
    rw [List.getElem?_drop, show d + (m - d) = m by omega, List.getElem?_eq_getElem h2, List.getD_eq_getElem?_getD, List.getElem?_eq_getElem h2]
    rfl
  · intro h x hx
    obtain ⟨i, hi⟩ := List.mem_iff_getElem?.1 hx
    rw [List.getElem?_drop] at hi
    have hl : d + i < l.length := by
      by_cases e : d + i < l.length
      · exact e
      · rw [List.getElem?_eq_none (by omega)] at hi; cases hi
    have h2 := h (d + i) (by omega) hl
    rw [List.getD_eq_getElem?_getD, hi] at h2
    exact h2

section
variable (ta na la pa : Option Addr) (tc nc lc pc : Nat) (ts : List (ByteArray × Int)) (ns : List ByteArray) (lv : List Int) (n : Nat) (L : Nat → Int) (R : Nat → List Int) (ra : Nat → Option Addr) (rc : Nat → Nat) (V : Nat → Int) (st : Int) (w : World) (tn nn ln : Nat) (hlen : ts.length = tn ∧ ns.length = nn ∧ lv.length = ln) (hG : GAt w ta na la pa tc nc lc pc ts ns lv n L R ra rc V) (hts : ∀ t ∈ ts, t.1.size ≤ 140737488355328) (hns : ∀ s ∈ ns, s.size ≤ 140737488355328) (hrc : ∀ i, i < n → (R i).length ≤ rc i)
include hlen hG hts hns hrc
theorem uinc_core (z : Int) (hz : -9223372036854775808 ≤ z ∧ z ≤ 9223372036854775807) : Calls Tryz.prog 5 #[.agg #[.slice ta tn tc, .slice na nn nc, .slice la ln lc, .int .i64 st, .slice pa n pc], .int .i64 z] w fun e y => e = .returned (.bool true) ∧ w.grownBy y none := by
  by_cases hc : closedOK ts ns lv st n L R V
  · cases hau : autoF (GG tn n L R) (tn + nn) 256 with
    | none => exact uincL_bad ta na la pa tc nc lc pc n st w tn nn ln z (askedBad ta na la pa tc nc lc pc ts ns lv n L R ra rc V st w tn nn ln hlen hG hts hns (.inr ⟨hc, hau⟩))
    | some p =>
      obtain ⟨ks, es⟩ := p
      have hO := relOK ta na la pa tc nc lc pc ts ns lv n L R ra rc V st w tn nn ln hlen hG hc hau
      obtain ⟨hL0, hR0⟩ := hO.may.added rfl
      have hCl := fun q hq => (hO.clo q hq).1
      have hT0 : 0 < (trT tn es ks.length).length := by
        have h0 : ((0 : Nat) : Int) = 0 := rfl
        have hx : (((0 : Nat) : Int), (0 : Int)) ∈ CLo tn n L R (ks.getD 0 []) := ((hCl 0 hO.aut.pos).mem _).2 (Clo.base (by rw [hO.aut.head]; simp))
        have h1 := way_tr (d := 0) hO.aut hO.may.right hCl hO.aut.pos hO.may.p0 hx (by rw [hR0]; simp) (by rw [hR0]; exact hO.may.start.1)
        exact List.length_pos_of_mem h1
      have hsp := fun i => includes_spec (F := nulB tn n L R) hO.aut hO.may.right hCl hO.nodup i
      have htb : ∀ j, j < (trT tn es ks.length).length → ∃ q s : Nat, (trT tn es ks.length).getD j (0, 0) = ((q : Int), (s : Int)) ∧ q < ks.length := fun j hj => by
        obtain ⟨q, s, e, h1, _⟩ := hO.rl.at hj
        exact ⟨q, s, e, h1⟩
      have hAH : ∀ (i : Nat), i < (trT tn es ks.length).length → ∀ (X : World) (wb nb : Nat) (a5 : Value) (k qi si qk sk : Nat), w.grownBy X none → X.heap[wb]? = some (.cells #[.slice ta tn tc, .slice na nn nc, .slice la ln lc, .int .i64 st, .slice pa n pc, a5, .slice (some ⟨nb, 0, none⟩) nn nn] 49 (0, 0)) → ValAt X nb nn 4 (fun i => .bool (nulB tn n L R i)) → k < (trT tn es ks.length).length → (trT tn es ks.length).getD i (0, 0) = ((qi : Int), (si : Int)) → (trT tn es ks.length).getD k (0, 0) = ((qk : Int), (sk : Int)) → Calls Tryz.prog 21 #[.pointer (some ⟨wb, 0, none⟩), .agg #[.int .i64 (qi : Int), .int .i64 (si : Int)], .agg #[.int .i64 (qk : Int), .int .i64 (sk : Int)]] X fun e y => e = .returned (.bool (decide ((k : Int) ∈ foldQ (fun _ => []) (inT es (trT tn es ks.length) tn (nulB tn n L R) n L R (trT tn es ks.length).length) i))) ∧ X.grownBy y none := fun i hi X wb nb a5 k qi si qk sk hX hwb hnul hk ei ek => by
        have hink := getD_in (l := trT tn es ks.length) (i := k) (d := (0, 0)) hk
        rw [ek] at hink
        obtain ⟨hqk, _, t, hnx⟩ := nextL_of_in hink
        refine uahead_any ta na la pa tc nc lc pc n st X tn nn ln wb nb a5 (nulB tn n L R) L R ra rc V hwb hnul hO.may.nmax hO.may.pmax hO.may.p0 (hG.kept hX).prods hrc (qi : Int) (si : Int) (qk : Int) (sk : Int) (fun p j => wayV (wayF es (some (qk : Int)) ((R p).take j))) (fun p hp e => (hO.rows p hp).1 k hk (by rw [ek]; exact e.symm)) (fun p hp => (hO.rows p hp).2) (fun Y p j hY hp e hj => ?_) _ ?_
        · have hI := (prods_at (hG.kept (grown_trans hX hY)).prods hO.may.p0)
          obtain ⟨_, _, _, hps⟩ := hI
          have h1 := walkU ta na la pa tc nc lc pc ts ns lv n L R ra rc V st w tn nn ln hlen hG hc hau Y (grown_trans hX hY) qk hqk (ra p) (rc p) ((R p).take j) (ints_takeJ j (hps p hp).2.2.2) (by rw [List.length_take]; have := (hO.rows p hp).1 k hk (by rw [ek]; exact e.symm); omega) (fun x hx => (hO.rows p hp).2 x (List.mem_of_mem_take hx))
          rw [List.length_take_of_le (by omega)] at h1
          exact h1
        · rw [decide_eq_true_iff, (hsp i).2.2 qi si k qk sk (getD_some' hi ei) (getD_some' hk ek)]
          constructor
          · rintro ⟨P, h1, h2, j, h3, h4, h5, h6⟩
            refine ⟨P, ?_, h1, h2, j, h3, h4, wayV_iff.2 h5, drop_all.2 fun m h7 h8 => h6 m (by omega) h8⟩
            by_cases e : P = 0
            · subst e
              have h9 := left_none hO.aut hO.noadd hqk
              rw [leadA_at es (by rw [hO.aut.len]; exact hqk)] at h9
              have e2 : (sk : Int) = (tn : Int) := by rw [← h2, hL0]
              rw [e2, h9] at hnx
              cases hnx
            · omega
          · rintro ⟨P, _, h1, h2, j, h3, h4, h5, h6⟩
            exact ⟨P, h1, h2, j, h3, h4, wayV_iff.1 h5, fun m h7 h8 => drop_all.1 h6 m (by omega) h8⟩
      have hin := rel_includes ta na la pa tc nc lc pc ts ns lv n L R ra rc V st w tn nn ln hlen hG hc hau
      have has := askedOk ta na la pa tc nc lc pc ts ns lv n L R ra rc V st w tn nn ln hlen hG hts hns hc hau
      by_cases hz0 : 0 ≤ z
      · have h1 : 0 ≤ z % ((trT tn es ks.length).length : Int) := Int.emod_nonneg _ (by omega)
        have h2 : z % ((trT tn es ks.length).length : Int) < ((trT tn es ks.length).length : Int) := Int.emod_lt_of_pos _ (by omega)
        have hi : (z % ((trT tn es ks.length).length : Int)).toNat < (trT tn es ks.length).length := by omega
        exact uincL_pos ta na la pa tc nc lc pc n st w tn nn ln ks.length (trT tn es ks.length).length (trT tn es ks.length) (nulB tn n L R) _ z (z % ((trT tn es ks.length).length : Int)).toNat hz0 (by rw [Int.tmod_eq_emod_of_nonneg hz0]; omega) hi rfl hO.rl.t40 htb has hin (hAH _ hi) ⟨Nat.le_trans (asc_len (hsp _).1 (hsp _).2.1) hO.rl.t40, (hsp _).1, (hsp _).2.1⟩
      · have hz1 : 0 ≤ -(z + 1) := by omega
        have h1 : 0 ≤ (-(z + 1)) % ((trT tn es ks.length).length : Int) := Int.emod_nonneg _ (by omega)
        have h2 : (-(z + 1)) % ((trT tn es ks.length).length : Int) < ((trT tn es ks.length).length : Int) := Int.emod_lt_of_pos _ (by omega)
        have hi : ((-(z + 1)) % ((trT tn es ks.length).length : Int)).toNat < (trT tn es ks.length).length := by omega
        exact uincL_neg ta na la pa tc nc lc pc n st w tn nn ln ks.length (trT tn es ks.length).length (trT tn es ks.length) (nulB tn n L R) _ z ((-(z + 1)) % ((trT tn es ks.length).length : Int)).toNat (by omega) hz.1 (by rw [Int.tmod_eq_emod_of_nonneg hz1]; omega) hi rfl hO.rl.t40 htb has hin (hAH _ hi) ⟨Nat.le_trans (asc_len (hsp _).1 (hsp _).2.1) hO.rl.t40, (hsp _).1, (hsp _).2.1⟩
  · exact uincL_bad ta na la pa tc nc lc pc n st w tn nn ln z (askedBad ta na la pa tc nc lc pc ts ns lv n L R ra rc V st w tn nn ln hlen hG hts hns (.inl hc))
end

end Go.Proofs.YtkbjbijoekmooaaGreat.J
