import Derived.Test.YthohllgpkiibhaaQfgdaaebkjjdl
import Derived.Test.YthohllgpkiibhaaQcjcccnccphno
import Derived.Deep.RegionHeld3
import Derived.BigQuiet

/-
  pack: the program's Action and Goto.
-/
namespace Go.Proofs.Ythohllgpkiibhaa.J
open Go.RowKit Go.Maps Go.Shelf Pk

attribute [local go_sem] Oper.semAt_some

/-- The action of a number: its kind, its number. -/
def actK (v : Int) : Int × Int := if v = 0 then (4, 0) else if 0 < v then (1, v - 1) else if v = -1 then (3, 0) else (2, -1 - v)
theorem results_pact (tmps : Array Value) (w : World) (g : Nat) (cs : Array Value) (h2 : tmps.getD 6 undef = .pointer (some ⟨g, 0, none⟩)) (hg : w.heap[g]? = some (.cells cs 52 (0, 0))) (hs : cs.size = 2) :
    (results Try.f23 tmps).run Try.prog w = .ok (.agg cs) w := by
  have h2' : tmps[6]?.getD undef = .pointer (some ⟨g, 0, none⟩) := by simpa using h2
  have hl := run_loadVar_row (P := Try.prog) w g 52 52 cs (0, 0) _ hg Try.underlying52 rfl (by rw [hs]; kernel_rfl)
  simp [results, Try.results23, h2', asAddr, hl]
theorem results_aof (tmps : Array Value) (w : World) (g : Nat) (cs : Array Value) (h2 : tmps.getD 2 undef = .pointer (some ⟨g, 0, none⟩)) (hg : w.heap[g]? = some (.cells cs 52 (0, 0))) (hs : cs.size = 2) :
    (results Try.f39 tmps).run Try.prog w = .ok (.agg cs) w := by
  have h2' : tmps[2]?.getD undef = .pointer (some ⟨g, 0, none⟩) := by simpa using h2
  have hl := run_loadVar_row (P := Try.prog) w g 52 52 cs (0, 0) _ hg Try.underlying52 rfl (by rw [hs]; kernel_rfl)
  simp [results, Try.results39, h2', asAddr, hl]

set_option maxRecDepth 100000 in
theorem actionOf_any (v : Int) (w : World) (hin : -9223372036854775808 ≤ v ∧ v ≤ 9223372036854775807) :
    Calls Try.prog 39 #[.int .i64 v] w fun e y => e = .returned (.agg #[.int .i64 (actK v).1, .int .i64 (actK v).2]) ∧ w.grownBy y none := by
  by_cases z1 : 0 < v
  · have hK : actK v = (1, v - 1) := by unfold actK; rw [if_neg (by omega), if_pos z1]
    have d1 : decide (0 < v) = true := decide_eq_true z1
    have hw1 : IntKind.i64.wrap (v - 1) = v - 1 := by rw [IntKind.wrap_i64]; omega
    rw [hK]
    clear z1 hin hK
    go_enter Try.func39, Try.ntmps39
    go_wp2_with fail
    exact ⟨rfl, _, results_aof _ _ w.heap.size _ rfl (heap_alloc_last w _) rfl, rfl, World.grownBy_alloc _ _ none⟩
  · have d1 : decide (0 < v) = false := decide_eq_false z1
    by_cases z0 : v = 0
    · have hK : actK v = (4, 0) := by unfold actK; rw [if_pos z0]
      subst z0
      rw [hK]
      clear z1 hin hK
      go_enter Try.func39, Try.ntmps39
      go_wp2_with fail
      exact ⟨rfl, _, results_aof _ _ w.heap.size _ rfl (heap_alloc_last w _) rfl, rfl, World.grownBy_alloc _ _ none⟩
    · have d0 : (v == 0) = false := beq_eq_false_iff_ne.2 z0
      by_cases z2 : v = -1
      · have hK : actK v = (3, 0) := by unfold actK; rw [if_neg z0, if_neg z1, if_pos z2]
        subst z2
        rw [hK]
        clear z1 hin hK
        go_enter Try.func39, Try.ntmps39
        go_wp2_with fail
        exact ⟨rfl, _, results_aof _ _ w.heap.size _ rfl (heap_alloc_last w _) rfl, rfl, World.grownBy_alloc _ _ none⟩
      · have d2 : (v == -1) = false := beq_eq_false_iff_ne.2 z2
        have hK : actK v = (2, -1 - v) := by unfold actK; rw [if_neg z0, if_neg z1, if_neg z2]
        have hw1 : IntKind.i64.wrap (-1 - v) = -1 - v := by rw [IntKind.wrap_i64]; omega
        rw [hK]
        clear z1 hin hK
        go_enter Try.func39, Try.ntmps39
        go_wp2_with fail
        exact ⟨rfl, _, results_aof _ _ w.heap.size _ rfl (heap_alloc_last w _) rfl, rfl, World.grownBy_alloc _ _ none⟩

section
variable (da ba va oa ta gb gv go : Option Addr) (dc bc vc oc tc gbc gvc goc : Nat) (ds bs vs os ts gbs gvs gos : List Int) (w : World)

set_option maxRecDepth 100000 in
set_option maxHeartbeats 2000000 in
theorem pkAction_any (state term : Int) (hd : IntsAt w da ds) (hb : IntsAt w ba bs) (hv : IntsAt w va vs) (ho : IntsAt w oa os) (h2 : vs.length ≤ 17592186044416) (h3 : os.length ≤ 17592186044416) (hvr : ∀ x ∈ vs, -9223372036854775808 ≤ x ∧ x ≤ 9223372036854775807) (hbr : ∀ x ∈ bs, -9223372036854775808 ≤ x ∧ x ≤ 9223372036854775807) :
    Calls Try.prog 23 #[.agg #[.slice da ds.length dc, .slice ba bs.length bc, .slice va vs.length vc, .slice oa os.length oc, .slice ta ts.length tc, .slice gb gbs.length gbc, .slice gv gvs.length gvc, .slice go gos.length goc], .int .i64 state, .int .i64 term] w fun e y => e = .returned (.agg #[.int .i64 (actF ds bs vs os state term).1, .int .i64 (actF ds bs vs os state term).2]) ∧ w.grownBy y none := by
  obtain ⟨X, hX⟩ : ∃ X, X = (w.alloc (.cells #[.slice da ds.length dc, .slice ba bs.length bc, .slice va vs.length vc, .slice oa os.length oc, .slice ta ts.length tc, .slice gb gbs.length gbc, .slice gv gvs.length gvc, .slice go gos.length goc] 45)).alloc (.cells #[.int .i64 0, .int .i64 0] 52) := ⟨_, rfl⟩
  have hg1 : (w.alloc (.cells #[.slice da ds.length dc, .slice ba bs.length bc, .slice va vs.length vc, .slice oa os.length oc, .slice ta ts.length tc, .slice gb gbs.length gbc, .slice gv gvs.length gvc, .slice go gos.length goc] 45)).grownBy X none := by rw [hX]; exact World.grownBy_alloc _ _ none
  have hg : w.grownBy X none := grown_trans (World.grownBy_alloc _ _ none) hg1
  have HX : Hid (X = (w.alloc (.cells #[.slice da ds.length dc, .slice ba bs.length bc, .slice va vs.length vc, .slice oa os.length oc, .slice ta ts.length tc, .slice gb gbs.length gbc, .slice gv gvs.length gvc, .slice go gos.length goc] 45)).alloc (.cells #[.int .i64 0, .int .i64 0] 52)) := hX
  have HG : Hid (w.grownBy X none) := hg
  have HP : Hid (X.heap[w.heap.size]? = some (.cells #[.slice da ds.length dc, .slice ba bs.length bc, .slice va vs.length vc, .slice oa os.length oc, .slice ta ts.length tc, .slice gb gbs.length gbc, .slice gv gvs.length gvc, .slice go gos.length goc] 45 (0, 0))) := box_kept (heap_alloc_last w _) hg1
  have HR : Hid (X.heap[w.heap.size + 1]? = some (.cells #[.int .i64 0, .int .i64 0] 52 (0, 0))) := by
    show _ = _
    have h1 := heap_alloc_last (w.alloc (.cells #[.slice da ds.length dc, .slice ba bs.length bc, .slice va vs.length vc, .slice oa os.length oc, .slice ta ts.length tc, .slice gb gbs.length gbc, .slice gv gvs.length gvc, .slice go gos.length goc] 45)) (.cells #[.int .i64 0, .int .i64 0] 52)
    rw [hX]; simpa using h1
  have HAT := show Hid _ from pkAt_any ba va oa bc vc oc bs vs os state term X (hb.kept hg) (hv.kept hg) (ho.kept hg) hbr h2 h3
  have HD : Hid (∀ Y, X.grownBy Y none → IntsAt Y da ds) := fun Y hY => (hd.kept hg).kept hY
  have hin := atF_in (bs := bs) (os := os) (row := state) (place := term) hvr
  obtain ⟨v1, hv1⟩ : ∃ v, v = (atF bs vs os state term).1 := ⟨_, rfl⟩
  obtain ⟨v2, hv2⟩ : ∃ v, v = (atF bs vs os state term).2 := ⟨_, rfl⟩
  have HA : Hid (actF ds bs vs os state term = if v2 = true then (if v1 = 0 then (4, 0) else if 0 < v1 then (1, v1 - 1) else if v1 = -1 then (3, 0) else (2, -1 - v1)) else if 0 ≤ state ∧ state < ds.length ∧ 0 < ds.getD state.toNat 0 then (2, ds.getD state.toNat 0) else (0, 0)) := by
    show _ = _
    rw [hv1, hv2]; rfl
  obtain ⟨K, hK⟩ : ∃ K, K = actF ds bs vs os state term := ⟨_, rfl⟩
  rw [← hK] at HA ⊢
  rw [← hv1] at hin HAT
  rw [← hv2] at HAT
  clear hbr hd hb hv ho h2 h3 hg hg1 hX hvr hv1 hv2 hK
  go_enter Try.func23, Try.ntmps23
  go_wp2_with fail
  rw [← HX.out]
  refine Calls.mono HAT.out ?_
  rintro e y ⟨rfl, hgy⟩
  have HGY : Hid (w.grownBy y none) := grown_trans HG.out hgy
  have HDY : Hid (IntsAt y da ds) := HD.out y hgy
  have b0 := box_kept HP.out hgy
  have b1 := box_kept HR.out hgy
  have q0 : y.cell? ⟨w.heap.size, 0, none⟩ = some (.slice da ds.length dc) := by rw [cell_of_row _ _ _ _ _ _ b0]; rfl
  have r0 : y.cell? ⟨w.heap.size + 1, 0, none⟩ = some (.int .i64 0) := by rw [cell_of_row _ _ _ _ _ _ b1]; rfl
  have r1 : y.cell? ⟨w.heap.size + 1, 1, none⟩ = some (.int .i64 0) := by rw [cell_of_row _ _ _ _ _ _ b1]; rfl
  have rf0 : y.frozen? ⟨w.heap.size + 1, 0, none⟩ = false := frozen_of_row _ _ _ _ _ b1
  have rf1 : y.frozen? ⟨w.heap.size + 1, 1, none⟩ = false := frozen_of_row _ _ _ _ _ b1
  have HB1 : Hid (y.heap[w.heap.size + 1]? = some (.cells #[.int .i64 0, .int .i64 0] 52 (0, 0))) := b1
  clear hgy HAT HX HP HR HD HG b0 b1
  have HEND : Hid (∀ u0 u1, w.grownBy ((y.setCell ⟨w.heap.size + 1, 0, none⟩ u0).setCell ⟨w.heap.size + 1, 1, none⟩ u1) none) := fun u0 u1 => grown_new (grown_new HGY.out (grown_setCell _ _ _) (by omega)) (grown_setCell _ _ _) (by omega)
  cases v2 with
  | true =>
    have hK : K = actK v1 := by rw [HA.out, if_pos rfl]; rfl
    have HAO := show Hid _ from actionOf_any v1 y hin
    clear HA hin q0 r0 r1 rf0 rf1 HEND
    subst hK
    go_wp2_with fail
    refine Calls.mono HAO.out ?_
    rintro e z ⟨rfl, hz⟩
    have b1 := box_kept HB1.out hz
    have HZ1 : Hid (z.heap[w.heap.size + 1]? = some (.cells #[.int .i64 0, .int .i64 0] 52 (0, 0))) := b1
    have r0 : z.cell? ⟨w.heap.size + 1, 0, none⟩ = some (.int .i64 0) := by rw [cell_of_row _ _ _ _ _ _ b1]; rfl
    have r1 : z.cell? ⟨w.heap.size + 1, 1, none⟩ = some (.int .i64 0) := by rw [cell_of_row _ _ _ _ _ _ b1]; rfl
    have rf0 : z.frozen? ⟨w.heap.size + 1, 0, none⟩ = false := frozen_of_row _ _ _ _ _ b1
    have rf1 : z.frozen? ⟨w.heap.size + 1, 1, none⟩ = false := frozen_of_row _ _ _ _ _ b1
    have HEND : Hid (∀ u0 u1, w.grownBy ((z.setCell ⟨w.heap.size + 1, 0, none⟩ u0).setCell ⟨w.heap.size + 1, 1, none⟩ u1) none) := fun u0 u1 => grown_new (grown_new (grown_trans HGY.out hz) (grown_setCell _ _ _) (by omega)) (grown_setCell _ _ _) (by omega)
    clear b1 hz HAO
    go_wp2_with fail
    exact ⟨rfl, _, results_pact _ _ (w.heap.size + 1) _ rfl (set2_heap HZ1.out _ _) rfl, rfl, HEND.out _ _⟩
  | false =>
    have hff : ¬ (false = true) := by decide
    have hno : ¬ (0 ≤ state ∧ state < (ds.length : Int) ∧ 0 < ds.getD state.toNat 0) → K = (0, 0) := fun h => by rw [HA.out, if_neg hff, if_neg h]
    have hyes : 0 ≤ state ∧ state < (ds.length : Int) ∧ 0 < ds.getD state.toNat 0 → K = (2, ds.getD state.toNat 0) := fun h => by rw [HA.out, if_neg hff, if_pos h]
    have HIP : Hid (∀ W, Calls Try.prog 33 #[.slice da ds.length dc, .int .i64 state] W fun e y => e = .returned (.bool (decide (0 ≤ state ∧ state < (ds.length : Int)))) ∧ y = W) := fun W => isPlace_any da ds.length dc state W
    clear HA hin hff
    by_cases z0 : 0 ≤ state
    · have d0 : decide (0 ≤ state) = true := decide_eq_true z0
      by_cases z1 : state < (ds.length : Int)
      · have d1 : decide (state < (ds.length : Int)) = true := decide_eq_true z1
        obtain ⟨n, rfl⟩ := Int.eq_ofNat_of_zero_le z0
        have hnl : n < ds.length := by omega
        obtain ⟨db, dof, rfl, c0⟩ : ∃ db dof, da = some ⟨db, dof, none⟩ ∧ y.cell? ⟨db, dof + n, none⟩ = some (.int .i64 (ds.getD n 0)) := by
          rcases HDY.out with h | ⟨db, dof, e, h⟩
          · rw [h] at hnl; exact absurd hnl (Nat.not_lt_zero _)
          · exact ⟨db, dof, e, h n hnl⟩
        have hne : ds.getD ((n : Nat) : Int).toNat 0 = ds.getD n 0 := rfl
        rw [hne] at hno hyes
        obtain ⟨dv, hdv⟩ : ∃ v, v = ds.getD n 0 := ⟨_, rfl⟩
        rw [← hdv] at c0 hno hyes
        obtain ⟨dl, hdl⟩ : ∃ v, v = ds.length := ⟨_, rfl⟩
        have hn1 : (n : Int) < (dl : Int) := by omega
        have d1' : decide (n < dl) = true := decide_eq_true (by omega)
        have hip : decide (0 ≤ ((n : Nat) : Int) ∧ ((n : Nat) : Int) < (ds.length : Int)) = true := decide_eq_true ⟨z0, z1⟩
        rw [hip] at HIP
        rw [← hdl] at d1 q0 HIP ⊢
        by_cases z2 : 0 < dv
        · have hK := hyes ⟨z0, z1, z2⟩
          have d2 : decide (0 < dv) = true := decide_eq_true z2
          clear hno hyes z0 z1 z2 hdv hdl hnl hne HDY hip
          subst hK
          go_wp2_with fail
          refine Calls.mono (HIP.out _) ?_
          rintro e y2 ⟨rfl, rfl⟩
          go_wp2_with fail
          exact ⟨rfl, _, results_pact _ _ (w.heap.size + 1) _ rfl (set2_heap HB1.out _ _) rfl, rfl, HEND.out _ _⟩
        · have hK := hno fun h => z2 h.2.2
          have d2 : decide (0 < dv) = false := decide_eq_false z2
          clear hno hyes z0 z1 z2 hdv hdl hnl hne HDY hip
          subst hK
          go_wp2_with fail
          refine Calls.mono (HIP.out _) ?_
          rintro e y2 ⟨rfl, rfl⟩
          go_wp2_with fail
          exact ⟨rfl, _, results_pact _ _ (w.heap.size + 1) _ rfl (set2_heap HB1.out _ _) rfl, rfl, HEND.out _ _⟩
      · have d1 : decide (state < (ds.length : Int)) = false := decide_eq_false z1
        have hK := hno fun h => z1 h.2.1
        have hip : decide (0 ≤ state ∧ state < (ds.length : Int)) = false := decide_eq_false fun h => z1 h.2
        rw [hip] at HIP
        clear hip
        clear hno hyes z0 z1 HDY
        subst hK
        go_wp2_with fail
        refine Calls.mono (HIP.out _) ?_
        rintro e y2 ⟨rfl, rfl⟩
        go_wp2_with fail
        exact ⟨rfl, _, results_pact _ _ (w.heap.size + 1) _ rfl (set2_heap HB1.out _ _) rfl, rfl, HEND.out _ _⟩
    · have d0 : decide (0 ≤ state) = false := decide_eq_false z0
      have hK := hno fun h => z0 h.1
      have hip : decide (0 ≤ state ∧ state < (ds.length : Int)) = false := decide_eq_false fun h => z0 h.1
      rw [hip] at HIP
      clear hip
      clear hno hyes z0 HDY
      subst hK
      go_wp2_with fail
      refine Calls.mono (HIP.out _) ?_
      rintro e y2 ⟨rfl, rfl⟩
      go_wp2_with fail
      exact ⟨rfl, _, results_pact _ _ (w.heap.size + 1) _ rfl (set2_heap HB1.out _ _) rfl, rfl, HEND.out _ _⟩
set_option maxRecDepth 100000 in
set_option maxHeartbeats 2000000 in
theorem pkGoto_any (state non : Int) (ht : IntsAt w ta ts) (hb : IntsAt w gb gbs) (hv : IntsAt w gv gvs) (ho : IntsAt w go gos) (h2 : gvs.length ≤ 17592186044416) (h3 : gos.length ≤ 17592186044416) (hbr : ∀ x ∈ gbs, -9223372036854775808 ≤ x ∧ x ≤ 9223372036854775807) :
    Calls Try.prog 24 #[.agg #[.slice da ds.length dc, .slice ba bs.length bc, .slice va vs.length vc, .slice oa os.length oc, .slice ta ts.length tc, .slice gb gbs.length gbc, .slice gv gvs.length gvc, .slice go gos.length goc], .int .i64 state, .int .i64 non] w fun e y => e = .returned (.int .i64 (gotoF ts gbs gvs gos state non)) ∧ w.grownBy y none := by
  obtain ⟨X, hX⟩ : ∃ X, X = w.alloc (.cells #[.slice da ds.length dc, .slice ba bs.length bc, .slice va vs.length vc, .slice oa os.length oc, .slice ta ts.length tc, .slice gb gbs.length gbc, .slice gv gvs.length gvc, .slice go gos.length goc] 45) := ⟨_, rfl⟩
  have hg : w.grownBy X none := by rw [hX]; exact World.grownBy_alloc _ _ none
  have HX : Hid (X = w.alloc (.cells #[.slice da ds.length dc, .slice ba bs.length bc, .slice va vs.length vc, .slice oa os.length oc, .slice ta ts.length tc, .slice gb gbs.length gbc, .slice gv gvs.length gvc, .slice go gos.length goc] 45)) := hX
  have HG : Hid (w.grownBy X none) := hg
  have HP : Hid (X.heap[w.heap.size]? = some (.cells #[.slice da ds.length dc, .slice ba bs.length bc, .slice va vs.length vc, .slice oa os.length oc, .slice ta ts.length tc, .slice gb gbs.length gbc, .slice gv gvs.length gvc, .slice go gos.length goc] 45 (0, 0))) := by rw [hX]; exact heap_alloc_last w _
  have HAT := show Hid _ from pkAt_any gb gv go gbc gvc goc gbs gvs gos non state X (hb.kept hg) (hv.kept hg) (ho.kept hg) hbr h2 h3
  have HD : Hid (∀ Y, X.grownBy Y none → IntsAt Y ta ts) := fun Y hY => (ht.kept hg).kept hY
  obtain ⟨v1, hv1⟩ : ∃ v, v = (atF gbs gvs gos non state).1 := ⟨_, rfl⟩
  obtain ⟨v2, hv2⟩ : ∃ v, v = (atF gbs gvs gos non state).2 := ⟨_, rfl⟩
  have HA : Hid (gotoF ts gbs gvs gos state non = if v2 = true then v1 else if 0 ≤ non ∧ non < ts.length then ts.getD non.toNat 0 else -1) := by
    show _ = _
    rw [hv1, hv2]; rfl
  obtain ⟨K, hK⟩ : ∃ K, K = gotoF ts gbs gvs gos state non := ⟨_, rfl⟩
  rw [← hK] at HA ⊢
  rw [← hv1, ← hv2] at HAT
  clear hbr ht hb hv ho h2 h3 hg hX hv1 hv2 hK
  go_enter Try.func24, Try.ntmps24
  go_wp2_with fail
  rw [← HX.out]
  refine Calls.mono HAT.out ?_
  rintro e y ⟨rfl, hgy⟩
  have HGY : Hid (w.grownBy y none) := grown_trans HG.out hgy
  have HDY : Hid (IntsAt y ta ts) := HD.out y hgy
  have b0 := box_kept HP.out hgy
  have q0 : y.cell? ⟨w.heap.size, 4, none⟩ = some (.slice ta ts.length tc) := by rw [cell_of_row _ _ _ _ _ _ b0]; rfl
  clear hgy HAT HX HP HD HG b0
  cases v2 with
  | true =>
    have hK : K = v1 := by rw [HA.out, if_pos rfl]
    clear HA HDY
    subst hK
    go_wp2_with fail
    go_ret
    exact ⟨rfl, HGY.out⟩
  | false =>
    have hff : ¬ (false = true) := by decide
    have hno : ¬ (0 ≤ non ∧ non < (ts.length : Int)) → K = -1 := fun h => by rw [HA.out, if_neg hff, if_neg h]
    have hyes : 0 ≤ non ∧ non < (ts.length : Int) → K = ts.getD non.toNat 0 := fun h => by rw [HA.out, if_neg hff, if_pos h]
    have HIP : Hid (∀ W, Calls Try.prog 33 #[.slice ta ts.length tc, .int .i64 non] W fun e y => e = .returned (.bool (decide (0 ≤ non ∧ non < (ts.length : Int)))) ∧ y = W) := fun W => isPlace_any ta ts.length tc non W
    clear HA hff
    by_cases z0 : 0 ≤ non
    · have d0 : decide (0 ≤ non) = true := decide_eq_true z0
      by_cases z1 : non < (ts.length : Int)
      · have d1 : decide (non < (ts.length : Int)) = true := decide_eq_true z1
        obtain ⟨n, rfl⟩ := Int.eq_ofNat_of_zero_le z0
        have hnl : n < ts.length := by omega
        obtain ⟨db, dof, rfl, c0⟩ : ∃ db dof, ta = some ⟨db, dof, none⟩ ∧ y.cell? ⟨db, dof + n, none⟩ = some (.int .i64 (ts.getD n 0)) := by
          rcases HDY.out with h | ⟨db, dof, e, h⟩
          · rw [h] at hnl; exact absurd hnl (Nat.not_lt_zero _)
          · exact ⟨db, dof, e, h n hnl⟩
        have hK : K = ts.getD n 0 := hyes ⟨z0, z1⟩
        obtain ⟨dv, hdv⟩ : ∃ v, v = ts.getD n 0 := ⟨_, rfl⟩
        rw [← hdv] at c0 hK
        obtain ⟨dl, hdl⟩ : ∃ v, v = ts.length := ⟨_, rfl⟩
        have hn1 : (n : Int) < (dl : Int) := by omega
        have d1' : decide (n < dl) = true := decide_eq_true (by omega)
        have hip : decide (0 ≤ ((n : Nat) : Int) ∧ ((n : Nat) : Int) < (ts.length : Int)) = true := decide_eq_true ⟨z0, z1⟩
        rw [hip] at HIP
        rw [← hdl] at d1 q0 HIP ⊢
        clear hno hyes z0 z1 hdv hdl hnl HDY hip
        subst hK
        go_wp2_with fail
        refine Calls.mono (HIP.out _) ?_
        rintro e y2 ⟨rfl, rfl⟩
        go_wp2_with fail
        go_ret
        exact ⟨rfl, HGY.out⟩
      · have d1 : decide (non < (ts.length : Int)) = false := decide_eq_false z1
        have hK := hno fun h => z1 h.2
        have hip : decide (0 ≤ non ∧ non < (ts.length : Int)) = false := decide_eq_false fun h => z1 h.2
        rw [hip] at HIP
        clear hip
        clear hno hyes z0 z1 HDY
        subst hK
        go_wp2_with fail
        refine Calls.mono (HIP.out _) ?_
        rintro e y2 ⟨rfl, rfl⟩
        go_wp2_with fail
        go_ret
        exact ⟨rfl, HGY.out⟩
    · have d0 : decide (0 ≤ non) = false := decide_eq_false z0
      have hK := hno fun h => z0 h.1
      have hip : decide (0 ≤ non ∧ non < (ts.length : Int)) = false := decide_eq_false fun h => z0 h.1
      rw [hip] at HIP
      clear hip
      clear hno hyes z0 HDY
      subst hK
      go_wp2_with fail
      refine Calls.mono (HIP.out _) ?_
      rintro e y2 ⟨rfl, rfl⟩
      go_wp2_with fail
      go_ret
      exact ⟨rfl, HGY.out⟩
end

end Go.Proofs.Ythohllgpkiibhaa.J

/-
  pack: the document's comparisons, of what is the same.
-/
namespace Go.Proofs.Ythohllgpkiibhaa.J
open Go.RowKit Go.Maps Go.Shelf Pk

attribute [local go_sem] Oper.semAt_some

set_option maxRecDepth 100000 in
theorem rpInts_same (a1 a2 : Option Addr) (c1 c2 : Nat) (l : List Int) (w : World) (h1 : IntsAt w a1 l) (h2 : IntsAt w a2 l) (hn : l.length ≤ 17592186044416) :
    Calls Try.prog 32 #[.slice a1 l.length c1, .slice a2 l.length c2] w fun e y => e = .returned (.bool true) ∧ w.grownBy y none := by
  have H1 : Hid (∀ X, w.grownBy X none → IntsAt X a1 l ∧ IntsAt X a2 l) := fun X hX => ⟨h1.kept hX, h2.kept hX⟩
  obtain ⟨n, he⟩ : ∃ n, n = l.length := ⟨_, rfl⟩
  have HE : Hid (n = l.length) := he
  rw [← he] at hn
  rw [← he]
  have hnn : ((n : Int) != (n : Int)) = false := bne_self_eq_false _
  clear h1 h2 he
  go_enter Try.func32, Try.ntmps32
  go_wp2_with fail
  go_loopg [5] n (fun gk v5 wr => ∃ (j : Nat), j ≤ n ∧ gk = n - j ∧ v5 = .int .i64 j ∧ w.grownBy wr none)
  case atStart => exact ⟨0, Nat.zero_le _, rfl, rfl, grown_refl _ _⟩
  case round =>
    obtain ⟨j, hj, hgj, rfl, hg⟩ := hrel
    have HGJ : Hid (gk = n - j) := hgj
    have HG : Hid (w.grownBy wr none) := hg
    clear hgj hg
    by_cases hjl : j < n
    · have hjl2 : j < l.length := by rw [← HE.out]; exact hjl
      obtain ⟨ab, ao, rfl, hc1⟩ : ∃ ab ao, a1 = some ⟨ab, ao, none⟩ ∧ wr.cell? ⟨ab, ao + j, none⟩ = some (.int .i64 (l.getD j 0)) := by
        rcases (H1.out wr HG.out).1 with h | ⟨ab, ao, e, h⟩
        · rw [h] at hjl2; cases hjl2
        · exact ⟨ab, ao, e, h j hjl2⟩
      obtain ⟨bb, bo, rfl, hc2⟩ : ∃ ab ao, a2 = some ⟨ab, ao, none⟩ ∧ wr.cell? ⟨ab, ao + j, none⟩ = some (.int .i64 (l.getD j 0)) := by
        rcases (H1.out wr HG.out).2 with h | ⟨ab, ao, e, h⟩
        · rw [h] at hjl2; cases hjl2
        · exact ⟨ab, ao, e, h j hjl2⟩
      obtain ⟨x, hx⟩ : ∃ x, x = l.getD j 0 := ⟨_, rfl⟩
      rw [← hx] at hc1 hc2
      have hxx : (x != x) = false := bne_self_eq_false _
      have hj0 : (0 : Int) ≤ (j : Int) := by omega
      have hj1 : (j : Int) < (n : Int) := by omega
      have hjd : decide (j < n) = true := decide_eq_true hjl
      clear hx
      go_wp2_with fail
      go_quiet (fail)
      go_wp2_with fail
      go_roundg (n - (j + 1))
      case measure => have := HGJ.out; omega
      case rel => exact ⟨j + 1, by omega, rfl, by go_num, by first | exact HG.out | exact grown_trans HG.out (grown_drewN _ _)⟩
    · have hjn : n = j := by omega
      subst hjn
      have hjd : decide (n < n) = false := decide_eq_false (by omega)
      go_wp2_with fail
      go_ret
      exact ⟨rfl, HG.out⟩



/-- Laid rows in memory. -/
def RwsAt (X : World) (ba va oa : Option Addr) (bs vs os : List Int) : Prop := IntsAt X ba bs ∧ IntsAt X va vs ∧ IntsAt X oa os
theorem RwsAt.kept {X Y : World} {ba va oa : Option Addr} {bs vs os : List Int} (h : RwsAt X ba va oa bs vs os) (hg : X.grownBy Y none) : RwsAt Y ba va oa bs vs os := ⟨h.1.kept hg, h.2.1.kept hg, h.2.2.kept hg⟩

set_option maxRecDepth 100000 in
set_option maxHeartbeats 2000000 in
theorem rpSameRows_same (ba va oa ba' va' oa' : Option Addr) (bc vc oc bc' vc' oc' : Nat) (bs vs os : List Int) (w : World) (h : RwsAt w ba va oa bs vs os) (h' : RwsAt w ba' va' oa' bs vs os) (h1 : bs.length ≤ 17592186044416) (h2 : vs.length ≤ 17592186044416) (h3 : os.length ≤ 17592186044416) :
    Calls Try.prog 12 #[.agg #[.slice ba bs.length bc, .slice va vs.length vc, .slice oa os.length oc], .agg #[.slice ba' bs.length bc', .slice va' vs.length vc', .slice oa' os.length oc']] w fun e y => e = .returned (.bool true) ∧ w.grownBy y none := by
  have H1 : Hid (∀ X, w.grownBy X none → Calls Try.prog 32 #[.slice ba bs.length bc, .slice ba' bs.length bc'] X fun e y => e = .returned (.bool true) ∧ X.grownBy y none) := fun X hX => rpInts_same _ _ _ _ bs X (h.kept hX).1 (h'.kept hX).1 h1
  have H2 : Hid (∀ X, w.grownBy X none → Calls Try.prog 32 #[.slice va vs.length vc, .slice va' vs.length vc'] X fun e y => e = .returned (.bool true) ∧ X.grownBy y none) := fun X hX => rpInts_same _ _ _ _ vs X (h.kept hX).2.1 (h'.kept hX).2.1 h2
  have H3 : Hid (∀ X, w.grownBy X none → Calls Try.prog 32 #[.slice oa os.length oc, .slice oa' os.length oc'] X fun e y => e = .returned (.bool true) ∧ X.grownBy y none) := fun X hX => rpInts_same _ _ _ _ os X (h.kept hX).2.2 (h'.kept hX).2.2 h3
  obtain ⟨bl, hbl⟩ : ∃ v, v = bs.length := ⟨_, rfl⟩
  obtain ⟨vl, hvl⟩ : ∃ v, v = vs.length := ⟨_, rfl⟩
  obtain ⟨ol, hol⟩ : ∃ v, v = os.length := ⟨_, rfl⟩
  rw [← hbl] at H1 ⊢
  rw [← hvl] at H2 ⊢
  rw [← hol] at H3 ⊢
  clear h h' h1 h2 h3 hbl hvl hol
  obtain ⟨X, hX⟩ : ∃ X, X = (w.alloc (.cells #[.slice ba bl bc, .slice va vl vc, .slice oa ol oc] 26)).alloc (.cells #[.slice ba' bl bc', .slice va' vl vc', .slice oa' ol oc'] 26) := ⟨_, rfl⟩
  have HX : Hid (X = (w.alloc (.cells #[.slice ba bl bc, .slice va vl vc, .slice oa ol oc] 26)).alloc (.cells #[.slice ba' bl bc', .slice va' vl vc', .slice oa' ol oc'] 26)) := hX
  have hg1 : (w.alloc (.cells #[.slice ba bl bc, .slice va vl vc, .slice oa ol oc] 26)).grownBy X none := by rw [hX]; exact World.grownBy_alloc _ _ none
  have HG : Hid (w.grownBy X none) := grown_trans (World.grownBy_alloc _ _ none) hg1
  have HCC : Hid (∀ Y, X.grownBy Y none → (Y.cell? ⟨w.heap.size, 1, none⟩ = some (.slice va vl vc) ∧ Y.cell? ⟨w.heap.size, 2, none⟩ = some (.slice oa ol oc)) ∧ Y.cell? ⟨w.heap.size + 1, 1, none⟩ = some (.slice va' vl vc') ∧ Y.cell? ⟨w.heap.size + 1, 2, none⟩ = some (.slice oa' ol oc')) := fun Y hY => by
    have b0 := box_kept (box_kept (heap_alloc_last w (.cells #[.slice ba bl bc, .slice va vl vc, .slice oa ol oc] 26)) hg1) hY
    have b1 : X.heap[w.heap.size + 1]? = some (.cells #[.slice ba' bl bc', .slice va' vl vc', .slice oa' ol oc'] 26 (0, 0)) := by
      have h1 := heap_alloc_last (w.alloc (.cells #[.slice ba bl bc, .slice va vl vc, .slice oa ol oc] 26)) (.cells #[.slice ba' bl bc', .slice va' vl vc', .slice oa' ol oc'] 26)
      rw [hX]; simpa using h1
    have b2 := box_kept b1 hY
    exact ⟨⟨by rw [cell_of_row _ _ _ _ _ _ b0]; rfl, by rw [cell_of_row _ _ _ _ _ _ b0]; rfl⟩, by rw [cell_of_row _ _ _ _ _ _ b2]; rfl, by rw [cell_of_row _ _ _ _ _ _ b2]; rfl⟩
  clear hX hg1
  go_enter Try.func12, Try.ntmps12
  go_wp2_with fail
  rw [← HX.out]
  refine Calls.mono (H1.out X HG.out) ?_
  rintro e y ⟨rfl, hg1⟩
  have HG1 : Hid (X.grownBy y none) := hg1
  obtain ⟨⟨c0, c1⟩, c2, c3⟩ := HCC.out y hg1
  clear hg1
  go_wp2_with fail
  refine Calls.mono (H2.out y (grown_trans HG.out HG1.out)) ?_
  rintro e y2 ⟨rfl, hg2⟩
  have HG2 : Hid (X.grownBy y2 none) := grown_trans HG1.out hg2
  clear c0 c1 c2 c3
  obtain ⟨⟨c0, c1⟩, c2, c3⟩ := HCC.out y2 HG2.out
  clear hg2
  go_wp2_with fail
  refine Calls.mono (H3.out y2 (grown_trans HG.out HG2.out)) ?_
  rintro e y3 ⟨rfl, hg3⟩
  have HG3 : Hid (w.grownBy y3 none) := grown_trans HG.out (grown_trans HG2.out hg3)
  clear c0 c1 c2 c3 hg3
  go_wp2_with fail
  go_ret
  exact ⟨rfl, HG3.out⟩

end Go.Proofs.Ythohllgpkiibhaa.J
