import Derived.Test.YtdijjlhodlghbaaRows
import Derived.Test.YtdijjlhodlghbaaQnijponahielk
import Derived.Test.YtdijjlhodlghbaaQehmadobnnnbm
import Derived.Test.YtdijjlhodlghbaaQgebfmhdknfjl
import Derived.Deep.RegionHeld3

/-
  lr0: what the laws' theorems share.
-/
namespace Go.Proofs.Ytdijjlhodlghbaa.J
open Go.ChangeShapes Go.WideShapes Go.ChangeAt Go.RowKit Go.Deep

theorem own : ownKnob Try.prog.godebug = none := by kernel_rfl
theorem laidOut : laidOutB Try.prog = true := by kernel_rfl
section
variable {H : Type} {enc : TypeId × Value → H} {W : World} {fuel : Nat} {cs : List Value} {x : DataW H × List MemPlace}

end

end Go.Proofs.Ytdijjlhodlghbaa.J

/-
  lr0: the law Lr0Interns, walked.
-/
namespace Go.Proofs.Ytdijjlhodlghbaa.J
open Go.RowKit Go.Maps Go.Shelf

attribute [local go_sem] Oper.semAt_some

set_option maxRecDepth 100000 in
theorem interns_bad (ta na la pa : Option Addr) (tc nc lc pc : Nat) (n : Nat) (st : Int) (w : World) (tn nn ln : Nat) (b : Bool) (ec : Int) (hb : (b = false ∧ ec = 1) ∨ (b = true ∧ ec = 11))
    (hCL : ∀ X, w.grownBy X none → Calls Try.prog 22 #[.agg #[.slice ta tn tc, .slice na nn nc, .slice la ln lc, .int .i64 st, .slice pa n pc]] X fun e w' => e = .returned (.bool b) ∧ X.grownBy w' none)
    (hBU : ∀ X, w.grownBy X none → Calls Try.prog 12 #[.agg #[.slice ta tn tc, .slice na nn nc, .slice la ln lc, .int .i64 st, .slice pa n pc]] X fun e y => e = .returned (.tuple #[.agg #[.slice none 0 0, .int .i64 0, .int .i64 0], .int .i64 ec]) ∧ X.grownBy y none) :
    Calls Try.prog 5 #[.agg #[.slice ta tn tc, .slice na nn nc, .slice la ln lc, .int .i64 st, .slice pa n pc]] w fun e w' => e = .returned (.bool true) ∧ w.grownBy w' none := by
  have HCL := show Hid _ from hCL
  have HBU := show Hid _ from hBU
  have HX0 : Hid (PhAt w (w.alloc (.cells #[.slice ta tn tc, .slice na nn nc, .slice la ln lc, .int .i64 st, .slice pa n pc] 27)) w.heap.size #[.slice ta tn tc, .slice na nn nc, .slice la ln lc, .int .i64 st, .slice pa n pc]) := ⟨World.grownBy_alloc _ _ none, heap_alloc_last w _⟩
  clear hCL hBU
  go_enter Try.func5, Try.ntmps5
  go_wp2_with fail
  refine Calls.mono (awake_any _) ?_
  rintro e w1 ⟨rfl, hg1⟩
  have HX1 : Hid (PhAt w w1 w.heap.size #[.slice ta tn tc, .slice na nn nc, .slice la ln lc, .int .i64 st, .slice pa n pc]) := HX0.out.kept hg1
  clear hg1 HX0
  obtain ⟨k0, k1, k2, k3, k4⟩ := HX1.out.cells
  go_wp2_with fail
  refine Calls.mono (HCL.out _ HX1.out.grown) ?_
  rintro e w2 ⟨rfl, hg2⟩
  have HX2 : Hid (PhAt w w2 w.heap.size #[.slice ta tn tc, .slice na nn nc, .slice la ln lc, .int .i64 st, .slice pa n pc]) := HX1.out.kept hg2
  clear hg2 HX1 k0 k1 k2 k3 k4
  obtain ⟨k0, k1, k2, k3, k4⟩ := HX2.out.cells
  go_wp2_with fail
  refine Calls.mono (HBU.out _ HX2.out.grown) ?_
  rintro e w3 ⟨rfl, hg3⟩
  have HG3 : Hid (w.grownBy w3 none) := grown_trans HX2.out.grown hg3
  have y0 : (w3.alloc (.cells #[.slice none 0 0, .int .i64 0, .int .i64 0] 32)).cell? ⟨w3.heap.size, 0, none⟩ = some (.slice none 0 0) := by rw [cell_of_row _ _ _ _ _ _ (heap_alloc_last w3 _)]; rfl
  have y1 : (w3.alloc (.cells #[.slice none 0 0, .int .i64 0, .int .i64 0] 32)).cell? ⟨w3.heap.size, 1, none⟩ = some (.int .i64 0) := by rw [cell_of_row _ _ _ _ _ _ (heap_alloc_last w3 _)]; rfl
  have y2 : (w3.alloc (.cells #[.slice none 0 0, .int .i64 0, .int .i64 0] 32)).cell? ⟨w3.heap.size, 2, none⟩ = some (.int .i64 0) := by rw [cell_of_row _ _ _ _ _ _ (heap_alloc_last w3 _)]; rfl
  clear hg3 k0 k1 k2 k3 k4 HX2
  rcases hb with ⟨rfl, rfl⟩ | ⟨rfl, rfl⟩
  all_goals go_wp2_with fail
  all_goals go_ret
  all_goals exact ⟨rfl, grown_trans HG3.out (World.grownBy_alloc _ _ none)⟩

section
variable (ta na la : Option Addr) (tc nc lc pc : Nat) (n : Nat) (st : Int) (w : World) (tn nn ln : Nat) (bp op : Nat)
set_option maxRecDepth 100000 in
set_option maxHeartbeats 8000000 in
theorem interns_ok (ks : List (List It)) (es : List (List (Nat × Nat))) (N : Nat) (ask : Int) (hN : N = ks.length) (hN2 : 2 ≤ N) (hN256 : N ≤ 256) (hnd : ks.Nodup) (hhd : ks.getD 0 [] = [(0, 0)]) (hkl : ∀ q, q < N → (ks.getD q []).length ≤ 10000000) (hEl : ∀ q, (es.getD q []).length ≤ 130) (hask : ask = (sumE es N : Int) + 1)
    (hCL : ∀ X, w.grownBy X none → Calls Try.prog 22 #[.agg #[.slice ta tn tc, .slice na nn nc, .slice la ln lc, .int .i64 st, .slice (some ⟨bp, op, none⟩) n pc]] X fun e w' => e = .returned (.bool true) ∧ X.grownBy w' none)
    (hBU : ∀ X, w.grownBy X none → Calls Try.prog 12 #[.agg #[.slice ta tn tc, .slice na nn nc, .slice la ln lc, .int .i64 st, .slice (some ⟨bp, op, none⟩) n pc]] X fun e y => ∃ sa sc kv ev, e = .returned (.tuple #[.agg #[.slice sa N sc, .int .i64 ask, .int .i64 (N : Int)], .int .i64 0]) ∧ AutP X.heap.size y (.slice sa ks.length sc) ks (elF es) kv ev ∧ X.grownBy y none)
    (hRE : ∀ X sb sc, w.grownBy X none → (∀ q, q < N → ∃ ea ec ka kc, ∀ Y, X.grownBy Y none → (Y.cell? ⟨sb, q * 2 + 1, none⟩ = some (.slice ea (es.getD q []).length ec) ∧ ItsAt Y ea (elF es q)) ∧ Y.cell? ⟨sb, q * 2, none⟩ = some (.slice ka (ks.getD q []).length kc) ∧ ItsAt Y ka (ks.getD q [])) → Calls Try.prog 23 #[.agg #[.slice ta tn tc, .slice na nn nc, .slice la ln lc, .int .i64 st, .slice (some ⟨bp, op, none⟩) n pc], .agg #[.slice (some ⟨sb, 0, none⟩) N sc, .int .i64 ask, .int .i64 (N : Int)]] X fun e y => ∃ ib : Nat, e = .returned (.tuple #[.slice (some ⟨ib, 0, none⟩) N N, .bool true]) ∧ ValAt y ib N 4 (fun _ => .bool true) ∧ X.grownBy y none) :
    Calls Try.prog 5 #[.agg #[.slice ta tn tc, .slice na nn nc, .slice la ln lc, .int .i64 st, .slice (some ⟨bp, op, none⟩) n pc]] w fun e w' => e = .returned (.bool true) ∧ w.grownBy w' none := by
  have HCL := show Hid _ from hCL
  have HBU := show Hid _ from hBU
  have HRE := show Hid _ from hRE
  have HN : Hid (N = ks.length) := hN
  have HND : Hid (∀ i j, i < N → j < i → ks.getD i [] ≠ ks.getD j []) := fun i j hi hj e => by
    have e1 : ks.getD i [] = ks[i]'(by omega) := by rw [List.getD_eq_getElem?_getD, List.getElem?_eq_getElem (show i < ks.length by omega)]; rfl
    have e2 : ks.getD j [] = ks[j]'(by omega) := by rw [List.getD_eq_getElem?_getD, List.getElem?_eq_getElem (show j < ks.length by omega)]; rfl
    rw [e1, e2] at e
    have := (List.pairwise_iff_getElem.1 hnd) j i (by omega) (by omega) hj
    exact this e.symm
  have HHD : Hid (ks.getD 0 [] = [(0, 0)]) := hhd
  have HKL : Hid (∀ q, q < N → (ks.getD q []).length ≤ 10000000) := hkl
  have HEL : Hid (∀ q, (es.getD q []).length ≤ 130) := hEl
  have HSB : Hid (∀ i, sumE es i ≤ i * 130) := fun i => by
    show _ ≤ _
    induction i with
    | zero => exact Nat.le_refl _
    | succ i ih => unfold sumE; have := hEl i; omega
  have HASK : Hid (ask = (sumE es N : Int) + 1) := hask
  have HX0 : Hid (PhAt w (w.alloc (.cells #[.slice ta tn tc, .slice na nn nc, .slice la ln lc, .int .i64 st, .slice (some ⟨bp, op, none⟩) n pc] 27)) w.heap.size #[.slice ta tn tc, .slice na nn nc, .slice la ln lc, .int .i64 st, .slice (some ⟨bp, op, none⟩) n pc]) := ⟨World.grownBy_alloc _ _ none, heap_alloc_last w _⟩
  have hnn0 : ((N : Int) != (N : Int)) = false := bne_self_eq_false _
  have hnn1 : (N != N) = false := bne_self_eq_false _
  have hl1 : decide ((N : Int) < 2) = false := decide_eq_false (by omega)
  have hl1n : decide (N < 2) = false := decide_eq_false (by omega)
  have hl2 : decide ((256 : Int) < (N : Int)) = false := decide_eq_false (by omega)
  have hl2n : decide (256 < N) = false := decide_eq_false (by omega)
  clear hCL hBU hRE hN hnd hhd hkl hEl hask
  go_enter Try.func5, Try.ntmps5
  go_wp2_with fail
  refine Calls.mono (awake_any _) ?_
  rintro e w1 ⟨rfl, hg1⟩
  have HX1 : Hid (PhAt w w1 w.heap.size #[.slice ta tn tc, .slice na nn nc, .slice la ln lc, .int .i64 st, .slice (some ⟨bp, op, none⟩) n pc]) := HX0.out.kept hg1
  clear hg1 HX0
  obtain ⟨k0, k1, k2, k3, k4⟩ := HX1.out.cells
  go_wp2_with fail
  refine Calls.mono (HCL.out _ HX1.out.grown) ?_
  rintro e w2 ⟨rfl, hg2⟩
  have HX2 : Hid (PhAt w w2 w.heap.size #[.slice ta tn tc, .slice na nn nc, .slice la ln lc, .int .i64 st, .slice (some ⟨bp, op, none⟩) n pc]) := HX1.out.kept hg2
  clear hg2 HX1 k0 k1 k2 k3 k4
  obtain ⟨k0, k1, k2, k3, k4⟩ := HX2.out.cells
  go_wp2_with fail
  refine Calls.mono (HBU.out _ HX2.out.grown) ?_
  rintro e w3 ⟨sa, sc, kv, ev, rfl, hAP, hg3⟩
  obtain ⟨ab, hab⟩ : ∃ b, b = w3.heap.size := ⟨_, rfl⟩
  obtain ⟨W, hW⟩ : ∃ W, W = w3.alloc (.cells #[.slice sa N sc, .int .i64 ask, .int .i64 (N : Int)] 32) := ⟨_, rfl⟩
  have hgW : w3.grownBy W none := by rw [hW]; exact World.grownBy_alloc _ _ none
  have HXW : Hid (PhAt w W w.heap.size #[.slice ta tn tc, .slice na nn nc, .slice la ln lc, .int .i64 st, .slice (some ⟨bp, op, none⟩) n pc]) := HX2.out.kept (grown_trans hg3 hgW)
  have HAW : Hid (W.heap[ab]? = some (.cells #[.slice sa N sc, .int .i64 ask, .int .i64 (N : Int)] 32 (0, 0))) := by rw [hW, hab]; exact heap_alloc_last w3 _
  have HWE := show Hid _ from hW
  have HBE := show Hid _ from hab
  have hPW := hAP.kept hgW
  obtain ⟨sb, sc', hsv, -, -⟩ := hPW.st (q := 0) (by rw [← HN.out]; omega)
  simp only [Value.slice.injEq] at hsv
  obtain ⟨rfl, _, rfl⟩ := hsv
  have hst : ∀ q, q < N → ∃ ea ec ka kc, ∀ Y, W.grownBy Y none → (Y.cell? ⟨sb, q * 2 + 1, none⟩ = some (.slice ea (es.getD q []).length ec) ∧ ItsAt Y ea (elF es q)) ∧ Y.cell? ⟨sb, q * 2, none⟩ = some (.slice ka (ks.getD q []).length kc) ∧ ItsAt Y ka (ks.getD q []) := fun q hq => by
    obtain ⟨sb2, sc2, hsv2, hs1, hs2⟩ := hPW.st (q := q) (by rw [← HN.out]; exact hq)
    simp only [Value.slice.injEq, Option.some.injEq, Addr.mk.injEq] at hsv2
    obtain ⟨⟨rfl, _⟩, _⟩ := hsv2
    obtain ⟨ea, ec, h1, h2⟩ := hPW.edgAt (q := q) (by rw [← HN.out]; exact hq)
    obtain ⟨ka, kc, h3, h4, _⟩ := hPW.kerAt (q := q) (by rw [← HN.out]; exact hq)
    rw [h1, elF_len] at hs2
    rw [h3] at hs1
    exact ⟨ea, ec, ka, kc, fun Y hY => ⟨⟨hY.cell hs2 (by simp), h2.kept hY⟩, hY.cell hs1 (by simp), h4.kept hY⟩⟩
  have HST := show Hid _ from hst
  have HCE : Hid (∀ Y, W.grownBy Y none → Y.cell? ⟨ab, 0, none⟩ = some (.slice (some ⟨sb, 0, none⟩) N sc) ∧ Y.cell? ⟨ab, 1, none⟩ = some (.int .i64 ask) ∧ Y.cell? ⟨ab, 2, none⟩ = some (.int .i64 (N : Int))) := fun Y hY => by
    have h := box_kept HAW.out hY
    exact ⟨by rw [cell_of_row _ _ _ _ _ _ h]; rfl, by rw [cell_of_row _ _ _ _ _ _ h]; rfl, by rw [cell_of_row _ _ _ _ _ _ h]; rfl⟩
  obtain ⟨y0, y1, y2⟩ := HCE.out W (grown_refl _ _)
  rw [HWE.out, HBE.out] at y0 y1 y2
  clear hg3 hAP HX2 hW hab hgW hPW hst k0 k1 k2 k3 k4 HAW
  go_wp2_with fail
  rw [← HWE.out, ← HBE.out]
  clear y0 y1 y2 HWE HBE
  go_loopg [7, 8] N (fun gk v7 v8 wr => ∃ (i u : Nat), i ≤ N ∧ gk = N - i ∧ v8 = .int .i64 i ∧ v7 = .int .i64 (u : Int) ∧ u = sumE es i ∧ W.grownBy wr none)
  case atStart => exact ⟨0, 0, Nat.zero_le _, rfl, rfl, rfl, rfl, grown_refl _ _⟩
  case round =>
    obtain ⟨i, u, hi, hgi, rfl, rfl, hu, hg⟩ := hrel
    have HGI : Hid (gk = N - i) := hgi
    have HU : Hid (u = sumE es i) := hu
    have HG : Hid (W.grownBy wr none) := hg
    obtain ⟨y0, y1, -⟩ := HCE.out wr hg
    have hub : u ≤ i * 130 := by rw [hu]; exact HSB.out i
    clear hgi hu hg
    by_cases hlt : i < N
    · have hid : decide (i < N) = true := decide_eq_true hlt
      have hi0 : (0 : Int) ≤ (i : Int) := by omega
      have hi1 : (i : Int) < (N : Int) := by omega
      obtain ⟨ea, ec, ka, kc, hs⟩ := HST.out i hlt
      have HS := show Hid _ from hs
      obtain ⟨E, hE⟩ : ∃ E, E = (es.getD i []).length := ⟨_, rfl⟩
      have hEb : E ≤ 130 := by rw [hE]; exact HEL.out i
      have HU1 : Hid (u + E = sumE es (i + 1)) := by show _ = _; unfold sumE; rw [← HU.out, hE]
      obtain ⟨K, hK⟩ : ∃ K, K = (ks.getD i []).length := ⟨_, rfl⟩
      have HKI : Hid (∀ Y, W.grownBy Y none → Y.cell? ⟨sb, i * 2, none⟩ = some (.slice ka K kc) ∧ ItsAt Y ka (ks.getD i [])) := fun Y hY => by rw [hK]; exact (HS.out Y hY).2
      have HKB := show Hid _ from HKL.out i hlt
      have HKE : Hid (K = (ks.getD i []).length) := hK
      have e0 := (HS.out wr HG.out).1.1
      rw [← hE] at e0
      have hwu : IntKind.i64.wrap ((u : Int) + (E : Int)) = (u : Int) + (E : Int) := by rw [IntKind.wrap_i64]; omega
      clear hs hE hK
      generalize wr = W0 at *
      go_wp2_with fail
      clear y0 y1 e0
      go_loopg [9] i (fun gk v9 wr => ∃ j : Nat, j ≤ i ∧ gk = i - j ∧ v9 = .int .i64 j ∧ W.grownBy wr none)
      case atStart => exact ⟨0, Nat.zero_le _, rfl, rfl, HG.out⟩
      case round =>
        obtain ⟨j, hj, hgj, rfl, hg⟩ := hrel
        have HGJ : Hid (gk = i - j) := hgj
        have HGR : Hid (W.grownBy wr none) := hg
        clear hgj hg
        by_cases hjt : j < i
        · have hjd : decide (j < i) = true := decide_eq_true hjt
          have hj0 : (0 : Int) ≤ (j : Int) := by omega
          have hj1 : (j : Int) < (N : Int) := by omega
          obtain ⟨_, _, kb, kd, hs2⟩ := HST.out j (by omega)
          obtain ⟨K2, hK2⟩ : ∃ K, K = (ks.getD j []).length := ⟨_, rfl⟩
          have HKJ : Hid (∀ Y, W.grownBy Y none → Y.cell? ⟨sb, j * 2, none⟩ = some (.slice kb K2 kd) ∧ ItsAt Y kb (ks.getD j [])) := fun Y hY => by rw [hK2]; exact (hs2 Y hY).2
          have HSMC : Hid (∀ Y, W.grownBy Y none → Calls Try.prog 21 #[.slice ka K kc, .slice kb K2 kd] Y fun e y => e = .returned (.bool false) ∧ Y.grownBy y none) := fun Y hY => by
            rw [HKE.out, hK2]
            exact sameItems_any ka kb kc kd _ _ Y (HKI.out Y hY).2 (HKJ.out Y hY).2 (by have := HKB.out; omega) (by have := HKL.out j (by omega); omega) false ⟨(fun h => by cases h), fun h => absurd h (HND.out i j hlt hjt)⟩
          have HKS : Hid (∀ Y, wr.grownBy Y none → Y.cell? ⟨ab, 0, none⟩ = some (.slice (some ⟨sb, 0, none⟩) N sc) ∧ Y.cell? ⟨sb, i * 2, none⟩ = some (.slice ka K kc) ∧ Y.cell? ⟨sb, j * 2, none⟩ = some (.slice kb K2 kd)) := fun Y hY => ⟨(HCE.out Y (grown_trans HGR.out hY)).1, (HKI.out Y (grown_trans HGR.out hY)).1, (HKJ.out Y (grown_trans HGR.out hY)).1⟩
          have HUP : Hid (wr.grownBy wr.drew none) := grown_drewN _ 1
          clear hs2 hK2
          go_wp2_with fail
          go_region_held3 (fun Y => Y.cell? ⟨ab, 0, none⟩ = some (.slice (some ⟨sb, 0, none⟩) N sc) ∧ Y.cell? ⟨sb, i * 2, none⟩ = some (.slice ka K kc) ∧ Y.cell? ⟨sb, j * 2, none⟩ = some (.slice kb K2 kd)) (first | exact HKS.out _ HUP.out | exact HKS.out _ HG4.out | go_keep)
            ((first
              | (go_at_call 21; refine Calls.mono (HSMC.out _ (grown_trans HGR.out HUP.out)) ?_; rintro e w5 ⟨rfl, hg5⟩; have HG4 : Hid (wr.grownBy w5 none) := grown_trans HUP.out hg5; clear hg5)
              | fail))
          go_wp2_with fail
          go_roundg (i - (j + 1))
          case measure => have := HGJ.out; omega
          case rel => exact ⟨j + 1, by omega, rfl, by go_num, grown_trans HGR.out HG4.out⟩
        · have hji : i = j := by omega
          subst hji
          have hjd : decide (i < i) = false := decide_eq_false (by omega)
          go_wp2_with fail
          go_roundg (N - (i + 1))
          case measure => have := HGI.out; omega
          case rel => exact ⟨i + 1, u + E, by omega, rfl, by go_num, by go_num, HU1.out, HGR.out⟩
    · have hiN : N = i := by omega
      subst hiN
      have hid : decide (N < N) = false := decide_eq_false (by omega)
      obtain ⟨k0, k1, k2, k3, k4⟩ := (HXW.out.kept HG.out).cells
      obtain ⟨z0, z1, z2⟩ := HCE.out wr HG.out
      have HRC := show Hid _ from HRE.out wr sb sc (grown_trans HXW.out.grown HG.out) (fun q hq => by
        obtain ⟨ea, ec, ka, kc, h⟩ := HST.out q hq
        exact ⟨ea, ec, ka, kc, fun Y hY => h Y (grown_trans HG.out hY)⟩)
      clear y0 y1
      go_wp2_with fail
      refine Calls.mono HRC.out ?_
      rintro e w5 ⟨ib, rfl, hv5, hg5⟩
      have HG5 : Hid (W.grownBy w5 none) := grown_trans HG.out hg5
      have HV5 : Hid (ValAt w5 ib N 4 (fun _ => .bool true)) := hv5
      clear hv5 hg5 k0 k1 k2 k3 k4 z0 z1 z2
      go_wp2_with fail
      go_loopg [12, 13] N (fun gk v12 v13 wr => ∃ j : Nat, j ≤ N ∧ gk = N - j ∧ v12 = .bool true ∧ v13 = .int .i64 j ∧ wr = w5)
      case atStart => exact ⟨0, Nat.zero_le _, rfl, rfl, rfl, rfl⟩
      case round =>
        obtain ⟨j, hj, hgj, rfl, rfl, hwr⟩ := hrel
        have HGJ : Hid (gk = N - j) := hgj
        clear hgj
        subst hwr
        by_cases hjt : j < N
        · have hjd : decide (j < N) = true := decide_eq_true hjt
          have hj0 : (0 : Int) ≤ (j : Int) := by omega
          have hj1 : (j : Int) < (N : Int) := by omega
          have c0 := HV5.out.cell j hjt
          go_wp2_with fail
          go_roundg (N - (j + 1))
          case measure => have := HGJ.out; omega
          case rel => exact ⟨j + 1, by omega, rfl, rfl, by go_num, rfl⟩
        · have hjN : N = j := by omega
          subst hjN
          have hjd : decide (N < N) = false := decide_eq_false (by omega)
          obtain ⟨_, _, ka, kc, hs0⟩ := HST.out 0 (by omega)
          have HK0 : Hid (∀ Y, W.grownBy Y none → Y.cell? ⟨sb, 0, none⟩ = some (.slice ka 1 kc) ∧ ItsAt Y ka [(0, 0)]) := fun Y hY => by
            have h := (hs0 Y hY).2
            rw [HHD.out] at h
            exact h
          obtain ⟨T, hT⟩ : ∃ T, T = wr.alloc (.cells #[.int .i64 0, .int .i64 0] 49) := ⟨_, rfl⟩
          have HTE := show Hid _ from hT
          have hgT : wr.grownBy T none := by rw [hT]; exact World.grownBy_alloc _ _ none
          have HGT : Hid (W.grownBy T none) := grown_trans HG5.out hgT
          have HI2 : Hid (ItsAt T (some ⟨wr.heap.size, 0, none⟩) [(0, 0)]) := by
            refine .inr ⟨wr.heap.size, 0, rfl, fun i hi => ?_⟩
            have hi0 : i = 0 := by simpa using hi
            subst hi0
            have h := heap_alloc_last wr (.cells #[.int .i64 0, .int .i64 0] 49)
            rw [hT]
            exact ⟨by rw [cell_of_row _ _ _ _ _ _ h]; rfl, by rw [cell_of_row _ _ _ _ _ _ h]; rfl⟩
          have HSM0 : Hid (Calls Try.prog 21 #[.slice ka 1 kc, .slice (some ⟨wr.heap.size, 0, none⟩) 1 1] T fun e y => e = .returned (.bool true) ∧ T.grownBy y none) := sameItems_any ka (some ⟨wr.heap.size, 0, none⟩) kc 1 [(0, 0)] [(0, 0)] T (HK0.out T HGT.out).2 HI2.out (by simp) (by simp) true ⟨fun _ => rfl, fun _ => rfl⟩
          obtain ⟨y0, -, -⟩ := HCE.out wr HG5.out
          have y3 := (HK0.out wr HG5.out).1
          clear hs0 hT hgT
          go_wp2_with fail
          rw [← HTE.out]
          refine Calls.mono HSM0.out ?_
          rintro e w6 ⟨rfl, hg6⟩
          have HG6 : Hid (W.grownBy w6 none) := grown_trans HGT.out hg6
          clear hg6 y0 y3
          obtain ⟨-, y1, -⟩ := HCE.out w6 HG6.out
          have hae : (ask == (u : Int) + 1) = true := beq_iff_eq.2 (by rw [HASK.out, HU.out])
          have hwu : IntKind.i64.wrap ((u : Int) + 1) = (u : Int) + 1 := by rw [IntKind.wrap_i64]; omega
          go_wp2_with fail
          go_ret
          exact ⟨rfl, grown_trans HXW.out.grown HG6.out⟩
end

theorem calls_exI {P : Program} {f : FuncId} {args : Array Value} {w : World} {R : Ending → World → Prop} (h : Calls P f args w R) : ∃ e y, R e y := by
  obtain ⟨e, y, _, h1, _⟩ := h []
  exact ⟨e, y, h1⟩

theorem interns_core (ta na la pa : Option Addr) (tc nc lc pc : Nat) (ts : List (ByteArray × Int)) (ns : List ByteArray) (lv : List Int) (n : Nat) (L : Nat → Int) (R : Nat → List Int) (ra : Nat → Option Addr) (rc : Nat → Nat) (V : Nat → Int) (st : Int) (w : World) (tn nn ln : Nat) (hlen : ts.length = tn ∧ ns.length = nn ∧ lv.length = ln) (hG : GAt w ta na la pa tc nc lc pc ts ns lv n L R ra rc V) (hts : ∀ t ∈ ts, t.1.size ≤ 140737488355328) (hns : ∀ s ∈ ns, s.size ≤ 140737488355328) : Calls Try.prog 5 #[.agg #[.slice ta tn tc, .slice na nn nc, .slice la ln lc, .int .i64 st, .slice pa n pc]] w fun e w' => e = .returned (.bool true) ∧ w.grownBy w' none := by
  have hCL : ∀ b : Bool, (b = true ↔ closedOK ts ns lv st n L R V) → ∀ X, w.grownBy X none → Calls Try.prog 22 #[.agg #[.slice ta tn tc, .slice na nn nc, .slice la ln lc, .int .i64 st, .slice pa n pc]] X fun e w' => e = .returned (.bool b) ∧ X.grownBy w' none := fun b hb X hX => by
    have := rclosed_any ta na la pa tc nc lc pc st ts ns lv n L R ra rc V X (hG.kept hX) hts hns b hb
    rwa [hlen.1, hlen.2.1, hlen.2.2] at this
  by_cases hc : closedOK ts ns lv st n L R V
  · have hM : MayOK tn nn n st L R true := by obtain ⟨rfl, rfl, rfl⟩ := hlen; exact mayOK_closed hc
    cases hau : autoF (GG tn n L R) (tn + nn) 256 with
    | none => exact interns_bad ta na la pa tc nc lc pc n st w tn nn ln true 11 (.inr ⟨rfl, rfl⟩) (hCL true ⟨fun _ => hc, fun _ => rfl⟩) (build_none ta na la pa tc nc lc pc ts ns lv n L R ra rc V st w tn nn ln hlen hG hc hau)
    | some p =>
      obtain ⟨ks, es⟩ := p
      have hA := autF hM.p0 hau
      have hR0 : ∀ k, k < n → ∀ x ∈ R k, (0 : Int) < x := fun k hk x hx => (hM.right k hk x hx).1
      have hRS : ∀ k, k < n → ∀ x ∈ R k, (0 : Int) ≤ x ∧ x < ((tn + nn : Nat) : Int) := fun k hk x hx => ⟨by have := hM.right k hk x hx; omega, (hM.right k hk x hx).2⟩
      obtain ⟨bp, op, rfl, hps⟩ : ∃ bp op, pa = some ⟨bp, op, none⟩ ∧ ∀ k, k < n → w.cell? ⟨bp, op + k * 3 + 1, none⟩ = some (.slice (ra k) (R k).length (rc k)) ∧ IntsAt w (ra k) (R k) ∧ (R k).length ≤ 17592186044416 := by
        rcases hG.prods with h | ⟨bp, op, e, h⟩
        · have := hM.p0; omega
        · exact ⟨bp, op, e, fun k hk => ⟨(h k hk).2.1, (h k hk).2.2.2.1, (h k hk).2.2.2.2.2⟩⟩
      have hEl : ∀ q, (es.getD q []).length ≤ 130 := fun q => by
        by_cases hq : q < ks.length
        · rw [hA.elen hq]
          have h1 := symsT_len (GG tn n L R (ks.getD q [])) (tn + nn)
          have := hM.tmax
          have := hM.nmax
          omega
        · rw [List.getD_eq_getElem?_getD, List.getElem?_eq_none (by rw [hA.len]; omega)]; simp
      have hkl : ∀ q, q < ks.length → (ks.getD q []).length ≤ 10000000 := fun q hq => by
        have := (hA.kok.each q hq).len (by have := hA.kok.le; omega)
        omega
      have hnew := auto_newJ 256 hau
      -- the closure of the first kernel is there, so Start has an edge
      have hst1 : GG tn n L R [(0, 0)] st.toNat ≠ [] := by
        have hI : ItsAt (w.alloc (.cells #[.int .i64 0, .int .i64 0] 49)) (some ⟨w.heap.size, 0, none⟩) [(0, 0)] := by
          refine .inr ⟨w.heap.size, 0, rfl, fun i hi => ?_⟩
          have hi0 : i = 0 := by simpa using hi
          subst hi0
          have h := heap_alloc_last w (.cells #[.int .i64 0, .int .i64 0] 49)
          exact ⟨by rw [cell_of_row _ _ _ _ _ _ h]; rfl, by rw [cell_of_row _ _ _ _ _ _ h]; rfl⟩
        have h0 : ∀ x ∈ [((0 : Int), (0 : Int))], itB n R x = true := by
          have := (hA.kok.each 0 hA.pos).1
          rw [hA.head] at this
          exact this
        obtain ⟨_, _, l, h1, h2, _⟩ := calls_exI (rclos_any ta na la (some ⟨bp, op, none⟩) tc nc lc pc n L R ra rc V st (w.alloc (.cells #[.int .i64 0, .int .i64 0] 49)) tn nn ln (prods_kept hG.prods (World.grownBy_alloc _ _ none)) hM.pmax hM.p0 hM.tmax hM.nmax hRS (some ⟨w.heap.size, 0, none⟩) 1 [(0, 0)] hI (by simp) h0)
        rw [GG_eq h1 h2]
        have hm : ((0 : Int), (0 : Int)) ∈ l := (h1.mem _).2 (Clo.base (by simp))
        have hr := (hM.added rfl).2
        have ha : aheadV R (0, 0) = (st.toNat : Int) := by
          have h3 := hM.start
          unfold aheadV
          simp only [Int.toNat_zero]
          rw [hr]
          simp
          omega
        intro he
        have hx : ((0 : Int), (0 : Int) + 1) ∈ kerT R l (st.toNat : Int) := by
          unfold kerT
          exact List.mem_map.2 ⟨(0, 0), List.mem_filter.2 ⟨hm, by simpa using ha⟩, rfl⟩
        have he' : kerT R l (st.toNat : Int) = [] := he
        rw [he'] at hx
        cases hx
      have hN2 : 2 ≤ ks.length := by
        have h3 := hM.start
        have hlt : st.toNat < tn + nn := by omega
        obtain ⟨h5, t, h6, h7, _⟩ := hA.edge (q := 0) (s := st.toNat) hA.pos hlt (by rw [hA.head]; exact hst1)
        have hm : (st.toNat, t) ∈ es.getD 0 [] := by
          rw [← h6]
          generalize es.getD 0 [] = l at h5 ⊢
          rw [List.getD_eq_getElem?_getD, List.getElem?_eq_getElem h5]; exact List.getElem_mem h5
        have := (edge_ker hA hR0 hA.pos hm).2.2.1
        omega
      refine interns_ok ta na la tc nc lc pc n st w tn nn ln bp op ks es ks.length (askN es : Int) rfl hN2 hA.kok.le hA.kok.nodup hA.head hkl hEl (by rw [askN_sum, hA.len]; omega) (hCL true ⟨fun _ => hc, fun _ => rfl⟩) (build_some ta na la (some ⟨bp, op, none⟩) tc nc lc pc ts ns lv n L R ra rc V st w tn nn ln hlen hG hc hau) (fun X sb sc hX hst => ?_)
      refine reachedJ_any ta na la tc nc lc pc n R ra rc st X tn nn ln bp op sb sc ks.length (askN es : Int) (ks.length : Int) hM.tmax hM.nmax (fun k hk Y hY => ⟨(grown_trans hX hY).cell (hps k hk).1 (by simp), (hps k hk).2.1.kept (grown_trans hX hY)⟩) (fun k hk => (hps k hk).2.2) ks es hA.kok.le hA.pos (fun q => syT R (ks.getD q [])) hst hEl hkl (fun q hq s t hx => ?_) (fun q hq0 hq => ?_) hnew
      · obtain ⟨h1, h2, h3, h4, _⟩ := edge_ker hA hR0 hq hx
        exact ⟨h1, h2, h3, h4, edge_sy hA hR0 hq hx⟩
      · obtain ⟨p, hp, x, hx, hx2⟩ := hnew q hq0 hq
        obtain ⟨s, t⟩ := x
        simp only at hx2
        subst hx2
        have h1 := (edge_ker hA hR0 (Nat.lt_trans hp hq) hx).2.2.2.2.2
        rw [edge_sy hA hR0 (Nat.lt_trans hp hq) hx]
        exact h1
  · exact interns_bad ta na la pa tc nc lc pc n st w tn nn ln false 1 (.inl ⟨rfl, rfl⟩) (hCL false ⟨(fun h => by cases h), fun h => absurd h hc⟩) (fun X hX => buildBad ta na la pa tc nc lc pc ts ns lv n L R ra rc V st X tn nn ln hlen (hG.kept hX) hc)

end Go.Proofs.Ytdijjlhodlghbaa.J
