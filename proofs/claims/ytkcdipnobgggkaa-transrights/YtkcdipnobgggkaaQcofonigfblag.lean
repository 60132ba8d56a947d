/-
  trans: the law TransRights, walked.
-/
import Derived.Test.YtkcdipnobgggkaaQkbkkiddhdfcb
import Derived.Deep.RegionHeld3
namespace Go.Proofs.Ytkcdipnobgggkaa.J
open Go.RowKit Go.Maps Go.Shelf

attribute [local go_sem] Oper.semAt_some

theorem getD_memI {l : List It} {j : Nat} (h : j < l.length) : l.getD j (0, 0) ∈ l := by
  rw [List.getD_eq_getElem?_getD, List.getElem?_eq_getElem h]; exact List.getElem_mem h
theorem mem_take_succ {l : List It} {j : Nat} (h : j < l.length) (x : It) : x ∈ l.take (j + 1) ↔ x ∈ l.take j ∨ l.getD j (0, 0) = x := by
  rw [take_at h, List.mem_append, List.mem_singleton]
  exact ⟨fun h1 => h1.elim .inl fun h2 => .inr h2.symm, fun h1 => h1.elim .inl fun h2 => .inr h2.symm⟩

section
variable (ta na la pa : Option Addr) (tc nc lc pc : Nat) (n : Nat) (L : Nat → Int) (R : Nat → List Int) (ra : Nat → Option Addr) (rc : Nat → Nat) (V : Nat → Int) (st : Int) (w : World) (tn nn ln : Nat) (z : Int)

set_option maxRecDepth 100000 in
set_option maxHeartbeats 4000000 in
theorem rights_bad (ec : Int) (hec : ec = 1 ∨ ec = 11) (hO : OfBad ta na la pa tc nc lc pc n st w tn nn ln ec)
    (hBU : ∀ X, w.grownBy X none → Calls Try.prog 13 #[.agg #[.slice ta tn tc, .slice na nn nc, .slice la ln lc, .int .i64 st, .slice pa n pc]] X fun e y => e = .returned (.tuple #[.agg #[.slice none 0 0, .int .i64 0, .int .i64 0], .int .i64 ec]) ∧ X.grownBy y none) :
    Calls Try.prog 5 #[.agg #[.slice ta tn tc, .slice na nn nc, .slice la ln lc, .int .i64 st, .slice pa n pc], .int .i64 z] w fun e w' => e = .returned (.bool true) ∧ w.grownBy w' none := by
  have HBU := show Hid _ from hBU
  have HLI : Hid (∀ X, w.grownBy X none → Calls Try.prog 14 #[.agg #[.slice ta tn tc, .slice na nn nc, .slice la ln lc, .int .i64 st, .slice pa n pc]] X fun e y => e = .returned (.tuple #[.slice none 0 0, .int .i64 ec]) ∧ X.grownBy y none) := fun X hX => listX_bad ta na la pa tc nc lc pc n st X tn nn ln ec hec (fun Y hY => hO Y (grown_trans hX hY))
  have HX0 : Hid (PhAt w (w.alloc (.cells #[.slice ta tn tc, .slice na nn nc, .slice la ln lc, .int .i64 st, .slice pa n pc] 27)) w.heap.size #[.slice ta tn tc, .slice na nn nc, .slice la ln lc, .int .i64 st, .slice pa n pc]) := ⟨World.grownBy_alloc _ _ none, heap_alloc_last w _⟩
  have hne : (ec != 0) = true := bne_iff_ne.2 (by omega)
  have hee : (ec == ec) = true := beq_self_eq_true _
  clear hBU hO hec
  go_enter Try.func5, Try.ntmps5
  go_wp2_with fail
  refine Calls.mono (awake_any _) ?_
  rintro e w1 ⟨rfl, hg1⟩
  have HX1 : Hid (PhAt w w1 w.heap.size #[.slice ta tn tc, .slice na nn nc, .slice la ln lc, .int .i64 st, .slice pa n pc]) := HX0.out.kept hg1
  clear hg1 HX0
  obtain ⟨k0, k1, k2, k3, k4⟩ := HX1.out.cells
  go_wp2_with fail
  refine Calls.mono (HBU.out _ HX1.out.grown) ?_
  rintro e w2 ⟨rfl, hg2⟩
  have HX2 : Hid (PhAt w (w2.alloc (.cells #[.slice none 0 0, .int .i64 0, .int .i64 0] 42)) w.heap.size #[.slice ta tn tc, .slice na nn nc, .slice la ln lc, .int .i64 st, .slice pa n pc]) := HX1.out.kept (grown_trans hg2 (World.grownBy_alloc _ _ none))
  clear hg2 HX1 k0 k1 k2 k3 k4
  obtain ⟨k0, k1, k2, k3, k4⟩ := HX2.out.cells
  go_wp2_with fail
  refine Calls.mono (HLI.out _ HX2.out.grown) ?_
  rintro e w3 ⟨rfl, hg3⟩
  have HG3 : Hid (w.grownBy w3 none) := grown_trans HX2.out.grown hg3
  clear hg3 HX2 k0 k1 k2 k3 k4
  go_wp2_with fail
  go_ret
  exact ⟨rfl, HG3.out⟩

set_option maxRecDepth 100000 in
set_option maxHeartbeats 8000000 in
theorem rights_pos (N ask qn zn : Nat) (hz : z = (zn : Int)) (hzb : zn ≤ 9223372036854775807) (ks : List (List It)) (el : Nat → List It) (CL : Nat → List It) (hN : N = ks.length) (hqn : qn < N) (hqz : qn = zn % N) (hPr : ProdsAt w pa n L R ra rc V)
    (hCLb : ∀ q, q < N → (CL q).length ≤ 3354001) (hit : ∀ x ∈ CL qn, itB n R x = true)
    (hBU : ∀ X, w.grownBy X none → Calls Try.prog 13 #[.agg #[.slice ta tn tc, .slice na nn nc, .slice la ln lc, .int .i64 st, .slice pa n pc]] X fun e y => ∃ sa sc kv ev, e = .returned (.tuple #[.agg #[.slice sa N sc, .int .i64 (ask : Int), .int .i64 (N : Int)], .int .i64 0]) ∧ AutP X.heap.size y (.slice sa ks.length sc) ks el kv ev ∧ X.grownBy y none)
    (hCL : ∀ X a' c' q, w.grownBy X none → q < N → ItsAt X a' (ks.getD q []) → (a' = none → (ks.getD q []).length = 0 ∧ c' = 0) → Calls Try.prog 15 #[.agg #[.slice ta tn tc, .slice na nn nc, .slice la ln lc, .int .i64 st, .slice pa n pc], .slice a' (ks.getD q []).length c'] X fun e y => ItsErr (CL q) 0 X e y)
    (hWR : ∀ P, P < n → ((P : Int), (0 : Int)) ∈ CL qn → ∃ t : Nat, t < N ∧ ((P : Int), ((R P).length : Int)) ∈ CL t ∧ ∀ X, w.grownBy X none → Calls Try.prog 10 #[.agg #[.slice ta tn tc, .slice na nn nc, .slice la ln lc, .int .i64 st, .slice pa n pc], .int .i64 (qn : Int), .slice (ra P) (R P).length (rc P)] X fun e y => e = .returned (.tuple #[.int .i64 (t : Int), .int .i64 0]) ∧ X.grownBy y none)
    (hWL : ∀ P, P < n → ((P : Int), (0 : Int)) ∈ CL qn → ∃ v : Int, (decide (v < 0) = ((P : Int) == 0)) ∧ ∀ X b, w.grownBy X none → IntsAt X (some ⟨b, 0, none⟩) [L P] → Calls Try.prog 10 #[.agg #[.slice ta tn tc, .slice na nn nc, .slice la ln lc, .int .i64 st, .slice pa n pc], .int .i64 (qn : Int), .slice (some ⟨b, 0, none⟩) 1 1] X fun e y => e = .returned (.tuple #[.int .i64 v, .int .i64 0]) ∧ X.grownBy y none) :
    Calls Try.prog 5 #[.agg #[.slice ta tn tc, .slice na nn nc, .slice la ln lc, .int .i64 st, .slice pa n pc], .int .i64 z] w fun e w' => e = .returned (.bool true) ∧ w.grownBy w' none := by
  have HBU := show Hid _ from hBU
  have HCL := show Hid _ from hCL
  have HWR := show Hid _ from hWR
  have HWL := show Hid _ from hWL
  have HIT := show Hid _ from hit
  have HCB := show Hid _ from hCLb
  have HPR : Hid (∀ Y, w.grownBy Y none → ProdsAt Y pa n L R ra rc V) := fun Y hY => prods_kept hPr hY
  have HN : Hid (N = ks.length) := hN
  have HX0 : Hid (PhAt w (w.alloc (.cells #[.slice ta tn tc, .slice na nn nc, .slice la ln lc, .int .i64 st, .slice pa n pc] 27)) w.heap.size #[.slice ta tn tc, .slice na nn nc, .slice la ln lc, .int .i64 st, .slice pa n pc]) := ⟨World.grownBy_alloc _ _ none, heap_alloc_last w _⟩
  have hm : (zn : Int).tmod (N : Int) = (qn : Int) := by rw [hqz]; rfl
  have hN0 : ((N : Int) == 0) = false := beq_eq_false_iff_ne.2 (by omega)
  have hN1 : (N == 0) = false := beq_eq_false_iff_ne.2 (by omega)
  have hN2 : ¬ (N : Int) = 0 := by omega
  have hN3 : ¬ N = 0 := by omega
  have hq0 : (0 : Int) ≤ (qn : Int) := by omega
  have hq1 : (qn : Int) < (N : Int) := by omega
  have hgu := guard_item
  have hzd : decide (z < 0) = false := decide_eq_false (by omega)
  subst hz
  clear hBU hCL hWR hWL hit hCLb hPr hN hqz
  go_enter Try.func5, Try.ntmps5
  go_wp2_with fail
  refine Calls.mono (awake_any _) ?_
  rintro e w1 ⟨rfl, hg1⟩
  have HX1 : Hid (PhAt w w1 w.heap.size #[.slice ta tn tc, .slice na nn nc, .slice la ln lc, .int .i64 st, .slice pa n pc]) := HX0.out.kept hg1
  clear hg1 HX0
  obtain ⟨k0, k1, k2, k3, k4⟩ := HX1.out.cells
  go_wp2_with fail
  refine Calls.mono (HBU.out _ HX1.out.grown) ?_
  rintro e w2 ⟨sa, sc, kv, ev, rfl, hAP, hg2⟩
  obtain ⟨ab, hab⟩ : ∃ b, b = w2.heap.size := ⟨_, rfl⟩
  obtain ⟨W, hW⟩ : ∃ W, W = w2.alloc (.cells #[.slice sa N sc, .int .i64 (ask : Int), .int .i64 (N : Int)] 42) := ⟨_, rfl⟩
  have hgW : w2.grownBy W none := by rw [hW]; exact World.grownBy_alloc _ _ none
  have HXW : Hid (PhAt w W w.heap.size #[.slice ta tn tc, .slice na nn nc, .slice la ln lc, .int .i64 st, .slice pa n pc]) := HX1.out.kept (grown_trans hg2 hgW)
  have HAW : Hid (W.heap[ab]? = some (.cells #[.slice sa N sc, .int .i64 (ask : Int), .int .i64 (N : Int)] 42 (0, 0))) := by rw [hW, hab]; exact heap_alloc_last w2 _
  have HWE := show Hid _ from hW
  have HBE := show Hid _ from hab
  have hPW := hAP.kept hgW
  obtain ⟨sb, sc', hsv, -, -⟩ := hPW.st (q := qn) (by rw [← HN.out]; exact hqn)
  simp only [Value.slice.injEq] at hsv
  obtain ⟨rfl, _, rfl⟩ := hsv
  have HST : Hid (∀ q, q < N → ∃ ka kc, ∀ Y, W.grownBy Y none → Y.cell? ⟨sb, q * 2, none⟩ = some (.slice ka (ks.getD q []).length kc) ∧ ItsAt Y ka (ks.getD q []) ∧ (ka = none → (ks.getD q []).length = 0 ∧ kc = 0)) := fun q hq => by
    obtain ⟨sb2, sc2, hsv2, hs2, _⟩ := hPW.st (q := q) (by rw [← HN.out]; exact hq)
    simp only [Value.slice.injEq, Option.some.injEq, Addr.mk.injEq] at hsv2
    obtain ⟨⟨rfl, _⟩, _⟩ := hsv2
    obtain ⟨ka, kc, h1, h2, h3⟩ := hPW.kerAt (q := q) (by rw [← HN.out]; exact hq)
    rw [h1] at hs2
    exact ⟨ka, kc, fun Y hY => ⟨hY.cell hs2 (by simp), h2.kept hY, h3⟩⟩
  have HCE : Hid (∀ Y, W.grownBy Y none → (Y.cell? ⟨w.heap.size, 0, none⟩ = some (.slice ta tn tc) ∧ Y.cell? ⟨w.heap.size, 1, none⟩ = some (.slice na nn nc) ∧ Y.cell? ⟨w.heap.size, 2, none⟩ = some (.slice la ln lc) ∧ Y.cell? ⟨w.heap.size, 3, none⟩ = some (.int .i64 st) ∧ Y.cell? ⟨w.heap.size, 4, none⟩ = some (.slice pa n pc)) ∧ Y.cell? ⟨ab, 0, none⟩ = some (.slice (some ⟨sb, 0, none⟩) N sc)) := fun Y hY => ⟨(HXW.out.kept hY).cells, by rw [cell_of_row _ _ _ _ _ _ (box_kept HAW.out hY)]; rfl⟩
  clear hg2 hAP HX1 k0 k1 k2 k3 k4 hW hab hgW hPW
  obtain ⟨_, y0⟩ := HCE.out W (grown_refl _ _)
  rw [HWE.out, HBE.out] at y0
  go_wp2_with fail
  rw [← HWE.out, ← HBE.out]
  clear HWE HBE y0
  obtain ⟨ka, kc, hk⟩ := HST.out qn hqn
  have HK := show Hid _ from hk
  obtain ⟨kl, hkl⟩ : ∃ k, k = (ks.getD qn []).length := ⟨_, rfl⟩
  have HCC := show Hid _ from fun (Y : World) (hY : W.grownBy Y none) => HCL.out Y ka kc qn (grown_trans HXW.out.grown hY) hqn (HK.out Y hY).2.1 (HK.out Y hY).2.2
  rw [← hkl] at HCC HK
  have HKS : Hid (∀ Y, W.grownBy Y none → ((Y.cell? ⟨w.heap.size, 0, none⟩ = some (.slice ta tn tc) ∧ Y.cell? ⟨w.heap.size, 1, none⟩ = some (.slice na nn nc) ∧ Y.cell? ⟨w.heap.size, 2, none⟩ = some (.slice la ln lc) ∧ Y.cell? ⟨w.heap.size, 3, none⟩ = some (.int .i64 st) ∧ Y.cell? ⟨w.heap.size, 4, none⟩ = some (.slice pa n pc)) ∧ Y.cell? ⟨ab, 0, none⟩ = some (.slice (some ⟨sb, 0, none⟩) N sc)) ∧ Y.cell? ⟨sb, qn * 2, none⟩ = some (.slice ka kl kc)) := fun Y hY => ⟨HCE.out Y hY, (HK.out Y hY).1⟩
  have HUP : Hid (W.grownBy W.drew none) := grown_drewN _ 1
  clear hk hkl
  go_region_held3 (fun Y => ((Y.cell? ⟨w.heap.size, 0, none⟩ = some (.slice ta tn tc) ∧ Y.cell? ⟨w.heap.size, 1, none⟩ = some (.slice na nn nc) ∧ Y.cell? ⟨w.heap.size, 2, none⟩ = some (.slice la ln lc) ∧ Y.cell? ⟨w.heap.size, 3, none⟩ = some (.int .i64 st) ∧ Y.cell? ⟨w.heap.size, 4, none⟩ = some (.slice pa n pc)) ∧ Y.cell? ⟨ab, 0, none⟩ = some (.slice (some ⟨sb, 0, none⟩) N sc)) ∧ Y.cell? ⟨sb, qn * 2, none⟩ = some (.slice ka kl kc)) (first | exact HKS.out _ HUP.out | exact HKS.out _ HG3.out | go_keep)
    ((first
      | (go_at_call 15; refine Calls.mono (HCC.out _ HUP.out) ?_; rintro e w3 ⟨a3, c3, rfl, ho3, hg3⟩; have HG3 : Hid (W.grownBy w3 none) := grown_trans HUP.out hg3; have HI3 : Hid (∀ Y, w3.grownBy Y none → ItsAt Y a3 (CL qn)) := fun Y hY => (ItsAt.of ho3).kept hY; clear hg3 ho3)
      | fail))
  obtain ⟨l, hl⟩ : ∃ l, l = CL qn := ⟨_, rfl⟩
  have HL : Hid (l = CL qn) := hl
  rw [← hl] at HI3 HIT HWR HWL ⊢
  obtain ⟨M, hM⟩ : ∃ m, m = l.length := ⟨_, rfl⟩
  have HM : Hid (M = l.length) := hM
  have hMb : M ≤ 3354001 := by rw [hM, hl]; exact HCB.out qn hqn
  rw [← hM]
  clear hl hM HKS HUP HCC HK
  go_wp2_with fail
  go_loopg [13] M (fun gk v13 wr => ∃ i : Nat, i ≤ M ∧ gk = M - i ∧ v13 = .int .i64 i ∧ w3.grownBy wr none)
  case atStart => exact ⟨0, Nat.zero_le _, rfl, rfl, grown_refl _ _⟩
  case round =>
    obtain ⟨i, hi, hgi, rfl, hg⟩ := hrel
    have HGI : Hid (gk = M - i) := hgi
    have HGZ : Hid (w3.grownBy wr none) := hg
    clear hgi hg
    generalize wr = Z at *
    by_cases hlt : i < M
    · have hid : decide (i < M) = true := decide_eq_true hlt
      have hi0 : (0 : Int) ≤ (i : Int) := by omega
      have hi1 : (i : Int) < (M : Int) := by omega
      have hil : i < l.length := by rw [← HM.out]; exact hlt
      have hmem := getD_memI hil
      have hitx := HIT.out _ hmem
      obtain ⟨lb, lo, hla, c0, c1⟩ := (HI3.out Z HGZ.out).cellAt hil
      subst hla
      have HLC : Hid (∀ Y, w3.grownBy Y none → Y.cell? ⟨lb, lo + i * 2, none⟩ = some (.int .i64 (l.getD i (0, 0)).1) ∧ Y.cell? ⟨lb, lo + i * 2 + 1, none⟩ = some (.int .i64 (l.getD i (0, 0)).2)) := fun Y hY => by
        obtain ⟨b3, o3, h1, h2, h3⟩ := (HI3.out Y hY).cellAt hil
        simp only [Option.some.injEq, Addr.mk.injEq, and_true] at h1
        obtain ⟨rfl, rfl⟩ := h1
        exact ⟨h2, h3⟩
      obtain ⟨x, hx⟩ : ∃ x, x = l.getD i (0, 0) := ⟨_, rfl⟩
      rw [← hx] at c0 c1 hmem hitx HLC
      obtain ⟨xp, xd⟩ := x
      unfold itB at hitx
      simp only [Bool.and_eq_true, decide_eq_true_eq] at hitx
      obtain ⟨⟨⟨b1, b2⟩, b3⟩, b4⟩ := hitx
      simp only at c0 c1 HLC b1 b2 b3
      obtain ⟨P, rfl⟩ : ∃ P : Nat, xp = (P : Int) := ⟨xp.toNat, by omega⟩
      obtain ⟨d, rfl⟩ : ∃ d : Nat, xd = (d : Int) := ⟨xd.toNat, by omega⟩
      have hPn : P < n := by omega
      obtain ⟨⟨k0, k1, k2, k3, k4⟩, y0⟩ := HCE.out Z (grown_trans HG3.out HGZ.out)
      by_cases hd0 : d = 0
      · subst hd0
        have e1 : decide ((0 : Int) < ((0 : Nat) : Int)) = false := rfl
        have e2 : decide ((P : Int) < 0) = false := decide_eq_false (by omega)
        have e3 : decide (n ≤ P) = false := decide_eq_false (by omega)
        have e4 : decide ((n : Int) ≤ (P : Int)) = false := decide_eq_false (by omega)
        have hP0 : (0 : Int) ≤ (P : Int) := by omega
        have hP1 : (P : Int) < (n : Int) := by omega
        have c1' : Z.cell? ⟨lb, lo + i * 2 + 1, none⟩ = some (.int .i64 0) := c1
        obtain ⟨t, htN, htm, hWRt⟩ := HWR.out P hPn hmem
        obtain ⟨v, hvP, hWLv⟩ := HWL.out P hPn hmem
        have HTM : Hid (((P : Int), ((R P).length : Int)) ∈ CL t) := htm
        have HWT := show Hid _ from hWRt
        have HWV := show Hid _ from hWLv
        obtain ⟨bp, op, hpa, p0, p1, p2⟩ : ∃ bp op, pa = some ⟨bp, op, none⟩ ∧ Z.cell? ⟨bp, op + P * 3, none⟩ = some (.int .i64 (L P)) ∧ Z.cell? ⟨bp, op + P * 3 + 1, none⟩ = some (.slice (ra P) (R P).length (rc P)) ∧ Z.cell? ⟨bp, op + P * 3 + 2, none⟩ = some (.int .i64 (V P)) := by
          rcases HPR.out Z (grown_trans HXW.out.grown (grown_trans HG3.out HGZ.out)) with h | ⟨bp, op, e, h⟩
          · omega
          · exact ⟨bp, op, e, (h P hPn).1, (h P hPn).2.1, (h P hPn).2.2.1⟩
        subst hpa
        clear htm hWRt hWLv c1 b1 b2 b3 b4 hx hmem hil
        go_wp2_with fail
        go_quiet (fail)
        obtain ⟨Z1, hZ1⟩ : ∃ X, X = Z.drewN nq := ⟨_, rfl⟩
        rw [← hZ1]
        have HZ1 : Hid (Z.grownBy Z1 none) := by show Z.grownBy Z1 none; rw [hZ1]; exact grown_drewN _ _
        have q0 := HZ1.out.cell p0 (by simp)
        have q1 := HZ1.out.cell p1 (by simp)
        have q2 := HZ1.out.cell p2 (by simp)
        have q3 := HZ1.out.cell c0 (by simp)
        have q4 := HZ1.out.cell k4 (by simp)
        have q0' := fun o => (World.grownBy_alloc Z1 o none).cell q0 (by simp)
        have q1' := fun o => (World.grownBy_alloc Z1 o none).cell q1 (by simp)
        have q2' := fun o => (World.grownBy_alloc Z1 o none).cell q2 (by simp)
        have q3' := fun o => (World.grownBy_alloc Z1 o none).cell q3 (by simp)
        have q4' := fun o => (World.grownBy_alloc Z1 o none).cell q4 (by simp)
        clear hZ1 p0 p1 p2 c0 c1' k0 k1 k2 k3 k4 y0
        go_wp2_with fail
        go_region
        obtain ⟨Z2, hZ2⟩ : ∃ X, X = (Z1.alloc (.cells #[.int .i64 (L P), .slice (ra P) (R P).length (rc P), .int .i64 (V P)] 57)).drew := ⟨_, rfl⟩
        obtain ⟨pb, hpb⟩ : ∃ b, b = Z1.heap.size := ⟨_, rfl⟩
        have HG2 : Hid (w3.grownBy Z2 none) := by show w3.grownBy Z2 none; rw [hZ2]; exact grown_trans HGZ.out (grown_trans HZ1.out (grown_trans (World.grownBy_alloc _ _ none) (grown_drewN _ 1)))
        have HPB : Hid (Z2.heap[pb]? = some (.cells #[.int .i64 (L P), .slice (ra P) (R P).length (rc P), .int .i64 (V P)] 57 (0, 0))) := by rw [hZ2, hpb]; exact heap_alloc_last Z1 _
        rw [← hZ2, ← hpb]
        obtain ⟨rl, hrl⟩ : ∃ r, r = (R P).length := ⟨_, rfl⟩
        have hrlb : rl ≤ 17592186044416 := by rw [hrl]; exact gright (HPR.out w (grown_refl _ _)) P hPn
        rw [← hrl] at HPB HWT HTM
        rw [← hrl]
        have HPC : Hid (∀ Y, Z2.grownBy Y none → Y.cell? ⟨pb, 0, none⟩ = some (.int .i64 (L P)) ∧ Y.cell? ⟨pb, 1, none⟩ = some (.slice (ra P) rl (rc P))) := fun Y hY => ⟨by rw [cell_of_row _ _ _ _ _ _ (box_kept HPB.out hY)]; rfl, by rw [cell_of_row _ _ _ _ _ _ (box_kept HPB.out hY)]; rfl⟩
        clear hZ2 hpb hrl q0 q1 q2 q3 q4 q0' q1' q2' q3' q4'
        obtain ⟨⟨k0, k1, k2, k3, k4⟩, y0⟩ := HCE.out Z2 (grown_trans HG3.out HG2.out)
        obtain ⟨r0, r1⟩ := HPC.out Z2 (grown_refl _ _)
        have HWTC := show Hid _ from HWT.out Z2 (grown_trans HXW.out.grown (grown_trans HG3.out HG2.out))
        go_wp2_with fail
        refine Calls.mono HWTC.out ?_
        rintro e w5 ⟨rfl, hg5⟩
        have HG5 : Hid (Z2.grownBy w5 none) := hg5
        have HGW5 : Hid (W.grownBy w5 none) := grown_trans HG3.out (grown_trans HG2.out hg5)
        clear hg5 HWTC k0 k1 k2 k3 k4 y0 r0 r1
        have g1 : decide ((t : Int) < 0) = false := decide_eq_false (by omega)
        have g2 : decide (N ≤ t) = false := decide_eq_false (by omega)
        have g3 : decide ((N : Int) ≤ (t : Int)) = false := decide_eq_false (by omega)
        have ht0 : (0 : Int) ≤ (t : Int) := by omega
        have ht1 : (t : Int) < (N : Int) := by omega
        obtain ⟨_, y0⟩ := HCE.out w5 HGW5.out
        obtain ⟨ka2, kc2, hk2⟩ := HST.out t htN
        have HK2 := show Hid _ from hk2
        obtain ⟨kl2, hkl2⟩ : ∃ k, k = (ks.getD t []).length := ⟨_, rfl⟩
        have HCC2 := show Hid _ from fun (Y : World) (hY : W.grownBy Y none) => HCL.out Y ka2 kc2 t (grown_trans HXW.out.grown hY) htN (HK2.out Y hY).2.1 (HK2.out Y hY).2.2
        rw [← hkl2] at HCC2 HK2
        have HKS2 : Hid (∀ Y, W.grownBy Y none → ((Y.cell? ⟨w.heap.size, 0, none⟩ = some (.slice ta tn tc) ∧ Y.cell? ⟨w.heap.size, 1, none⟩ = some (.slice na nn nc) ∧ Y.cell? ⟨w.heap.size, 2, none⟩ = some (.slice la ln lc) ∧ Y.cell? ⟨w.heap.size, 3, none⟩ = some (.int .i64 st) ∧ Y.cell? ⟨w.heap.size, 4, none⟩ = some (.slice (some ⟨bp, op, none⟩) n pc)) ∧ Y.cell? ⟨ab, 0, none⟩ = some (.slice (some ⟨sb, 0, none⟩) N sc)) ∧ Y.cell? ⟨sb, t * 2, none⟩ = some (.slice ka2 kl2 kc2)) := fun Y hY => ⟨HCE.out Y hY, (HK2.out Y hY).1⟩
        have HUP2 : Hid (W.grownBy w5.drew none) := grown_trans HGW5.out (grown_drewN _ 1)
        have HUP3 : Hid (Z2.grownBy w5.drew none) := grown_trans HG5.out (grown_drewN _ 1)
        clear hk2 hkl2
        go_wp2_with fail
        clear y0
        go_region_held3 (fun Y => ((Y.cell? ⟨w.heap.size, 0, none⟩ = some (.slice ta tn tc) ∧ Y.cell? ⟨w.heap.size, 1, none⟩ = some (.slice na nn nc) ∧ Y.cell? ⟨w.heap.size, 2, none⟩ = some (.slice la ln lc) ∧ Y.cell? ⟨w.heap.size, 3, none⟩ = some (.int .i64 st) ∧ Y.cell? ⟨w.heap.size, 4, none⟩ = some (.slice (some ⟨bp, op, none⟩) n pc)) ∧ Y.cell? ⟨ab, 0, none⟩ = some (.slice (some ⟨sb, 0, none⟩) N sc)) ∧ Y.cell? ⟨sb, t * 2, none⟩ = some (.slice ka2 kl2 kc2)) (first | exact HKS2.out _ HUP2.out | exact HKS2.out _ HGW6.out | go_keep)
          ((first
            | (go_at_call 15; refine Calls.mono (HCC2.out _ HUP2.out) ?_; rintro e w6 ⟨a6, c6, rfl, ho6, hg6⟩; have HGW6 : Hid (W.grownBy w6 none) := grown_trans HUP2.out hg6; have HG6 : Hid (Z2.grownBy w6 none) := grown_trans HUP3.out hg6; have HI6 : Hid (∀ Y, w6.grownBy Y none → ItsAt Y a6 (CL t)) := fun Y hY => (ItsAt.of ho6).kept hY; clear hg6 ho6)
            | fail))
        obtain ⟨en, hen⟩ : ∃ l, l = CL t := ⟨_, rfl⟩
        have henb : en.length ≤ 3354001 := by rw [hen]; exact HCB.out t htN
        rw [← hen] at HI6 HTM ⊢
        obtain ⟨E, hE⟩ : ∃ m, m = en.length := ⟨_, rfl⟩
        have HE : Hid (E = en.length) := hE
        rw [← hE] at henb ⊢
        clear hen hE HKS2 HUP2 HUP3 HCC2 HK2
        go_wp2_with fail
        go_loopg [19, 20] E (fun gk v19 v20 wr => ∃ (o : Nat) (b : Bool), o ≤ E ∧ gk = E - o ∧ v20 = .int .i64 o ∧ v19 = .bool b ∧ w6.grownBy wr none ∧ (b = true ↔ ((P : Int), (rl : Int)) ∈ en.take o))
        case atStart => exact ⟨0, false, Nat.zero_le _, rfl, rfl, rfl, grown_refl _ _, by simp⟩
        case round =>
          obtain ⟨o, b, ho, hgo, rfl, rfl, hg7, hb⟩ := hrel
          have HGO : Hid (gk = E - o) := hgo
          have HG7 : Hid (w6.grownBy wr none) := hg7
          have HB : Hid (b = true ↔ ((P : Int), (rl : Int)) ∈ en.take o) := hb
          clear hgo hg7 hb
          by_cases hlo : o < E
          · have hod : decide (o < E) = true := decide_eq_true hlo
            have ho0 : (0 : Int) ≤ (o : Int) := by omega
            have ho1 : (o : Int) < (E : Int) := by omega
            have hol : o < en.length := by rw [← HE.out]; exact hlo
            obtain ⟨nb, no, hna, d0, d1⟩ := (HI6.out wr HG7.out).cellAt hol
            subst hna
            have HTS : Hid (((P : Int), (rl : Int)) ∈ en.take (o + 1) ↔ ((P : Int), (rl : Int)) ∈ en.take o ∨ en.getD o (0, 0) = ((P : Int), (rl : Int))) := mem_take_succ hol _
            obtain ⟨u0, -⟩ := HLC.out wr (grown_trans HG2.out (grown_trans HG6.out HG7.out))
            obtain ⟨-, u1⟩ := HPC.out wr (grown_trans HG6.out HG7.out)
            cases b with
            | true =>
              have HNX2 : Hid (((P : Int), (rl : Int)) ∈ en.take (o + 1)) := HTS.out.2 (.inl (HB.out.1 rfl))
              clear HB HTS d0 d1 u0 u1 hol
              go_wp2_with fail
              go_quiet (fail)
              go_wp2_with fail
              go_roundg (E - (o + 1))
              case measure => have := HGO.out; omega
              case rel => exact ⟨o + 1, true, by omega, rfl, by go_num, rfl, grown_trans HG7.out (grown_drewN _ _), ⟨fun _ => HNX2.out, fun _ => rfl⟩⟩
            | false =>
              obtain ⟨x, hx⟩ : ∃ x, x = en.getD o (0, 0) := ⟨_, rfl⟩
              rw [← hx] at d0 d1 HTS
              obtain ⟨bb, hbb⟩ : ∃ b, b = (x.1 == (P : Int) && x.2 == (rl : Int)) := ⟨_, rfl⟩
              have HNX : Hid (bb = true ↔ ((P : Int), (rl : Int)) ∈ en.take (o + 1)) := by
                show _ ↔ _
                rw [HTS.out, hbb, Bool.and_eq_true, beq_iff_eq, beq_iff_eq]
                constructor
                · intro h; exact .inr (Prod.ext h.1 h.2)
                · rintro (h | h)
                  · exact absurd (HB.out.2 h) (by decide)
                  · exact ⟨congrArg Prod.fst h, congrArg Prod.snd h⟩
              obtain ⟨xp, xd⟩ := x
              simp only at d0 d1 hbb
              have hEI : ∀ X : World, (binOp .eql 55 (.agg #[.int .i64 xp, .int .i64 xd]) (.agg #[.int .i64 (P : Int), .int .i64 (rl : Int)])).run Try.prog X = .ok (.bool bb) X := fun X => by rw [hbb]; exact eq_item xp xd (P : Int) (rl : Int) X
              clear HB HTS hbb hx hol
              go_wp2_with fail
              go_quiet (fail)
              go_wp2_with fail
              go_roundg (E - (o + 1))
              case measure => have := HGO.out; omega
              case rel => exact ⟨o + 1, bb, by omega, rfl, by go_num, rfl, grown_trans HG7.out (grown_drewN _ _), HNX.out⟩
          · have hoE : E = o := by omega
            subst hoE
            have hod : decide (E < E) = false := decide_eq_false (by omega)
            have hbt : b = true := HB.out.2 (by rw [HE.out, List.take_length]; exact HTM.out)
            subst hbt
            clear HB
            obtain ⟨⟨k0, k1, k2, k3, k4⟩, y0⟩ := HCE.out wr (grown_trans HGW6.out HG7.out)
            obtain ⟨r0, r1⟩ := HPC.out wr (grown_trans HG6.out HG7.out)
            have HWVC := show Hid _ from HWV.out (wr.alloc (.cells #[.int .i64 (L P)] 3)) wr.heap.size (grown_trans HXW.out.grown (grown_trans HGW6.out (grown_trans HG7.out (World.grownBy_alloc _ _ none)))) (.inr ⟨wr.heap.size, 0, rfl, fun i hi => by
              have h9 : i = 0 := by simp at hi; omega
              subst h9
              rw [cell_of_row _ _ _ _ _ _ (heap_alloc_last wr _)]; rfl⟩)
            go_wp2_with fail
            refine Calls.mono HWVC.out ?_
            rintro e w8 ⟨rfl, hg8⟩
            have HG8 : Hid (w3.grownBy w8 none) := grown_trans HG2.out (grown_trans HG6.out (grown_trans HG7.out (grown_trans (World.grownBy_alloc _ _ none) hg8)))
            clear hg8 HWVC k0 k1 k2 k3 k4 y0 r0 r1
            obtain ⟨u0, -⟩ := HLC.out w8 HG8.out
            obtain ⟨bb, hbb⟩ : ∃ b, b = ((P : Int) == 0) := ⟨_, rfl⟩
            rw [← hbb] at hvP
            have hbb' : ((P : Int) == 0) = bb := hbb.symm
            clear hbb
            cases bb
            all_goals
              go_wp2_with fail
              go_roundg (M - (i + 1))
            all_goals first
              | exact (show ∃ i' : Nat, _ from ⟨i + 1, by omega, rfl, by go_num, HG8.out⟩)
              | (have := HGI.out; omega)
      · have e1 : decide ((0 : Int) < (d : Int)) = true := decide_eq_true (by omega)
        have e2 : decide (0 < d) = true := decide_eq_true (by omega)
        clear hx hmem hil b1 b2 b3 b4
        go_wp2_with fail
        go_quiet (fail)
        go_wp2_with fail
        go_roundg (M - (i + 1))
        case measure => have := HGI.out; omega
        case rel => exact ⟨i + 1, by omega, rfl, by go_num, grown_trans HGZ.out (grown_drewN _ _)⟩
    · have hiM : M = i := by omega
      subst hiM
      have hid : decide (M < M) = false := decide_eq_false (by omega)
      go_wp2_with fail
      go_ret
      exact ⟨rfl, grown_trans HXW.out.grown (grown_trans HG3.out HGZ.out)⟩

set_option maxRecDepth 100000 in
set_option maxHeartbeats 8000000 in
theorem rights_neg (N ask qn zn : Nat) (hz : z = -(zn : Int) - 1) (hzb : zn ≤ 9223372036854775807) (ks : List (List It)) (el : Nat → List It) (CL : Nat → List It) (hN : N = ks.length) (hqn : qn < N) (hqz : qn = zn % N) (hPr : ProdsAt w pa n L R ra rc V)
    (hCLb : ∀ q, q < N → (CL q).length ≤ 3354001) (hit : ∀ x ∈ CL qn, itB n R x = true)
    (hBU : ∀ X, w.grownBy X none → Calls Try.prog 13 #[.agg #[.slice ta tn tc, .slice na nn nc, .slice la ln lc, .int .i64 st, .slice pa n pc]] X fun e y => ∃ sa sc kv ev, e = .returned (.tuple #[.agg #[.slice sa N sc, .int .i64 (ask : Int), .int .i64 (N : Int)], .int .i64 0]) ∧ AutP X.heap.size y (.slice sa ks.length sc) ks el kv ev ∧ X.grownBy y none)
    (hCL : ∀ X a' c' q, w.grownBy X none → q < N → ItsAt X a' (ks.getD q []) → (a' = none → (ks.getD q []).length = 0 ∧ c' = 0) → Calls Try.prog 15 #[.agg #[.slice ta tn tc, .slice na nn nc, .slice la ln lc, .int .i64 st, .slice pa n pc], .slice a' (ks.getD q []).length c'] X fun e y => ItsErr (CL q) 0 X e y)
    (hWR : ∀ P, P < n → ((P : Int), (0 : Int)) ∈ CL qn → ∃ t : Nat, t < N ∧ ((P : Int), ((R P).length : Int)) ∈ CL t ∧ ∀ X, w.grownBy X none → Calls Try.prog 10 #[.agg #[.slice ta tn tc, .slice na nn nc, .slice la ln lc, .int .i64 st, .slice pa n pc], .int .i64 (qn : Int), .slice (ra P) (R P).length (rc P)] X fun e y => e = .returned (.tuple #[.int .i64 (t : Int), .int .i64 0]) ∧ X.grownBy y none)
    (hWL : ∀ P, P < n → ((P : Int), (0 : Int)) ∈ CL qn → ∃ v : Int, (decide (v < 0) = ((P : Int) == 0)) ∧ ∀ X b, w.grownBy X none → IntsAt X (some ⟨b, 0, none⟩) [L P] → Calls Try.prog 10 #[.agg #[.slice ta tn tc, .slice na nn nc, .slice la ln lc, .int .i64 st, .slice pa n pc], .int .i64 (qn : Int), .slice (some ⟨b, 0, none⟩) 1 1] X fun e y => e = .returned (.tuple #[.int .i64 v, .int .i64 0]) ∧ X.grownBy y none) :
    Calls Try.prog 5 #[.agg #[.slice ta tn tc, .slice na nn nc, .slice la ln lc, .int .i64 st, .slice pa n pc], .int .i64 z] w fun e w' => e = .returned (.bool true) ∧ w.grownBy w' none := by
  have HBU := show Hid _ from hBU
  have HCL := show Hid _ from hCL
  have HWR := show Hid _ from hWR
  have HWL := show Hid _ from hWL
  have HIT := show Hid _ from hit
  have HCB := show Hid _ from hCLb
  have HPR : Hid (∀ Y, w.grownBy Y none → ProdsAt Y pa n L R ra rc V) := fun Y hY => prods_kept hPr hY
  have HN : Hid (N = ks.length) := hN
  have HX0 : Hid (PhAt w (w.alloc (.cells #[.slice ta tn tc, .slice na nn nc, .slice la ln lc, .int .i64 st, .slice pa n pc] 27)) w.heap.size #[.slice ta tn tc, .slice na nn nc, .slice la ln lc, .int .i64 st, .slice pa n pc]) := ⟨World.grownBy_alloc _ _ none, heap_alloc_last w _⟩
  have hm : (zn : Int).tmod (N : Int) = (qn : Int) := by rw [hqz]; rfl
  have hN0 : ((N : Int) == 0) = false := beq_eq_false_iff_ne.2 (by omega)
  have hN1 : (N == 0) = false := beq_eq_false_iff_ne.2 (by omega)
  have hN2 : ¬ (N : Int) = 0 := by omega
  have hN3 : ¬ N = 0 := by omega
  have hq0 : (0 : Int) ≤ (qn : Int) := by omega
  have hq1 : (qn : Int) < (N : Int) := by omega
  have hgu := guard_item
  have hzd : decide (z < 0) = true := decide_eq_true (by omega)
  have hz1 : IntKind.i64.wrap (z + 1) = z + 1 := by rw [IntKind.wrap_i64]; omega
  have hz2 : IntKind.i64.wrap (-(z + 1)) = (zn : Int) := by rw [IntKind.wrap_i64]; omega
  have hz3 : z < 0 := by omega
  clear hz hzb
  clear hBU hCL hWR hWL hit hCLb hPr hN hqz
  go_enter Try.func5, Try.ntmps5
  go_wp2_with fail
  refine Calls.mono (awake_any _) ?_
  rintro e w1 ⟨rfl, hg1⟩
  have HX1 : Hid (PhAt w w1 w.heap.size #[.slice ta tn tc, .slice na nn nc, .slice la ln lc, .int .i64 st, .slice pa n pc]) := HX0.out.kept hg1
  clear hg1 HX0
  obtain ⟨k0, k1, k2, k3, k4⟩ := HX1.out.cells
  go_wp2_with fail
  refine Calls.mono (HBU.out _ HX1.out.grown) ?_
  rintro e w2 ⟨sa, sc, kv, ev, rfl, hAP, hg2⟩
  obtain ⟨ab, hab⟩ : ∃ b, b = w2.heap.size := ⟨_, rfl⟩
  obtain ⟨W, hW⟩ : ∃ W, W = w2.alloc (.cells #[.slice sa N sc, .int .i64 (ask : Int), .int .i64 (N : Int)] 42) := ⟨_, rfl⟩
  have hgW : w2.grownBy W none := by rw [hW]; exact World.grownBy_alloc _ _ none
  have HXW : Hid (PhAt w W w.heap.size #[.slice ta tn tc, .slice na nn nc, .slice la ln lc, .int .i64 st, .slice pa n pc]) := HX1.out.kept (grown_trans hg2 hgW)
  have HAW : Hid (W.heap[ab]? = some (.cells #[.slice sa N sc, .int .i64 (ask : Int), .int .i64 (N : Int)] 42 (0, 0))) := by rw [hW, hab]; exact heap_alloc_last w2 _
  have HWE := show Hid _ from hW
  have HBE := show Hid _ from hab
  have hPW := hAP.kept hgW
  obtain ⟨sb, sc', hsv, -, -⟩ := hPW.st (q := qn) (by rw [← HN.out]; exact hqn)
  simp only [Value.slice.injEq] at hsv
  obtain ⟨rfl, _, rfl⟩ := hsv
  have HST : Hid (∀ q, q < N → ∃ ka kc, ∀ Y, W.grownBy Y none → Y.cell? ⟨sb, q * 2, none⟩ = some (.slice ka (ks.getD q []).length kc) ∧ ItsAt Y ka (ks.getD q []) ∧ (ka = none → (ks.getD q []).length = 0 ∧ kc = 0)) := fun q hq => by
    obtain ⟨sb2, sc2, hsv2, hs2, _⟩ := hPW.st (q := q) (by rw [← HN.out]; exact hq)
    simp only [Value.slice.injEq, Option.some.injEq, Addr.mk.injEq] at hsv2
    obtain ⟨⟨rfl, _⟩, _⟩ := hsv2
    obtain ⟨ka, kc, h1, h2, h3⟩ := hPW.kerAt (q := q) (by rw [← HN.out]; exact hq)
    rw [h1] at hs2
    exact ⟨ka, kc, fun Y hY => ⟨hY.cell hs2 (by simp), h2.kept hY, h3⟩⟩
  have HCE : Hid (∀ Y, W.grownBy Y none → (Y.cell? ⟨w.heap.size, 0, none⟩ = some (.slice ta tn tc) ∧ Y.cell? ⟨w.heap.size, 1, none⟩ = some (.slice na nn nc) ∧ Y.cell? ⟨w.heap.size, 2, none⟩ = some (.slice la ln lc) ∧ Y.cell? ⟨w.heap.size, 3, none⟩ = some (.int .i64 st) ∧ Y.cell? ⟨w.heap.size, 4, none⟩ = some (.slice pa n pc)) ∧ Y.cell? ⟨ab, 0, none⟩ = some (.slice (some ⟨sb, 0, none⟩) N sc)) := fun Y hY => ⟨(HXW.out.kept hY).cells, by rw [cell_of_row _ _ _ _ _ _ (box_kept HAW.out hY)]; rfl⟩
  clear hg2 hAP HX1 k0 k1 k2 k3 k4 hW hab hgW hPW
  obtain ⟨_, y0⟩ := HCE.out W (grown_refl _ _)
  rw [HWE.out, HBE.out] at y0
  go_wp2_with fail
  rw [← HWE.out, ← HBE.out]
  clear HWE HBE y0
  obtain ⟨ka, kc, hk⟩ := HST.out qn hqn
  have HK := show Hid _ from hk
  obtain ⟨kl, hkl⟩ : ∃ k, k = (ks.getD qn []).length := ⟨_, rfl⟩
  have HCC := show Hid _ from fun (Y : World) (hY : W.grownBy Y none) => HCL.out Y ka kc qn (grown_trans HXW.out.grown hY) hqn (HK.out Y hY).2.1 (HK.out Y hY).2.2
  rw [← hkl] at HCC HK
  have HKS : Hid (∀ Y, W.grownBy Y none → ((Y.cell? ⟨w.heap.size, 0, none⟩ = some (.slice ta tn tc) ∧ Y.cell? ⟨w.heap.size, 1, none⟩ = some (.slice na nn nc) ∧ Y.cell? ⟨w.heap.size, 2, none⟩ = some (.slice la ln lc) ∧ Y.cell? ⟨w.heap.size, 3, none⟩ = some (.int .i64 st) ∧ Y.cell? ⟨w.heap.size, 4, none⟩ = some (.slice pa n pc)) ∧ Y.cell? ⟨ab, 0, none⟩ = some (.slice (some ⟨sb, 0, none⟩) N sc)) ∧ Y.cell? ⟨sb, qn * 2, none⟩ = some (.slice ka kl kc)) := fun Y hY => ⟨HCE.out Y hY, (HK.out Y hY).1⟩
  have HUP : Hid (W.grownBy W.drew none) := grown_drewN _ 1
  clear hk hkl
  go_region_held3 (fun Y => ((Y.cell? ⟨w.heap.size, 0, none⟩ = some (.slice ta tn tc) ∧ Y.cell? ⟨w.heap.size, 1, none⟩ = some (.slice na nn nc) ∧ Y.cell? ⟨w.heap.size, 2, none⟩ = some (.slice la ln lc) ∧ Y.cell? ⟨w.heap.size, 3, none⟩ = some (.int .i64 st) ∧ Y.cell? ⟨w.heap.size, 4, none⟩ = some (.slice pa n pc)) ∧ Y.cell? ⟨ab, 0, none⟩ = some (.slice (some ⟨sb, 0, none⟩) N sc)) ∧ Y.cell? ⟨sb, qn * 2, none⟩ = some (.slice ka kl kc)) (first | exact HKS.out _ HUP.out | exact HKS.out _ HG3.out | go_keep)
    ((first
      | (go_at_call 15; refine Calls.mono (HCC.out _ HUP.out) ?_; rintro e w3 ⟨a3, c3, rfl, ho3, hg3⟩; have HG3 : Hid (W.grownBy w3 none) := grown_trans HUP.out hg3; have HI3 : Hid (∀ Y, w3.grownBy Y none → ItsAt Y a3 (CL qn)) := fun Y hY => (ItsAt.of ho3).kept hY; clear hg3 ho3)
      | fail))
  obtain ⟨l, hl⟩ : ∃ l, l = CL qn := ⟨_, rfl⟩
  have HL : Hid (l = CL qn) := hl
  rw [← hl] at HI3 HIT HWR HWL ⊢
  obtain ⟨M, hM⟩ : ∃ m, m = l.length := ⟨_, rfl⟩
  have HM : Hid (M = l.length) := hM
  have hMb : M ≤ 3354001 := by rw [hM, hl]; exact HCB.out qn hqn
  rw [← hM]
  clear hl hM HKS HUP HCC HK
  go_wp2_with fail
  go_loopg [13] M (fun gk v13 wr => ∃ i : Nat, i ≤ M ∧ gk = M - i ∧ v13 = .int .i64 i ∧ w3.grownBy wr none)
  case atStart => exact ⟨0, Nat.zero_le _, rfl, rfl, grown_refl _ _⟩
  case round =>
    obtain ⟨i, hi, hgi, rfl, hg⟩ := hrel
    have HGI : Hid (gk = M - i) := hgi
    have HGZ : Hid (w3.grownBy wr none) := hg
    clear hgi hg
    generalize wr = Z at *
    by_cases hlt : i < M
    · have hid : decide (i < M) = true := decide_eq_true hlt
      have hi0 : (0 : Int) ≤ (i : Int) := by omega
      have hi1 : (i : Int) < (M : Int) := by omega
      have hil : i < l.length := by rw [← HM.out]; exact hlt
      have hmem := getD_memI hil
      have hitx := HIT.out _ hmem
      obtain ⟨lb, lo, hla, c0, c1⟩ := (HI3.out Z HGZ.out).cellAt hil
      subst hla
      have HLC : Hid (∀ Y, w3.grownBy Y none → Y.cell? ⟨lb, lo + i * 2, none⟩ = some (.int .i64 (l.getD i (0, 0)).1) ∧ Y.cell? ⟨lb, lo + i * 2 + 1, none⟩ = some (.int .i64 (l.getD i (0, 0)).2)) := fun Y hY => by
        obtain ⟨b3, o3, h1, h2, h3⟩ := (HI3.out Y hY).cellAt hil
        simp only [Option.some.injEq, Addr.mk.injEq, and_true] at h1
        obtain ⟨rfl, rfl⟩ := h1
        exact ⟨h2, h3⟩
      obtain ⟨x, hx⟩ : ∃ x, x = l.getD i (0, 0) := ⟨_, rfl⟩
      rw [← hx] at c0 c1 hmem hitx HLC
      obtain ⟨xp, xd⟩ := x
      unfold itB at hitx
      simp only [Bool.and_eq_true, decide_eq_true_eq] at hitx
      obtain ⟨⟨⟨b1, b2⟩, b3⟩, b4⟩ := hitx
      simp only at c0 c1 HLC b1 b2 b3
      obtain ⟨P, rfl⟩ : ∃ P : Nat, xp = (P : Int) := ⟨xp.toNat, by omega⟩
      obtain ⟨d, rfl⟩ : ∃ d : Nat, xd = (d : Int) := ⟨xd.toNat, by omega⟩
      have hPn : P < n := by omega
      obtain ⟨⟨k0, k1, k2, k3, k4⟩, y0⟩ := HCE.out Z (grown_trans HG3.out HGZ.out)
      by_cases hd0 : d = 0
      · subst hd0
        have e1 : decide ((0 : Int) < ((0 : Nat) : Int)) = false := rfl
        have e2 : decide ((P : Int) < 0) = false := decide_eq_false (by omega)
        have e3 : decide (n ≤ P) = false := decide_eq_false (by omega)
        have e4 : decide ((n : Int) ≤ (P : Int)) = false := decide_eq_false (by omega)
        have hP0 : (0 : Int) ≤ (P : Int) := by omega
        have hP1 : (P : Int) < (n : Int) := by omega
        have c1' : Z.cell? ⟨lb, lo + i * 2 + 1, none⟩ = some (.int .i64 0) := c1
        obtain ⟨t, htN, htm, hWRt⟩ := HWR.out P hPn hmem
        obtain ⟨v, hvP, hWLv⟩ := HWL.out P hPn hmem
        have HTM : Hid (((P : Int), ((R P).length : Int)) ∈ CL t) := htm
        have HWT := show Hid _ from hWRt
        have HWV := show Hid _ from hWLv
        obtain ⟨bp, op, hpa, p0, p1, p2⟩ : ∃ bp op, pa = some ⟨bp, op, none⟩ ∧ Z.cell? ⟨bp, op + P * 3, none⟩ = some (.int .i64 (L P)) ∧ Z.cell? ⟨bp, op + P * 3 + 1, none⟩ = some (.slice (ra P) (R P).length (rc P)) ∧ Z.cell? ⟨bp, op + P * 3 + 2, none⟩ = some (.int .i64 (V P)) := by
          rcases HPR.out Z (grown_trans HXW.out.grown (grown_trans HG3.out HGZ.out)) with h | ⟨bp, op, e, h⟩
          · omega
          · exact ⟨bp, op, e, (h P hPn).1, (h P hPn).2.1, (h P hPn).2.2.1⟩
        subst hpa
        clear htm hWRt hWLv c1 b1 b2 b3 b4 hx hmem hil
        go_wp2_with fail
        go_quiet (fail)
        obtain ⟨Z1, hZ1⟩ : ∃ X, X = Z.drewN nq := ⟨_, rfl⟩
        rw [← hZ1]
        have HZ1 : Hid (Z.grownBy Z1 none) := by show Z.grownBy Z1 none; rw [hZ1]; exact grown_drewN _ _
        have q0 := HZ1.out.cell p0 (by simp)
        have q1 := HZ1.out.cell p1 (by simp)
        have q2 := HZ1.out.cell p2 (by simp)
        have q3 := HZ1.out.cell c0 (by simp)
        have q4 := HZ1.out.cell k4 (by simp)
        have q0' := fun o => (World.grownBy_alloc Z1 o none).cell q0 (by simp)
        have q1' := fun o => (World.grownBy_alloc Z1 o none).cell q1 (by simp)
        have q2' := fun o => (World.grownBy_alloc Z1 o none).cell q2 (by simp)
        have q3' := fun o => (World.grownBy_alloc Z1 o none).cell q3 (by simp)
        have q4' := fun o => (World.grownBy_alloc Z1 o none).cell q4 (by simp)
        clear hZ1 p0 p1 p2 c0 c1' k0 k1 k2 k3 k4 y0
        go_wp2_with fail
        go_region
        obtain ⟨Z2, hZ2⟩ : ∃ X, X = (Z1.alloc (.cells #[.int .i64 (L P), .slice (ra P) (R P).length (rc P), .int .i64 (V P)] 57)).drew := ⟨_, rfl⟩
        obtain ⟨pb, hpb⟩ : ∃ b, b = Z1.heap.size := ⟨_, rfl⟩
        have HG2 : Hid (w3.grownBy Z2 none) := by show w3.grownBy Z2 none; rw [hZ2]; exact grown_trans HGZ.out (grown_trans HZ1.out (grown_trans (World.grownBy_alloc _ _ none) (grown_drewN _ 1)))
        have HPB : Hid (Z2.heap[pb]? = some (.cells #[.int .i64 (L P), .slice (ra P) (R P).length (rc P), .int .i64 (V P)] 57 (0, 0))) := by rw [hZ2, hpb]; exact heap_alloc_last Z1 _
        rw [← hZ2, ← hpb]
        obtain ⟨rl, hrl⟩ : ∃ r, r = (R P).length := ⟨_, rfl⟩
        have hrlb : rl ≤ 17592186044416 := by rw [hrl]; exact gright (HPR.out w (grown_refl _ _)) P hPn
        rw [← hrl] at HPB HWT HTM
        rw [← hrl]
        have HPC : Hid (∀ Y, Z2.grownBy Y none → Y.cell? ⟨pb, 0, none⟩ = some (.int .i64 (L P)) ∧ Y.cell? ⟨pb, 1, none⟩ = some (.slice (ra P) rl (rc P))) := fun Y hY => ⟨by rw [cell_of_row _ _ _ _ _ _ (box_kept HPB.out hY)]; rfl, by rw [cell_of_row _ _ _ _ _ _ (box_kept HPB.out hY)]; rfl⟩
        clear hZ2 hpb hrl q0 q1 q2 q3 q4 q0' q1' q2' q3' q4'
        obtain ⟨⟨k0, k1, k2, k3, k4⟩, y0⟩ := HCE.out Z2 (grown_trans HG3.out HG2.out)
        obtain ⟨r0, r1⟩ := HPC.out Z2 (grown_refl _ _)
        have HWTC := show Hid _ from HWT.out Z2 (grown_trans HXW.out.grown (grown_trans HG3.out HG2.out))
        go_wp2_with fail
        refine Calls.mono HWTC.out ?_
        rintro e w5 ⟨rfl, hg5⟩
        have HG5 : Hid (Z2.grownBy w5 none) := hg5
        have HGW5 : Hid (W.grownBy w5 none) := grown_trans HG3.out (grown_trans HG2.out hg5)
        clear hg5 HWTC k0 k1 k2 k3 k4 y0 r0 r1
        have g1 : decide ((t : Int) < 0) = false := decide_eq_false (by omega)
        have g2 : decide (N ≤ t) = false := decide_eq_false (by omega)
        have g3 : decide ((N : Int) ≤ (t : Int)) = false := decide_eq_false (by omega)
        have ht0 : (0 : Int) ≤ (t : Int) := by omega
        have ht1 : (t : Int) < (N : Int) := by omega
        obtain ⟨_, y0⟩ := HCE.out w5 HGW5.out
        obtain ⟨ka2, kc2, hk2⟩ := HST.out t htN
        have HK2 := show Hid _ from hk2
        obtain ⟨kl2, hkl2⟩ : ∃ k, k = (ks.getD t []).length := ⟨_, rfl⟩
        have HCC2 := show Hid _ from fun (Y : World) (hY : W.grownBy Y none) => HCL.out Y ka2 kc2 t (grown_trans HXW.out.grown hY) htN (HK2.out Y hY).2.1 (HK2.out Y hY).2.2
        rw [← hkl2] at HCC2 HK2
        have HKS2 : Hid (∀ Y, W.grownBy Y none → ((Y.cell? ⟨w.heap.size, 0, none⟩ = some (.slice ta tn tc) ∧ Y.cell? ⟨w.heap.size, 1, none⟩ = some (.slice na nn nc) ∧ Y.cell? ⟨w.heap.size, 2, none⟩ = some (.slice la ln lc) ∧ Y.cell? ⟨w.heap.size, 3, none⟩ = some (.int .i64 st) ∧ Y.cell? ⟨w.heap.size, 4, none⟩ = some (.slice (some ⟨bp, op, none⟩) n pc)) ∧ Y.cell? ⟨ab, 0, none⟩ = some (.slice (some ⟨sb, 0, none⟩) N sc)) ∧ Y.cell? ⟨sb, t * 2, none⟩ = some (.slice ka2 kl2 kc2)) := fun Y hY => ⟨HCE.out Y hY, (HK2.out Y hY).1⟩
        have HUP2 : Hid (W.grownBy w5.drew none) := grown_trans HGW5.out (grown_drewN _ 1)
        have HUP3 : Hid (Z2.grownBy w5.drew none) := grown_trans HG5.out (grown_drewN _ 1)
        clear hk2 hkl2
        go_wp2_with fail
        clear y0
        go_region_held3 (fun Y => ((Y.cell? ⟨w.heap.size, 0, none⟩ = some (.slice ta tn tc) ∧ Y.cell? ⟨w.heap.size, 1, none⟩ = some (.slice na nn nc) ∧ Y.cell? ⟨w.heap.size, 2, none⟩ = some (.slice la ln lc) ∧ Y.cell? ⟨w.heap.size, 3, none⟩ = some (.int .i64 st) ∧ Y.cell? ⟨w.heap.size, 4, none⟩ = some (.slice (some ⟨bp, op, none⟩) n pc)) ∧ Y.cell? ⟨ab, 0, none⟩ = some (.slice (some ⟨sb, 0, none⟩) N sc)) ∧ Y.cell? ⟨sb, t * 2, none⟩ = some (.slice ka2 kl2 kc2)) (first | exact HKS2.out _ HUP2.out | exact HKS2.out _ HGW6.out | go_keep)
          ((first
            | (go_at_call 15; refine Calls.mono (HCC2.out _ HUP2.out) ?_; rintro e w6 ⟨a6, c6, rfl, ho6, hg6⟩; have HGW6 : Hid (W.grownBy w6 none) := grown_trans HUP2.out hg6; have HG6 : Hid (Z2.grownBy w6 none) := grown_trans HUP3.out hg6; have HI6 : Hid (∀ Y, w6.grownBy Y none → ItsAt Y a6 (CL t)) := fun Y hY => (ItsAt.of ho6).kept hY; clear hg6 ho6)
            | fail))
        obtain ⟨en, hen⟩ : ∃ l, l = CL t := ⟨_, rfl⟩
        have henb : en.length ≤ 3354001 := by rw [hen]; exact HCB.out t htN
        rw [← hen] at HI6 HTM ⊢
        obtain ⟨E, hE⟩ : ∃ m, m = en.length := ⟨_, rfl⟩
        have HE : Hid (E = en.length) := hE
        rw [← hE] at henb ⊢
        clear hen hE HKS2 HUP2 HUP3 HCC2 HK2
        go_wp2_with fail
        go_loopg [19, 20] E (fun gk v19 v20 wr => ∃ (o : Nat) (b : Bool), o ≤ E ∧ gk = E - o ∧ v20 = .int .i64 o ∧ v19 = .bool b ∧ w6.grownBy wr none ∧ (b = true ↔ ((P : Int), (rl : Int)) ∈ en.take o))
        case atStart => exact ⟨0, false, Nat.zero_le _, rfl, rfl, rfl, grown_refl _ _, by simp⟩
        case round =>
          obtain ⟨o, b, ho, hgo, rfl, rfl, hg7, hb⟩ := hrel
          have HGO : Hid (gk = E - o) := hgo
          have HG7 : Hid (w6.grownBy wr none) := hg7
          have HB : Hid (b = true ↔ ((P : Int), (rl : Int)) ∈ en.take o) := hb
          clear hgo hg7 hb
          by_cases hlo : o < E
          · have hod : decide (o < E) = true := decide_eq_true hlo
            have ho0 : (0 : Int) ≤ (o : Int) := by omega
            have ho1 : (o : Int) < (E : Int) := by omega
            have hol : o < en.length := by rw [← HE.out]; exact hlo
            obtain ⟨nb, no, hna, d0, d1⟩ := (HI6.out wr HG7.out).cellAt hol
            subst hna
            have HTS : Hid (((P : Int), (rl : Int)) ∈ en.take (o + 1) ↔ ((P : Int), (rl : Int)) ∈ en.take o ∨ en.getD o (0, 0) = ((P : Int), (rl : Int))) := mem_take_succ hol _
            obtain ⟨u0, -⟩ := HLC.out wr (grown_trans HG2.out (grown_trans HG6.out HG7.out))
            obtain ⟨-, u1⟩ := HPC.out wr (grown_trans HG6.out HG7.out)
            cases b with
            | true =>
              have HNX2 : Hid (((P : Int), (rl : Int)) ∈ en.take (o + 1)) := HTS.out.2 (.inl (HB.out.1 rfl))
              clear HB HTS d0 d1 u0 u1 hol
              go_wp2_with fail
              go_quiet (fail)
              go_wp2_with fail
              go_roundg (E - (o + 1))
              case measure => have := HGO.out; omega
              case rel => exact ⟨o + 1, true, by omega, rfl, by go_num, rfl, grown_trans HG7.out (grown_drewN _ _), ⟨fun _ => HNX2.out, fun _ => rfl⟩⟩
            | false =>
              obtain ⟨x, hx⟩ : ∃ x, x = en.getD o (0, 0) := ⟨_, rfl⟩
              rw [← hx] at d0 d1 HTS
              obtain ⟨bb, hbb⟩ : ∃ b, b = (x.1 == (P : Int) && x.2 == (rl : Int)) := ⟨_, rfl⟩
              have HNX : Hid (bb = true ↔ ((P : Int), (rl : Int)) ∈ en.take (o + 1)) := by
                show _ ↔ _
                rw [HTS.out, hbb, Bool.and_eq_true, beq_iff_eq, beq_iff_eq]
                constructor
                · intro h; exact .inr (Prod.ext h.1 h.2)
                · rintro (h | h)
                  · exact absurd (HB.out.2 h) (by decide)
                  · exact ⟨congrArg Prod.fst h, congrArg Prod.snd h⟩
              obtain ⟨xp, xd⟩ := x
              simp only at d0 d1 hbb
              have hEI : ∀ X : World, (binOp .eql 55 (.agg #[.int .i64 xp, .int .i64 xd]) (.agg #[.int .i64 (P : Int), .int .i64 (rl : Int)])).run Try.prog X = .ok (.bool bb) X := fun X => by rw [hbb]; exact eq_item xp xd (P : Int) (rl : Int) X
              clear HB HTS hbb hx hol
              go_wp2_with fail
              go_quiet (fail)
              go_wp2_with fail
              go_roundg (E - (o + 1))
              case measure => have := HGO.out; omega
              case rel => exact ⟨o + 1, bb, by omega, rfl, by go_num, rfl, grown_trans HG7.out (grown_drewN _ _), HNX.out⟩
          · have hoE : E = o := by omega
            subst hoE
            have hod : decide (E < E) = false := decide_eq_false (by omega)
            have hbt : b = true := HB.out.2 (by rw [HE.out, List.take_length]; exact HTM.out)
            subst hbt
            clear HB
            obtain ⟨⟨k0, k1, k2, k3, k4⟩, y0⟩ := HCE.out wr (grown_trans HGW6.out HG7.out)
            obtain ⟨r0, r1⟩ := HPC.out wr (grown_trans HG6.out HG7.out)
            have HWVC := show Hid _ from HWV.out (wr.alloc (.cells #[.int .i64 (L P)] 3)) wr.heap.size (grown_trans HXW.out.grown (grown_trans HGW6.out (grown_trans HG7.out (World.grownBy_alloc _ _ none)))) (.inr ⟨wr.heap.size, 0, rfl, fun i hi => by
              have h9 : i = 0 := by simp at hi; omega
              subst h9
              rw [cell_of_row _ _ _ _ _ _ (heap_alloc_last wr _)]; rfl⟩)
            go_wp2_with fail
            refine Calls.mono HWVC.out ?_
            rintro e w8 ⟨rfl, hg8⟩
            have HG8 : Hid (w3.grownBy w8 none) := grown_trans HG2.out (grown_trans HG6.out (grown_trans HG7.out (grown_trans (World.grownBy_alloc _ _ none) hg8)))
            clear hg8 HWVC k0 k1 k2 k3 k4 y0 r0 r1
            obtain ⟨u0, -⟩ := HLC.out w8 HG8.out
            obtain ⟨bb, hbb⟩ : ∃ b, b = ((P : Int) == 0) := ⟨_, rfl⟩
            rw [← hbb] at hvP
            have hbb' : ((P : Int) == 0) = bb := hbb.symm
            clear hbb
            cases bb
            all_goals
              go_wp2_with fail
              go_roundg (M - (i + 1))
            all_goals first
              | exact (show ∃ i' : Nat, _ from ⟨i + 1, by omega, rfl, by go_num, HG8.out⟩)
              | (have := HGI.out; omega)
      · have e1 : decide ((0 : Int) < (d : Int)) = true := decide_eq_true (by omega)
        have e2 : decide (0 < d) = true := decide_eq_true (by omega)
        clear hx hmem hil b1 b2 b3 b4
        go_wp2_with fail
        go_quiet (fail)
        go_wp2_with fail
        go_roundg (M - (i + 1))
        case measure => have := HGI.out; omega
        case rel => exact ⟨i + 1, by omega, rfl, by go_num, grown_trans HGZ.out (grown_drewN _ _)⟩
    · have hiM : M = i := by omega
      subst hiM
      have hid : decide (M < M) = false := decide_eq_false (by omega)
      go_wp2_with fail
      go_ret
      exact ⟨rfl, grown_trans HXW.out.grown (grown_trans HG3.out HGZ.out)⟩
end

end Go.Proofs.Ytkcdipnobgggkaa.J
