/-
  lr0: the law Lr0Sums, its walks.
-/
import Derived.Test.YtgpmmhkdpjlimaaQiinmanenacdi
import Derived.Test.YtgpmmhkdpjlimaaQalcflebehkig
namespace Go.Proofs.Ytgpmmhkdpjlimaa.J
open Go.RowKit Go.Maps Go.Shelf

attribute [local go_sem] Oper.semAt_some

set_option maxRecDepth 100000 in
set_option maxHeartbeats 4000000 in
theorem sums_bad1P (ta na la pa : Option Addr) (tc nc lc pc : Nat) (n : Nat) (st : Int) (w : World) (tn nn ln : Nat) (s : Int) (x : Addr) (cap k N : Nat) (hk : k = N / 2) (hNc : N ≤ cap) (hc0 : 0 < cap) (hNb : N ≤ 8796093022208) (A B C xA xB xC : List It) (f1 i1 l1 : Int)
    (hC1 : ∀ X, w.grownBy X none → Calls Try.prog 17 #[.agg #[.slice ta tn tc, .slice na nn nc, .slice la ln lc, .int .i64 st, .slice pa n pc], .slice (some x) k cap] X fun e y => ItsErr A 1 X e y)
    (hC2 : ∀ X, w.grownBy X none → Calls Try.prog 17 #[.agg #[.slice ta tn tc, .slice na nn nc, .slice la ln lc, .int .i64 st, .slice pa n pc], .slice (some (x.add (k * 2))) (N - k) (cap - k)] X fun e y => ItsErr B f1 X e y)
    (hC3 : ∀ X, w.grownBy X none → Calls Try.prog 17 #[.agg #[.slice ta tn tc, .slice na nn nc, .slice la ln lc, .int .i64 st, .slice pa n pc], .slice (some x) N cap] X fun e y => ItsErr C 1 X e y)
    (hG1 : ∀ X, w.grownBy X none → Calls Try.prog 19 #[.agg #[.slice ta tn tc, .slice na nn nc, .slice la ln lc, .int .i64 st, .slice pa n pc], .int .i64 s, .slice (some x) k cap] X fun e y => ItsErr xA i1 X e y)
    (hG2 : ∀ X, w.grownBy X none → Calls Try.prog 19 #[.agg #[.slice ta tn tc, .slice na nn nc, .slice la ln lc, .int .i64 st, .slice pa n pc], .int .i64 s, .slice (some (x.add (k * 2))) (N - k) (cap - k)] X fun e y => ItsErr xB l1 X e y)
    (hG3 : ∀ X, w.grownBy X none → Calls Try.prog 19 #[.agg #[.slice ta tn tc, .slice na nn nc, .slice la ln lc, .int .i64 st, .slice pa n pc], .int .i64 s, .slice (some x) N cap] X fun e y => ItsErr xC 1 X e y) :
    Calls Try.prog 8 #[.agg #[.slice ta tn tc, .slice na nn nc, .slice la ln lc, .int .i64 st, .slice pa n pc], .int .i64 s, .slice (some x) N cap] w fun e w' => e = .returned (.bool true) ∧ w.grownBy w' none := by
  have HC1 := show Hid _ from hC1
  have HC2 := show Hid _ from hC2
  have HC3 := show Hid _ from hC3
  have HG1 := show Hid _ from hG1
  have HG2 := show Hid _ from hG2
  have HG3 := show Hid _ from hG3
  have HX0 : Hid (PhAt w (w.alloc (.cells #[.slice ta tn tc, .slice na nn nc, .slice la ln lc, .int .i64 st, .slice pa n pc] 27)) w.heap.size #[.slice ta tn tc, .slice na nn nc, .slice la ln lc, .int .i64 st, .slice pa n pc]) := ⟨World.grownBy_alloc _ _ none, heap_alloc_last w _⟩
  have hq : (N : Int).tdiv 2 = (k : Int) := by rw [hk]; rfl
  have hkN : k ≤ N := by omega
  have hkc : k < cap := by omega
  have z1 : (0 : Int) ≤ (k : Int) := by omega
  have z2 : (k : Int) ≤ (N : Int) := by omega
  have z3 : (k : Int) ≤ (cap : Int) := by omega
  have z4 : (N : Int) ≤ (cap : Int) := by omega
  have z5 : ¬ cap = k := by omega
  have z6 : ¬ k = cap := by omega
  clear hk
  clear hC1 hC2 hC3 hG1 hG2 hG3
  go_enter Try.func8, Try.ntmps8
  go_wp2_with fail
  refine Calls.mono (awake_any _) ?_
  rintro e w1 ⟨rfl, hg1⟩
  have HX1 : Hid (PhAt w w1 w.heap.size #[.slice ta tn tc, .slice na nn nc, .slice la ln lc, .int .i64 st, .slice pa n pc]) := HX0.out.kept hg1
  clear hg1 HX0
  have HUP1 : Hid (w1.grownBy w1.drew none) := grown_drewN _ 1
  have HKS1 : Hid (∀ Y, w1.grownBy Y none → (Y.cell? ⟨w.heap.size, 0, none⟩ = some (.slice ta tn tc) ∧ Y.cell? ⟨w.heap.size, 1, none⟩ = some (.slice na nn nc) ∧ Y.cell? ⟨w.heap.size, 2, none⟩ = some (.slice la ln lc) ∧ Y.cell? ⟨w.heap.size, 3, none⟩ = some (.int .i64 st) ∧ Y.cell? ⟨w.heap.size, 4, none⟩ = some (.slice pa n pc))) := fun Y hY => (HX1.out.kept hY).cells
  go_wp2_with fail
  go_region_held3 (fun Y => (Y.cell? ⟨w.heap.size, 0, none⟩ = some (.slice ta tn tc) ∧ Y.cell? ⟨w.heap.size, 1, none⟩ = some (.slice na nn nc) ∧ Y.cell? ⟨w.heap.size, 2, none⟩ = some (.slice la ln lc) ∧ Y.cell? ⟨w.heap.size, 3, none⟩ = some (.int .i64 st) ∧ Y.cell? ⟨w.heap.size, 4, none⟩ = some (.slice pa n pc))) (first | exact HKS1.out _ HUP1.out | exact HKS1.out _ HGa2.out | go_keep)
    ((first
      | (go_at_call 17; refine Calls.mono (HC1.out _ (grown_trans HX1.out.grown HUP1.out)) ?_; rintro e w2 ⟨a2, c2, rfl, ho2, hg2⟩; have HGa2 : Hid (w1.grownBy w2 none) := grown_trans HUP1.out hg2; have HO2 : Hid (w2.ownsRow w.heap.size 49 2 (.slice a2 A.length c2) A.length (itsV A)) := owns_lowJ ho2 (grown_trans HX1.out.grown HUP1.out).size; clear hg2 ho2)
      | fail))
  have HX2 : Hid (PhAt w w2 w.heap.size #[.slice ta tn tc, .slice na nn nc, .slice la ln lc, .int .i64 st, .slice pa n pc]) := HX1.out.kept HGa2.out
  obtain ⟨len2, hl2⟩ : ∃ m, m = A.length := ⟨_, rfl⟩
  have HL2 : Hid (len2 = A.length) := hl2
  rw [← hl2] at HO2
  rw [← hl2]
  clear hl2
  have HUP2 : Hid (w2.grownBy w2.drew none) := grown_drewN _ 1
  have HKS2 : Hid (∀ Y, w2.grownBy Y none → (Y.cell? ⟨w.heap.size, 0, none⟩ = some (.slice ta tn tc) ∧ Y.cell? ⟨w.heap.size, 1, none⟩ = some (.slice na nn nc) ∧ Y.cell? ⟨w.heap.size, 2, none⟩ = some (.slice la ln lc) ∧ Y.cell? ⟨w.heap.size, 3, none⟩ = some (.int .i64 st) ∧ Y.cell? ⟨w.heap.size, 4, none⟩ = some (.slice pa n pc))) := fun Y hY => (HX2.out.kept hY).cells
  go_wp2_with fail
  go_region_held3 (fun Y => (Y.cell? ⟨w.heap.size, 0, none⟩ = some (.slice ta tn tc) ∧ Y.cell? ⟨w.heap.size, 1, none⟩ = some (.slice na nn nc) ∧ Y.cell? ⟨w.heap.size, 2, none⟩ = some (.slice la ln lc) ∧ Y.cell? ⟨w.heap.size, 3, none⟩ = some (.int .i64 st) ∧ Y.cell? ⟨w.heap.size, 4, none⟩ = some (.slice pa n pc))) (first | exact HKS2.out _ HUP2.out | exact HKS2.out _ HGa3.out | go_keep)
    ((first
      | (go_at_call 17; refine Calls.mono (HC2.out _ (grown_trans HX2.out.grown HUP2.out)) ?_; rintro e w3 ⟨a3, c3, rfl, ho3, hg3⟩; have HGa3 : Hid (w2.grownBy w3 none) := grown_trans HUP2.out hg3; have HO3 : Hid (w3.ownsRow w.heap.size 49 2 (.slice a3 B.length c3) B.length (itsV B)) := owns_lowJ ho3 (grown_trans HX2.out.grown HUP2.out).size; clear hg3 ho3)
      | fail))
  have HX3 : Hid (PhAt w w3 w.heap.size #[.slice ta tn tc, .slice na nn nc, .slice la ln lc, .int .i64 st, .slice pa n pc]) := HX2.out.kept HGa3.out
  obtain ⟨len3, hl3⟩ : ∃ m, m = B.length := ⟨_, rfl⟩
  have HL3 : Hid (len3 = B.length) := hl3
  rw [← hl3] at HO3
  rw [← hl3]
  clear hl3
  obtain ⟨k0, k1, k2, k3, k4⟩ := HX3.out.cells
  go_wp2_with fail
  refine Calls.mono (HC3.out _ HX3.out.grown) ?_
  rintro e w4 ⟨a4, c4, rfl, ho4, hg4⟩
  have HGa4 : Hid (w3.grownBy w4 none) := hg4
  have HO4 : Hid (w4.ownsRow w.heap.size 49 2 (.slice a4 C.length c4) C.length (itsV C)) := owns_lowJ ho4 HX3.out.grown.size
  have HX4 : Hid (PhAt w w4 w.heap.size #[.slice ta tn tc, .slice na nn nc, .slice la ln lc, .int .i64 st, .slice pa n pc]) := HX3.out.kept hg4
  clear hg4 ho4 k0 k1 k2 k3 k4
  obtain ⟨len4, hl4⟩ : ∃ m, m = C.length := ⟨_, rfl⟩
  have HL4 : Hid (len4 = C.length) := hl4
  rw [← hl4] at HO4
  rw [← hl4]
  clear hl4
  have HUP4 : Hid (w4.grownBy w4.drew none) := grown_drewN _ 1
  have HKS4 : Hid (∀ Y, w4.grownBy Y none → (Y.cell? ⟨w.heap.size, 0, none⟩ = some (.slice ta tn tc) ∧ Y.cell? ⟨w.heap.size, 1, none⟩ = some (.slice na nn nc) ∧ Y.cell? ⟨w.heap.size, 2, none⟩ = some (.slice la ln lc) ∧ Y.cell? ⟨w.heap.size, 3, none⟩ = some (.int .i64 st) ∧ Y.cell? ⟨w.heap.size, 4, none⟩ = some (.slice pa n pc))) := fun Y hY => (HX4.out.kept hY).cells
  go_wp2_with fail
  go_region_held3 (fun Y => (Y.cell? ⟨w.heap.size, 0, none⟩ = some (.slice ta tn tc) ∧ Y.cell? ⟨w.heap.size, 1, none⟩ = some (.slice na nn nc) ∧ Y.cell? ⟨w.heap.size, 2, none⟩ = some (.slice la ln lc) ∧ Y.cell? ⟨w.heap.size, 3, none⟩ = some (.int .i64 st) ∧ Y.cell? ⟨w.heap.size, 4, none⟩ = some (.slice pa n pc))) (first | exact HKS4.out _ HUP4.out | exact HKS4.out _ HGa5.out | go_keep)
    ((first
      | (go_at_call 19; refine Calls.mono (HG1.out _ (grown_trans HX4.out.grown HUP4.out)) ?_; rintro e w5 ⟨a5, c5, rfl, ho5, hg5⟩; have HGa5 : Hid (w4.grownBy w5 none) := grown_trans HUP4.out hg5; have HO5 : Hid (w5.ownsRow w.heap.size 49 2 (.slice a5 xA.length c5) xA.length (itsV xA)) := owns_lowJ ho5 (grown_trans HX4.out.grown HUP4.out).size; clear hg5 ho5)
      | fail))
  have HX5 : Hid (PhAt w w5 w.heap.size #[.slice ta tn tc, .slice na nn nc, .slice la ln lc, .int .i64 st, .slice pa n pc]) := HX4.out.kept HGa5.out
  obtain ⟨len5, hl5⟩ : ∃ m, m = xA.length := ⟨_, rfl⟩
  have HL5 : Hid (len5 = xA.length) := hl5
  rw [← hl5] at HO5
  rw [← hl5]
  clear hl5
  have HUP5 : Hid (w5.grownBy w5.drew none) := grown_drewN _ 1
  have HKS5 : Hid (∀ Y, w5.grownBy Y none → (Y.cell? ⟨w.heap.size, 0, none⟩ = some (.slice ta tn tc) ∧ Y.cell? ⟨w.heap.size, 1, none⟩ = some (.slice na nn nc) ∧ Y.cell? ⟨w.heap.size, 2, none⟩ = some (.slice la ln lc) ∧ Y.cell? ⟨w.heap.size, 3, none⟩ = some (.int .i64 st) ∧ Y.cell? ⟨w.heap.size, 4, none⟩ = some (.slice pa n pc))) := fun Y hY => (HX5.out.kept hY).cells
  go_wp2_with fail
  go_region_held3 (fun Y => (Y.cell? ⟨w.heap.size, 0, none⟩ = some (.slice ta tn tc) ∧ Y.cell? ⟨w.heap.size, 1, none⟩ = some (.slice na nn nc) ∧ Y.cell? ⟨w.heap.size, 2, none⟩ = some (.slice la ln lc) ∧ Y.cell? ⟨w.heap.size, 3, none⟩ = some (.int .i64 st) ∧ Y.cell? ⟨w.heap.size, 4, none⟩ = some (.slice pa n pc))) (first | exact HKS5.out _ HUP5.out | exact HKS5.out _ HGa6.out | go_keep)
    ((first
      | (go_at_call 19; refine Calls.mono (HG2.out _ (grown_trans HX5.out.grown HUP5.out)) ?_; rintro e w6 ⟨a6, c6, rfl, ho6, hg6⟩; have HGa6 : Hid (w5.grownBy w6 none) := grown_trans HUP5.out hg6; have HO6 : Hid (w6.ownsRow w.heap.size 49 2 (.slice a6 xB.length c6) xB.length (itsV xB)) := owns_lowJ ho6 (grown_trans HX5.out.grown HUP5.out).size; clear hg6 ho6)
      | fail))
  have HX6 : Hid (PhAt w w6 w.heap.size #[.slice ta tn tc, .slice na nn nc, .slice la ln lc, .int .i64 st, .slice pa n pc]) := HX5.out.kept HGa6.out
  obtain ⟨len6, hl6⟩ : ∃ m, m = xB.length := ⟨_, rfl⟩
  have HL6 : Hid (len6 = xB.length) := hl6
  rw [← hl6] at HO6
  rw [← hl6]
  clear hl6
  obtain ⟨k0, k1, k2, k3, k4⟩ := HX6.out.cells
  go_wp2_with fail
  refine Calls.mono (HG3.out _ HX6.out.grown) ?_
  rintro e w7 ⟨a7, c7, rfl, ho7, hg7⟩
  have HGa7 : Hid (w6.grownBy w7 none) := hg7
  have HO7 : Hid (w7.ownsRow w.heap.size 49 2 (.slice a7 xC.length c7) xC.length (itsV xC)) := owns_lowJ ho7 HX6.out.grown.size
  have HX7 : Hid (PhAt w w7 w.heap.size #[.slice ta tn tc, .slice na nn nc, .slice la ln lc, .int .i64 st, .slice pa n pc]) := HX6.out.kept hg7
  clear hg7 ho7 k0 k1 k2 k3 k4
  obtain ⟨len7, hl7⟩ : ∃ m, m = xC.length := ⟨_, rfl⟩
  have HL7 : Hid (len7 = xC.length) := hl7
  rw [← hl7] at HO7
  rw [← hl7]
  clear hl7
  go_wp2_with fail
  go_ret
  exact ⟨rfl, HX7.out.grown⟩

set_option maxRecDepth 100000 in
set_option maxHeartbeats 4000000 in
theorem sums_bad2P (ta na la pa : Option Addr) (tc nc lc pc : Nat) (n : Nat) (st : Int) (w : World) (tn nn ln : Nat) (s : Int) (x : Addr) (cap k N : Nat) (hk : k = N / 2) (hNc : N ≤ cap) (hc0 : 0 < cap) (hNb : N ≤ 8796093022208) (A B C xA xB xC : List It) (i1 l1 : Int)
    (hC1 : ∀ X, w.grownBy X none → Calls Try.prog 17 #[.agg #[.slice ta tn tc, .slice na nn nc, .slice la ln lc, .int .i64 st, .slice pa n pc], .slice (some x) k cap] X fun e y => ItsErr A 0 X e y)
    (hC2 : ∀ X, w.grownBy X none → Calls Try.prog 17 #[.agg #[.slice ta tn tc, .slice na nn nc, .slice la ln lc, .int .i64 st, .slice pa n pc], .slice (some (x.add (k * 2))) (N - k) (cap - k)] X fun e y => ItsErr B 1 X e y)
    (hC3 : ∀ X, w.grownBy X none → Calls Try.prog 17 #[.agg #[.slice ta tn tc, .slice na nn nc, .slice la ln lc, .int .i64 st, .slice pa n pc], .slice (some x) N cap] X fun e y => ItsErr C 1 X e y)
    (hG1 : ∀ X, w.grownBy X none → Calls Try.prog 19 #[.agg #[.slice ta tn tc, .slice na nn nc, .slice la ln lc, .int .i64 st, .slice pa n pc], .int .i64 s, .slice (some x) k cap] X fun e y => ItsErr xA i1 X e y)
    (hG2 : ∀ X, w.grownBy X none → Calls Try.prog 19 #[.agg #[.slice ta tn tc, .slice na nn nc, .slice la ln lc, .int .i64 st, .slice pa n pc], .int .i64 s, .slice (some (x.add (k * 2))) (N - k) (cap - k)] X fun e y => ItsErr xB l1 X e y)
    (hG3 : ∀ X, w.grownBy X none → Calls Try.prog 19 #[.agg #[.slice ta tn tc, .slice na nn nc, .slice la ln lc, .int .i64 st, .slice pa n pc], .int .i64 s, .slice (some x) N cap] X fun e y => ItsErr xC 1 X e y) :
    Calls Try.prog 8 #[.agg #[.slice ta tn tc, .slice na nn nc, .slice la ln lc, .int .i64 st, .slice pa n pc], .int .i64 s, .slice (some x) N cap] w fun e w' => e = .returned (.bool true) ∧ w.grownBy w' none := by
  have HC1 := show Hid _ from hC1
  have HC2 := show Hid _ from hC2
  have HC3 := show Hid _ from hC3
  have HG1 := show Hid _ from hG1
  have HG2 := show Hid _ from hG2
  have HG3 := show Hid _ from hG3
  have HX0 : Hid (PhAt w (w.alloc (.cells #[.slice ta tn tc, .slice na nn nc, .slice la ln lc, .int .i64 st, .slice pa n pc] 27)) w.heap.size #[.slice ta tn tc, .slice na nn nc, .slice la ln lc, .int .i64 st, .slice pa n pc]) := ⟨World.grownBy_alloc _ _ none, heap_alloc_last w _⟩
  have hq : (N : Int).tdiv 2 = (k : Int) := by rw [hk]; rfl
  have hkN : k ≤ N := by omega
  have hkc : k < cap := by omega
  have z1 : (0 : Int) ≤ (k : Int) := by omega
  have z2 : (k : Int) ≤ (N : Int) := by omega
  have z3 : (k : Int) ≤ (cap : Int) := by omega
  have z4 : (N : Int) ≤ (cap : Int) := by omega
  have z5 : ¬ cap = k := by omega
  have z6 : ¬ k = cap := by omega
  clear hk
  clear hC1 hC2 hC3 hG1 hG2 hG3
  go_enter Try.func8, Try.ntmps8
  go_wp2_with fail
  refine Calls.mono (awake_any _) ?_
  rintro e w1 ⟨rfl, hg1⟩
  have HX1 : Hid (PhAt w w1 w.heap.size #[.slice ta tn tc, .slice na nn nc, .slice la ln lc, .int .i64 st, .slice pa n pc]) := HX0.out.kept hg1
  clear hg1 HX0
  have HUP1 : Hid (w1.grownBy w1.drew none) := grown_drewN _ 1
  have HKS1 : Hid (∀ Y, w1.grownBy Y none → (Y.cell? ⟨w.heap.size, 0, none⟩ = some (.slice ta tn tc) ∧ Y.cell? ⟨w.heap.size, 1, none⟩ = some (.slice na nn nc) ∧ Y.cell? ⟨w.heap.size, 2, none⟩ = some (.slice la ln lc) ∧ Y.cell? ⟨w.heap.size, 3, none⟩ = some (.int .i64 st) ∧ Y.cell? ⟨w.heap.size, 4, none⟩ = some (.slice pa n pc))) := fun Y hY => (HX1.out.kept hY).cells
  go_wp2_with fail
  go_region_held3 (fun Y => (Y.cell? ⟨w.heap.size, 0, none⟩ = some (.slice ta tn tc) ∧ Y.cell? ⟨w.heap.size, 1, none⟩ = some (.slice na nn nc) ∧ Y.cell? ⟨w.heap.size, 2, none⟩ = some (.slice la ln lc) ∧ Y.cell? ⟨w.heap.size, 3, none⟩ = some (.int .i64 st) ∧ Y.cell? ⟨w.heap.size, 4, none⟩ = some (.slice pa n pc))) (first | exact HKS1.out _ HUP1.out | exact HKS1.out _ HGa2.out | go_keep)
    ((first
      | (go_at_call 17; refine Calls.mono (HC1.out _ (grown_trans HX1.out.grown HUP1.out)) ?_; rintro e w2 ⟨a2, c2, rfl, ho2, hg2⟩; have HGa2 : Hid (w1.grownBy w2 none) := grown_trans HUP1.out hg2; have HO2 : Hid (w2.ownsRow w.heap.size 49 2 (.slice a2 A.length c2) A.length (itsV A)) := owns_lowJ ho2 (grown_trans HX1.out.grown HUP1.out).size; clear hg2 ho2)
      | fail))
  have HX2 : Hid (PhAt w w2 w.heap.size #[.slice ta tn tc, .slice na nn nc, .slice la ln lc, .int .i64 st, .slice pa n pc]) := HX1.out.kept HGa2.out
  obtain ⟨len2, hl2⟩ : ∃ m, m = A.length := ⟨_, rfl⟩
  have HL2 : Hid (len2 = A.length) := hl2
  rw [← hl2] at HO2
  rw [← hl2]
  clear hl2
  have HUP2 : Hid (w2.grownBy w2.drew none) := grown_drewN _ 1
  have HKS2 : Hid (∀ Y, w2.grownBy Y none → (Y.cell? ⟨w.heap.size, 0, none⟩ = some (.slice ta tn tc) ∧ Y.cell? ⟨w.heap.size, 1, none⟩ = some (.slice na nn nc) ∧ Y.cell? ⟨w.heap.size, 2, none⟩ = some (.slice la ln lc) ∧ Y.cell? ⟨w.heap.size, 3, none⟩ = some (.int .i64 st) ∧ Y.cell? ⟨w.heap.size, 4, none⟩ = some (.slice pa n pc))) := fun Y hY => (HX2.out.kept hY).cells
  go_wp2_with fail
  go_region_held3 (fun Y => (Y.cell? ⟨w.heap.size, 0, none⟩ = some (.slice ta tn tc) ∧ Y.cell? ⟨w.heap.size, 1, none⟩ = some (.slice na nn nc) ∧ Y.cell? ⟨w.heap.size, 2, none⟩ = some (.slice la ln lc) ∧ Y.cell? ⟨w.heap.size, 3, none⟩ = some (.int .i64 st) ∧ Y.cell? ⟨w.heap.size, 4, none⟩ = some (.slice pa n pc))) (first | exact HKS2.out _ HUP2.out | exact HKS2.out _ HGa3.out | go_keep)
    ((first
      | (go_at_call 17; refine Calls.mono (HC2.out _ (grown_trans HX2.out.grown HUP2.out)) ?_; rintro e w3 ⟨a3, c3, rfl, ho3, hg3⟩; have HGa3 : Hid (w2.grownBy w3 none) := grown_trans HUP2.out hg3; have HO3 : Hid (w3.ownsRow w.heap.size 49 2 (.slice a3 B.length c3) B.length (itsV B)) := owns_lowJ ho3 (grown_trans HX2.out.grown HUP2.out).size; clear hg3 ho3)
      | fail))
  have HX3 : Hid (PhAt w w3 w.heap.size #[.slice ta tn tc, .slice na nn nc, .slice la ln lc, .int .i64 st, .slice pa n pc]) := HX2.out.kept HGa3.out
  obtain ⟨len3, hl3⟩ : ∃ m, m = B.length := ⟨_, rfl⟩
  have HL3 : Hid (len3 = B.length) := hl3
  rw [← hl3] at HO3
  rw [← hl3]
  clear hl3
  obtain ⟨k0, k1, k2, k3, k4⟩ := HX3.out.cells
  go_wp2_with fail
  refine Calls.mono (HC3.out _ HX3.out.grown) ?_
  rintro e w4 ⟨a4, c4, rfl, ho4, hg4⟩
  have HGa4 : Hid (w3.grownBy w4 none) := hg4
  have HO4 : Hid (w4.ownsRow w.heap.size 49 2 (.slice a4 C.length c4) C.length (itsV C)) := owns_lowJ ho4 HX3.out.grown.size
  have HX4 : Hid (PhAt w w4 w.heap.size #[.slice ta tn tc, .slice na nn nc, .slice la ln lc, .int .i64 st, .slice pa n pc]) := HX3.out.kept hg4
  clear hg4 ho4 k0 k1 k2 k3 k4
  obtain ⟨len4, hl4⟩ : ∃ m, m = C.length := ⟨_, rfl⟩
  have HL4 : Hid (len4 = C.length) := hl4
  rw [← hl4] at HO4
  rw [← hl4]
  clear hl4
  have HUP4 : Hid (w4.grownBy w4.drew none) := grown_drewN _ 1
  have HKS4 : Hid (∀ Y, w4.grownBy Y none → (Y.cell? ⟨w.heap.size, 0, none⟩ = some (.slice ta tn tc) ∧ Y.cell? ⟨w.heap.size, 1, none⟩ = some (.slice na nn nc) ∧ Y.cell? ⟨w.heap.size, 2, none⟩ = some (.slice la ln lc) ∧ Y.cell? ⟨w.heap.size, 3, none⟩ = some (.int .i64 st) ∧ Y.cell? ⟨w.heap.size, 4, none⟩ = some (.slice pa n pc))) := fun Y hY => (HX4.out.kept hY).cells
  go_wp2_with fail
  go_region_held3 (fun Y => (Y.cell? ⟨w.heap.size, 0, none⟩ = some (.slice ta tn tc) ∧ Y.cell? ⟨w.heap.size, 1, none⟩ = some (.slice na nn nc) ∧ Y.cell? ⟨w.heap.size, 2, none⟩ = some (.slice la ln lc) ∧ Y.cell? ⟨w.heap.size, 3, none⟩ = some (.int .i64 st) ∧ Y.cell? ⟨w.heap.size, 4, none⟩ = some (.slice pa n pc))) (first | exact HKS4.out _ HUP4.out | exact HKS4.out _ HGa5.out | go_keep)
    ((first
      | (go_at_call 19; refine Calls.mono (HG1.out _ (grown_trans HX4.out.grown HUP4.out)) ?_; rintro e w5 ⟨a5, c5, rfl, ho5, hg5⟩; have HGa5 : Hid (w4.grownBy w5 none) := grown_trans HUP4.out hg5; have HO5 : Hid (w5.ownsRow w.heap.size 49 2 (.slice a5 xA.length c5) xA.length (itsV xA)) := owns_lowJ ho5 (grown_trans HX4.out.grown HUP4.out).size; clear hg5 ho5)
      | fail))
  have HX5 : Hid (PhAt w w5 w.heap.size #[.slice ta tn tc, .slice na nn nc, .slice la ln lc, .int .i64 st, .slice pa n pc]) := HX4.out.kept HGa5.out
  obtain ⟨len5, hl5⟩ : ∃ m, m = xA.length := ⟨_, rfl⟩
  have HL5 : Hid (len5 = xA.length) := hl5
  rw [← hl5] at HO5
  rw [← hl5]
  clear hl5
  have HUP5 : Hid (w5.grownBy w5.drew none) := grown_drewN _ 1
  have HKS5 : Hid (∀ Y, w5.grownBy Y none → (Y.cell? ⟨w.heap.size, 0, none⟩ = some (.slice ta tn tc) ∧ Y.cell? ⟨w.heap.size, 1, none⟩ = some (.slice na nn nc) ∧ Y.cell? ⟨w.heap.size, 2, none⟩ = some (.slice la ln lc) ∧ Y.cell? ⟨w.heap.size, 3, none⟩ = some (.int .i64 st) ∧ Y.cell? ⟨w.heap.size, 4, none⟩ = some (.slice pa n pc))) := fun Y hY => (HX5.out.kept hY).cells
  go_wp2_with fail
  go_region_held3 (fun Y => (Y.cell? ⟨w.heap.size, 0, none⟩ = some (.slice ta tn tc) ∧ Y.cell? ⟨w.heap.size, 1, none⟩ = some (.slice na nn nc) ∧ Y.cell? ⟨w.heap.size, 2, none⟩ = some (.slice la ln lc) ∧ Y.cell? ⟨w.heap.size, 3, none⟩ = some (.int .i64 st) ∧ Y.cell? ⟨w.heap.size, 4, none⟩ = some (.slice pa n pc))) (first | exact HKS5.out _ HUP5.out | exact HKS5.out _ HGa6.out | go_keep)
    ((first
      | (go_at_call 19; refine Calls.mono (HG2.out _ (grown_trans HX5.out.grown HUP5.out)) ?_; rintro e w6 ⟨a6, c6, rfl, ho6, hg6⟩; have HGa6 : Hid (w5.grownBy w6 none) := grown_trans HUP5.out hg6; have HO6 : Hid (w6.ownsRow w.heap.size 49 2 (.slice a6 xB.length c6) xB.length (itsV xB)) := owns_lowJ ho6 (grown_trans HX5.out.grown HUP5.out).size; clear hg6 ho6)
      | fail))
  have HX6 : Hid (PhAt w w6 w.heap.size #[.slice ta tn tc, .slice na nn nc, .slice la ln lc, .int .i64 st, .slice pa n pc]) := HX5.out.kept HGa6.out
  obtain ⟨len6, hl6⟩ : ∃ m, m = xB.length := ⟨_, rfl⟩
  have HL6 : Hid (len6 = xB.length) := hl6
  rw [← hl6] at HO6
  rw [← hl6]
  clear hl6
  obtain ⟨k0, k1, k2, k3, k4⟩ := HX6.out.cells
  go_wp2_with fail
  refine Calls.mono (HG3.out _ HX6.out.grown) ?_
  rintro e w7 ⟨a7, c7, rfl, ho7, hg7⟩
  have HGa7 : Hid (w6.grownBy w7 none) := hg7
  have HO7 : Hid (w7.ownsRow w.heap.size 49 2 (.slice a7 xC.length c7) xC.length (itsV xC)) := owns_lowJ ho7 HX6.out.grown.size
  have HX7 : Hid (PhAt w w7 w.heap.size #[.slice ta tn tc, .slice na nn nc, .slice la ln lc, .int .i64 st, .slice pa n pc]) := HX6.out.kept hg7
  clear hg7 ho7 k0 k1 k2 k3 k4
  obtain ⟨len7, hl7⟩ : ∃ m, m = xC.length := ⟨_, rfl⟩
  have HL7 : Hid (len7 = xC.length) := hl7
  rw [← hl7] at HO7
  rw [← hl7]
  clear hl7
  go_wp2_with fail
  go_ret
  exact ⟨rfl, HX7.out.grown⟩

set_option maxRecDepth 100000 in
set_option maxHeartbeats 4000000 in
theorem sums_bad1Z (ta na la pa : Option Addr) (tc nc lc pc : Nat) (n : Nat) (st : Int) (w : World) (tn nn ln : Nat) (s : Int) (aZ : Option Addr) (A B C xA xB xC : List It) (f1 i1 l1 : Int)
    (hC1 : ∀ X, w.grownBy X none → Calls Try.prog 17 #[.agg #[.slice ta tn tc, .slice na nn nc, .slice la ln lc, .int .i64 st, .slice pa n pc], .slice aZ 0 0] X fun e y => ItsErr A 1 X e y)
    (hC2 : ∀ X, w.grownBy X none → Calls Try.prog 17 #[.agg #[.slice ta tn tc, .slice na nn nc, .slice la ln lc, .int .i64 st, .slice pa n pc], .slice aZ 0 0] X fun e y => ItsErr B f1 X e y)
    (hC3 : ∀ X, w.grownBy X none → Calls Try.prog 17 #[.agg #[.slice ta tn tc, .slice na nn nc, .slice la ln lc, .int .i64 st, .slice pa n pc], .slice aZ 0 0] X fun e y => ItsErr C 1 X e y)
    (hG1 : ∀ X, w.grownBy X none → Calls Try.prog 19 #[.agg #[.slice ta tn tc, .slice na nn nc, .slice la ln lc, .int .i64 st, .slice pa n pc], .int .i64 s, .slice aZ 0 0] X fun e y => ItsErr xA i1 X e y)
    (hG2 : ∀ X, w.grownBy X none → Calls Try.prog 19 #[.agg #[.slice ta tn tc, .slice na nn nc, .slice la ln lc, .int .i64 st, .slice pa n pc], .int .i64 s, .slice aZ 0 0] X fun e y => ItsErr xB l1 X e y)
    (hG3 : ∀ X, w.grownBy X none → Calls Try.prog 19 #[.agg #[.slice ta tn tc, .slice na nn nc, .slice la ln lc, .int .i64 st, .slice pa n pc], .int .i64 s, .slice aZ 0 0] X fun e y => ItsErr xC 1 X e y) :
    Calls Try.prog 8 #[.agg #[.slice ta tn tc, .slice na nn nc, .slice la ln lc, .int .i64 st, .slice pa n pc], .int .i64 s, .slice aZ 0 0] w fun e w' => e = .returned (.bool true) ∧ w.grownBy w' none := by
  have HC1 := show Hid _ from hC1
  have HC2 := show Hid _ from hC2
  have HC3 := show Hid _ from hC3
  have HG1 := show Hid _ from hG1
  have HG2 := show Hid _ from hG2
  have HG3 := show Hid _ from hG3
  have HX0 : Hid (PhAt w (w.alloc (.cells #[.slice ta tn tc, .slice na nn nc, .slice la ln lc, .int .i64 st, .slice pa n pc] 27)) w.heap.size #[.slice ta tn tc, .slice na nn nc, .slice la ln lc, .int .i64 st, .slice pa n pc]) := ⟨World.grownBy_alloc _ _ none, heap_alloc_last w _⟩
  clear hC1 hC2 hC3 hG1 hG2 hG3
  go_enter Try.func8, Try.ntmps8
  go_wp2_with fail
  refine Calls.mono (awake_any _) ?_
  rintro e w1 ⟨rfl, hg1⟩
  have HX1 : Hid (PhAt w w1 w.heap.size #[.slice ta tn tc, .slice na nn nc, .slice la ln lc, .int .i64 st, .slice pa n pc]) := HX0.out.kept hg1
  clear hg1 HX0
  have HUP1 : Hid (w1.grownBy w1.drew none) := grown_drewN _ 1
  have HKS1 : Hid (∀ Y, w1.grownBy Y none → (Y.cell? ⟨w.heap.size, 0, none⟩ = some (.slice ta tn tc) ∧ Y.cell? ⟨w.heap.size, 1, none⟩ = some (.slice na nn nc) ∧ Y.cell? ⟨w.heap.size, 2, none⟩ = some (.slice la ln lc) ∧ Y.cell? ⟨w.heap.size, 3, none⟩ = some (.int .i64 st) ∧ Y.cell? ⟨w.heap.size, 4, none⟩ = some (.slice pa n pc))) := fun Y hY => (HX1.out.kept hY).cells
  go_wp2_with fail
  go_region_held3 (fun Y => (Y.cell? ⟨w.heap.size, 0, none⟩ = some (.slice ta tn tc) ∧ Y.cell? ⟨w.heap.size, 1, none⟩ = some (.slice na nn nc) ∧ Y.cell? ⟨w.heap.size, 2, none⟩ = some (.slice la ln lc) ∧ Y.cell? ⟨w.heap.size, 3, none⟩ = some (.int .i64 st) ∧ Y.cell? ⟨w.heap.size, 4, none⟩ = some (.slice pa n pc))) (first | exact HKS1.out _ HUP1.out | exact HKS1.out _ HGa2.out | go_keep)
    ((first
      | (go_at_call 17; refine Calls.mono (HC1.out _ (grown_trans HX1.out.grown HUP1.out)) ?_; rintro e w2 ⟨a2, c2, rfl, ho2, hg2⟩; have HGa2 : Hid (w1.grownBy w2 none) := grown_trans HUP1.out hg2; have HO2 : Hid (w2.ownsRow w.heap.size 49 2 (.slice a2 A.length c2) A.length (itsV A)) := owns_lowJ ho2 (grown_trans HX1.out.grown HUP1.out).size; clear hg2 ho2)
      | fail))
  have HX2 : Hid (PhAt w w2 w.heap.size #[.slice ta tn tc, .slice na nn nc, .slice la ln lc, .int .i64 st, .slice pa n pc]) := HX1.out.kept HGa2.out
  obtain ⟨len2, hl2⟩ : ∃ m, m = A.length := ⟨_, rfl⟩
  have HL2 : Hid (len2 = A.length) := hl2
  rw [← hl2] at HO2
  rw [← hl2]
  clear hl2
  have HUP2 : Hid (w2.grownBy w2.drew none) := grown_drewN _ 1
  have HKS2 : Hid (∀ Y, w2.grownBy Y none → (Y.cell? ⟨w.heap.size, 0, none⟩ = some (.slice ta tn tc) ∧ Y.cell? ⟨w.heap.size, 1, none⟩ = some (.slice na nn nc) ∧ Y.cell? ⟨w.heap.size, 2, none⟩ = some (.slice la ln lc) ∧ Y.cell? ⟨w.heap.size, 3, none⟩ = some (.int .i64 st) ∧ Y.cell? ⟨w.heap.size, 4, none⟩ = some (.slice pa n pc))) := fun Y hY => (HX2.out.kept hY).cells
  go_wp2_with fail
  go_region_held3 (fun Y => (Y.cell? ⟨w.heap.size, 0, none⟩ = some (.slice ta tn tc) ∧ Y.cell? ⟨w.heap.size, 1, none⟩ = some (.slice na nn nc) ∧ Y.cell? ⟨w.heap.size, 2, none⟩ = some (.slice la ln lc) ∧ Y.cell? ⟨w.heap.size, 3, none⟩ = some (.int .i64 st) ∧ Y.cell? ⟨w.heap.size, 4, none⟩ = some (.slice pa n pc))) (first | exact HKS2.out _ HUP2.out | exact HKS2.out _ HGa3.out | go_keep)
    ((first
      | (go_at_call 17; refine Calls.mono (HC2.out _ (grown_trans HX2.out.grown HUP2.out)) ?_; rintro e w3 ⟨a3, c3, rfl, ho3, hg3⟩; have HGa3 : Hid (w2.grownBy w3 none) := grown_trans HUP2.out hg3; have HO3 : Hid (w3.ownsRow w.heap.size 49 2 (.slice a3 B.length c3) B.length (itsV B)) := owns_lowJ ho3 (grown_trans HX2.out.grown HUP2.out).size; clear hg3 ho3)
      | fail))
  have HX3 : Hid (PhAt w w3 w.heap.size #[.slice ta tn tc, .slice na nn nc, .slice la ln lc, .int .i64 st, .slice pa n pc]) := HX2.out.kept HGa3.out
  obtain ⟨len3, hl3⟩ : ∃ m, m = B.length := ⟨_, rfl⟩
  have HL3 : Hid (len3 = B.length) := hl3
  rw [← hl3] at HO3
  rw [← hl3]
  clear hl3
  obtain ⟨k0, k1, k2, k3, k4⟩ := HX3.out.cells
  go_wp2_with fail
  refine Calls.mono (HC3.out _ HX3.out.grown) ?_
  rintro e w4 ⟨a4, c4, rfl, ho4, hg4⟩
  have HGa4 : Hid (w3.grownBy w4 none) := hg4
  have HO4 : Hid (w4.ownsRow w.heap.size 49 2 (.slice a4 C.length c4) C.length (itsV C)) := owns_lowJ ho4 HX3.out.grown.size
  have HX4 : Hid (PhAt w w4 w.heap.size #[.slice ta tn tc, .slice na nn nc, .slice la ln lc, .int .i64 st, .slice pa n pc]) := HX3.out.kept hg4
  clear hg4 ho4 k0 k1 k2 k3 k4
  obtain ⟨len4, hl4⟩ : ∃ m, m = C.length := ⟨_, rfl⟩
  have HL4 : Hid (len4 = C.length) := hl4
  rw [← hl4] at HO4
  rw [← hl4]
  clear hl4
  have HUP4 : Hid (w4.grownBy w4.drew none) := grown_drewN _ 1
  have HKS4 : Hid (∀ Y, w4.grownBy Y none → (Y.cell? ⟨w.heap.size, 0, none⟩ = some (.slice ta tn tc) ∧ Y.cell? ⟨w.heap.size, 1, none⟩ = some (.slice na nn nc) ∧ Y.cell? ⟨w.heap.size, 2, none⟩ = some (.slice la ln lc) ∧ Y.cell? ⟨w.heap.size, 3, none⟩ = some (.int .i64 st) ∧ Y.cell? ⟨w.heap.size, 4, none⟩ = some (.slice pa n pc))) := fun Y hY => (HX4.out.kept hY).cells
  go_wp2_with fail
  go_region_held3 (fun Y => (Y.cell? ⟨w.heap.size, 0, none⟩ = some (.slice ta tn tc) ∧ Y.cell? ⟨w.heap.size, 1, none⟩ = some (.slice na nn nc) ∧ Y.cell? ⟨w.heap.size, 2, none⟩ = some (.slice la ln lc) ∧ Y.cell? ⟨w.heap.size, 3, none⟩ = some (.int .i64 st) ∧ Y.cell? ⟨w.heap.size, 4, none⟩ = some (.slice pa n pc))) (first | exact HKS4.out _ HUP4.out | exact HKS4.out _ HGa5.out | go_keep)
    ((first
      | (go_at_call 19; refine Calls.mono (HG1.out _ (grown_trans HX4.out.grown HUP4.out)) ?_; rintro e w5 ⟨a5, c5, rfl, ho5, hg5⟩; have HGa5 : Hid (w4.grownBy w5 none) := grown_trans HUP4.out hg5; have HO5 : Hid (w5.ownsRow w.heap.size 49 2 (.slice a5 xA.length c5) xA.length (itsV xA)) := owns_lowJ ho5 (grown_trans HX4.out.grown HUP4.out).size; clear hg5 ho5)
      | fail))
  have HX5 : Hid (PhAt w w5 w.heap.size #[.slice ta tn tc, .slice na nn nc, .slice la ln lc, .int .i64 st, .slice pa n pc]) := HX4.out.kept HGa5.out
  obtain ⟨len5, hl5⟩ : ∃ m, m = xA.length := ⟨_, rfl⟩
  have HL5 : Hid (len5 = xA.length) := hl5
  rw [← hl5] at HO5
  rw [← hl5]
  clear hl5
  have HUP5 : Hid (w5.grownBy w5.drew none) := grown_drewN _ 1
  have HKS5 : Hid (∀ Y, w5.grownBy Y none → (Y.cell? ⟨w.heap.size, 0, none⟩ = some (.slice ta tn tc) ∧ Y.cell? ⟨w.heap.size, 1, none⟩ = some (.slice na nn nc) ∧ Y.cell? ⟨w.heap.size, 2, none⟩ = some (.slice la ln lc) ∧ Y.cell? ⟨w.heap.size, 3, none⟩ = some (.int .i64 st) ∧ Y.cell? ⟨w.heap.size, 4, none⟩ = some (.slice pa n pc))) := fun Y hY => (HX5.out.kept hY).cells
  go_wp2_with fail
  go_region_held3 (fun Y => (Y.cell? ⟨w.heap.size, 0, none⟩ = some (.slice ta tn tc) ∧ Y.cell? ⟨w.heap.size, 1, none⟩ = some (.slice na nn nc) ∧ Y.cell? ⟨w.heap.size, 2, none⟩ = some (.slice la ln lc) ∧ Y.cell? ⟨w.heap.size, 3, none⟩ = some (.int .i64 st) ∧ Y.cell? ⟨w.heap.size, 4, none⟩ = some (.slice pa n pc))) (first | exact HKS5.out _ HUP5.out | exact HKS5.out _ HGa6.out | go_keep)
    ((first
      | (go_at_call 19; refine Calls.mono (HG2.out _ (grown_trans HX5.out.grown HUP5.out)) ?_; rintro e w6 ⟨a6, c6, rfl, ho6, hg6⟩; have HGa6 : Hid (w5.grownBy w6 none) := grown_trans HUP5.out hg6; have HO6 : Hid (w6.ownsRow w.heap.size 49 2 (.slice a6 xB.length c6) xB.length (itsV xB)) := owns_lowJ ho6 (grown_trans HX5.out.grown HUP5.out).size; clear hg6 ho6)
      | fail))
  have HX6 : Hid (PhAt w w6 w.heap.size #[.slice ta tn tc, .slice na nn nc, .slice la ln lc, .int .i64 st, .slice pa n pc]) := HX5.out.kept HGa6.out
  obtain ⟨len6, hl6⟩ : ∃ m, m = xB.length := ⟨_, rfl⟩
  have HL6 : Hid (len6 = xB.length) := hl6
  rw [← hl6] at HO6
  rw [← hl6]
  clear hl6
  obtain ⟨k0, k1, k2, k3, k4⟩ := HX6.out.cells
  go_wp2_with fail
  refine Calls.mono (HG3.out _ HX6.out.grown) ?_
  rintro e w7 ⟨a7, c7, rfl, ho7, hg7⟩
  have HGa7 : Hid (w6.grownBy w7 none) := hg7
  have HO7 : Hid (w7.ownsRow w.heap.size 49 2 (.slice a7 xC.length c7) xC.length (itsV xC)) := owns_lowJ ho7 HX6.out.grown.size
  have HX7 : Hid (PhAt w w7 w.heap.size #[.slice ta tn tc, .slice na nn nc, .slice la ln lc, .int .i64 st, .slice pa n pc]) := HX6.out.kept hg7
  clear hg7 ho7 k0 k1 k2 k3 k4
  obtain ⟨len7, hl7⟩ : ∃ m, m = xC.length := ⟨_, rfl⟩
  have HL7 : Hid (len7 = xC.length) := hl7
  rw [← hl7] at HO7
  rw [← hl7]
  clear hl7
  go_wp2_with fail
  go_ret
  exact ⟨rfl, HX7.out.grown⟩

set_option maxRecDepth 100000 in
set_option maxHeartbeats 4000000 in
theorem sums_bad2Z (ta na la pa : Option Addr) (tc nc lc pc : Nat) (n : Nat) (st : Int) (w : World) (tn nn ln : Nat) (s : Int) (aZ : Option Addr) (A B C xA xB xC : List It) (i1 l1 : Int)
    (hC1 : ∀ X, w.grownBy X none → Calls Try.prog 17 #[.agg #[.slice ta tn tc, .slice na nn nc, .slice la ln lc, .int .i64 st, .slice pa n pc], .slice aZ 0 0] X fun e y => ItsErr A 0 X e y)
    (hC2 : ∀ X, w.grownBy X none → Calls Try.prog 17 #[.agg #[.slice ta tn tc, .slice na nn nc, .slice la ln lc, .int .i64 st, .slice pa n pc], .slice aZ 0 0] X fun e y => ItsErr B 1 X e y)
    (hC3 : ∀ X, w.grownBy X none → Calls Try.prog 17 #[.agg #[.slice ta tn tc, .slice na nn nc, .slice la ln lc, .int .i64 st, .slice pa n pc], .slice aZ 0 0] X fun e y => ItsErr C 1 X e y)
    (hG1 : ∀ X, w.grownBy X none → Calls Try.prog 19 #[.agg #[.slice ta tn tc, .slice na nn nc, .slice la ln lc, .int .i64 st, .slice pa n pc], .int .i64 s, .slice aZ 0 0] X fun e y => ItsErr xA i1 X e y)
    (hG2 : ∀ X, w.grownBy X none → Calls Try.prog 19 #[.agg #[.slice ta tn tc, .slice na nn nc, .slice la ln lc, .int .i64 st, .slice pa n pc], .int .i64 s, .slice aZ 0 0] X fun e y => ItsErr xB l1 X e y)
    (hG3 : ∀ X, w.grownBy X none → Calls Try.prog 19 #[.agg #[.slice ta tn tc, .slice na nn nc, .slice la ln lc, .int .i64 st, .slice pa n pc], .int .i64 s, .slice aZ 0 0] X fun e y => ItsErr xC 1 X e y) :
    Calls Try.prog 8 #[.agg #[.slice ta tn tc, .slice na nn nc, .slice la ln lc, .int .i64 st, .slice pa n pc], .int .i64 s, .slice aZ 0 0] w fun e w' => e = .returned (.bool true) ∧ w.grownBy w' none := by
  have HC1 := show Hid _ from hC1
  have HC2 := show Hid _ from hC2
  have HC3 := show Hid _ from hC3
  have HG1 := show Hid _ from hG1
  have HG2 := show Hid _ from hG2
  have HG3 := show Hid _ from hG3
  have HX0 : Hid (PhAt w (w.alloc (.cells #[.slice ta tn tc, .slice na nn nc, .slice la ln lc, .int .i64 st, .slice pa n pc] 27)) w.heap.size #[.slice ta tn tc, .slice na nn nc, .slice la ln lc, .int .i64 st, .slice pa n pc]) := ⟨World.grownBy_alloc _ _ none, heap_alloc_last w _⟩
  clear hC1 hC2 hC3 hG1 hG2 hG3
  go_enter Try.func8, Try.ntmps8
  go_wp2_with fail
  refine Calls.mono (awake_any _) ?_
  rintro e w1 ⟨rfl, hg1⟩
  have HX1 : Hid (PhAt w w1 w.heap.size #[.slice ta tn tc, .slice na nn nc, .slice la ln lc, .int .i64 st, .slice pa n pc]) := HX0.out.kept hg1
  clear hg1 HX0
  have HUP1 : Hid (w1.grownBy w1.drew none) := grown_drewN _ 1
  have HKS1 : Hid (∀ Y, w1.grownBy Y none → (Y.cell? ⟨w.heap.size, 0, none⟩ = some (.slice ta tn tc) ∧ Y.cell? ⟨w.heap.size, 1, none⟩ = some (.slice na nn nc) ∧ Y.cell? ⟨w.heap.size, 2, none⟩ = some (.slice la ln lc) ∧ Y.cell? ⟨w.heap.size, 3, none⟩ = some (.int .i64 st) ∧ Y.cell? ⟨w.heap.size, 4, none⟩ = some (.slice pa n pc))) := fun Y hY => (HX1.out.kept hY).cells
  go_wp2_with fail
  go_region_held3 (fun Y => (Y.cell? ⟨w.heap.size, 0, none⟩ = some (.slice ta tn tc) ∧ Y.cell? ⟨w.heap.size, 1, none⟩ = some (.slice na nn nc) ∧ Y.cell? ⟨w.heap.size, 2, none⟩ = some (.slice la ln lc) ∧ Y.cell? ⟨w.heap.size, 3, none⟩ = some (.int .i64 st) ∧ Y.cell? ⟨w.heap.size, 4, none⟩ = some (.slice pa n pc))) (first | exact HKS1.out _ HUP1.out | exact HKS1.out _ HGa2.out | go_keep)
    ((first
      | (go_at_call 17; refine Calls.mono (HC1.out _ (grown_trans HX1.out.grown HUP1.out)) ?_; rintro e w2 ⟨a2, c2, rfl, ho2, hg2⟩; have HGa2 : Hid (w1.grownBy w2 none) := grown_trans HUP1.out hg2; have HO2 : Hid (w2.ownsRow w.heap.size 49 2 (.slice a2 A.length c2) A.length (itsV A)) := owns_lowJ ho2 (grown_trans HX1.out.grown HUP1.out).size; clear hg2 ho2)
      | fail))
  have HX2 : Hid (PhAt w w2 w.heap.size #[.slice ta tn tc, .slice na nn nc, .slice la ln lc, .int .i64 st, .slice pa n pc]) := HX1.out.kept HGa2.out
  obtain ⟨len2, hl2⟩ : ∃ m, m = A.length := ⟨_, rfl⟩
  have HL2 : Hid (len2 = A.length) := hl2
  rw [← hl2] at HO2
  rw [← hl2]
  clear hl2
  have HUP2 : Hid (w2.grownBy w2.drew none) := grown_drewN _ 1
  have HKS2 : Hid (∀ Y, w2.grownBy Y none → (Y.cell? ⟨w.heap.size, 0, none⟩ = some (.slice ta tn tc) ∧ Y.cell? ⟨w.heap.size, 1, none⟩ = some (.slice na nn nc) ∧ Y.cell? ⟨w.heap.size, 2, none⟩ = some (.slice la ln lc) ∧ Y.cell? ⟨w.heap.size, 3, none⟩ = some (.int .i64 st) ∧ Y.cell? ⟨w.heap.size, 4, none⟩ = some (.slice pa n pc))) := fun Y hY => (HX2.out.kept hY).cells
  go_wp2_with fail
  go_region_held3 (fun Y => (Y.cell? ⟨w.heap.size, 0, none⟩ = some (.slice ta tn tc) ∧ Y.cell? ⟨w.heap.size, 1, none⟩ = some (.slice na nn nc) ∧ Y.cell? ⟨w.heap.size, 2, none⟩ = some (.slice la ln lc) ∧ Y.cell? ⟨w.heap.size, 3, none⟩ = some (.int .i64 st) ∧ Y.cell? ⟨w.heap.size, 4, none⟩ = some (.slice pa n pc))) (first | exact HKS2.out _ HUP2.out | exact HKS2.out _ HGa3.out | go_keep)
    ((first
      | (go_at_call 17; refine Calls.mono (HC2.out _ (grown_trans HX2.out.grown HUP2.out)) ?_; rintro e w3 ⟨a3, c3, rfl, ho3, hg3⟩; have HGa3 : Hid (w2.grownBy w3 none) := grown_trans HUP2.out hg3; have HO3 : Hid (w3.ownsRow w.heap.size 49 2 (.slice a3 B.length c3) B.length (itsV B)) := owns_lowJ ho3 (grown_trans HX2.out.grown HUP2.out).size; clear hg3 ho3)
      | fail))
  have HX3 : Hid (PhAt w w3 w.heap.size #[.slice ta tn tc, .slice na nn nc, .slice la ln lc, .int .i64 st, .slice pa n pc]) := HX2.out.kept HGa3.out
  obtain ⟨len3, hl3⟩ : ∃ m, m = B.length := ⟨_, rfl⟩
  have HL3 : Hid (len3 = B.length) := hl3
  rw [← hl3] at HO3
  rw [← hl3]
  clear hl3
  obtain ⟨k0, k1, k2, k3, k4⟩ := HX3.out.cells
  go_wp2_with fail
  refine Calls.mono (HC3.out _ HX3.out.grown) ?_
  rintro e w4 ⟨a4, c4, rfl, ho4, hg4⟩
  have HGa4 : Hid (w3.grownBy w4 none) := hg4
  have HO4 : Hid (w4.ownsRow w.heap.size 49 2 (.slice a4 C.length c4) C.length (itsV C)) := owns_lowJ ho4 HX3.out.grown.size
  have HX4 : Hid (PhAt w w4 w.heap.size #[.slice ta tn tc, .slice na nn nc, .slice la ln lc, .int .i64 st, .slice pa n pc]) := HX3.out.kept hg4
  clear hg4 ho4 k0 k1 k2 k3 k4
  obtain ⟨len4, hl4⟩ : ∃ m, m = C.length := ⟨_, rfl⟩
  have HL4 : Hid (len4 = C.length) := hl4
  rw [← hl4] at HO4
  rw [← hl4]
  clear hl4
  have HUP4 : Hid (w4.grownBy w4.drew none) := grown_drewN _ 1
  have HKS4 : Hid (∀ Y, w4.grownBy Y none → (Y.cell? ⟨w.heap.size, 0, none⟩ = some (.slice ta tn tc) ∧ Y.cell? ⟨w.heap.size, 1, none⟩ = some (.slice na nn nc) ∧ Y.cell? ⟨w.heap.size, 2, none⟩ = some (.slice la ln lc) ∧ Y.cell? ⟨w.heap.size, 3, none⟩ = some (.int .i64 st) ∧ Y.cell? ⟨w.heap.size, 4, none⟩ = some (.slice pa n pc))) := fun Y hY => (HX4.out.kept hY).cells
  go_wp2_with fail
  go_region_held3 (fun Y => (Y.cell? ⟨w.heap.size, 0, none⟩ = some (.slice ta tn tc) ∧ Y.cell? ⟨w.heap.size, 1, none⟩ = some (.slice na nn nc) ∧ Y.cell? ⟨w.heap.size, 2, none⟩ = some (.slice la ln lc) ∧ Y.cell? ⟨w.heap.size, 3, none⟩ = some (.int .i64 st) ∧ Y.cell? ⟨w.heap.size, 4, none⟩ = some (.slice pa n pc))) (first | exact HKS4.out _ HUP4.out | exact HKS4.out _ HGa5.out | go_keep)
    ((first
      | (go_at_call 19; refine Calls.mono (HG1.out _ (grown_trans HX4.out.grown HUP4.out)) ?_; rintro e w5 ⟨a5, c5, rfl, ho5, hg5⟩; have HGa5 : Hid (w4.grownBy w5 none) := grown_trans HUP4.out hg5; have HO5 : Hid (w5.ownsRow w.heap.size 49 2 (.slice a5 xA.length c5) xA.length (itsV xA)) := owns_lowJ ho5 (grown_trans HX4.out.grown HUP4.out).size; clear hg5 ho5)
      | fail))
  have HX5 : Hid (PhAt w w5 w.heap.size #[.slice ta tn tc, .slice na nn nc, .slice la ln lc, .int .i64 st, .slice pa n pc]) := HX4.out.kept HGa5.out
  obtain ⟨len5, hl5⟩ : ∃ m, m = xA.length := ⟨_, rfl⟩
  have HL5 : Hid (len5 = xA.length) := hl5
  rw [← hl5] at HO5
  rw [← hl5]
  clear hl5
  have HUP5 : Hid (w5.grownBy w5.drew none) := grown_drewN _ 1
  have HKS5 : Hid (∀ Y, w5.grownBy Y none → (Y.cell? ⟨w.heap.size, 0, none⟩ = some (.slice ta tn tc) ∧ Y.cell? ⟨w.heap.size, 1, none⟩ = some (.slice na nn nc) ∧ Y.cell? ⟨w.heap.size, 2, none⟩ = some (.slice la ln lc) ∧ Y.cell? ⟨w.heap.size, 3, none⟩ = some (.int .i64 st) ∧ Y.cell? ⟨w.heap.size, 4, none⟩ = some (.slice pa n pc))) := fun Y hY => (HX5.out.kept hY).cells
  go_wp2_with fail
  go_region_held3 (fun Y => (Y.cell? ⟨w.heap.size, 0, none⟩ = some (.slice ta tn tc) ∧ Y.cell? ⟨w.heap.size, 1, none⟩ = some (.slice na nn nc) ∧ Y.cell? ⟨w.heap.size, 2, none⟩ = some (.slice la ln lc) ∧ Y.cell? ⟨w.heap.size, 3, none⟩ = some (.int .i64 st) ∧ Y.cell? ⟨w.heap.size, 4, none⟩ = some (.slice pa n pc))) (first | exact HKS5.out _ HUP5.out | exact HKS5.out _ HGa6.out | go_keep)
    ((first
      | (go_at_call 19; refine Calls.mono (HG2.out _ (grown_trans HX5.out.grown HUP5.out)) ?_; rintro e w6 ⟨a6, c6, rfl, ho6, hg6⟩; have HGa6 : Hid (w5.grownBy w6 none) := grown_trans HUP5.out hg6; have HO6 : Hid (w6.ownsRow w.heap.size 49 2 (.slice a6 xB.length c6) xB.length (itsV xB)) := owns_lowJ ho6 (grown_trans HX5.out.grown HUP5.out).size; clear hg6 ho6)
      | fail))
  have HX6 : Hid (PhAt w w6 w.heap.size #[.slice ta tn tc, .slice na nn nc, .slice la ln lc, .int .i64 st, .slice pa n pc]) := HX5.out.kept HGa6.out
  obtain ⟨len6, hl6⟩ : ∃ m, m = xB.length := ⟨_, rfl⟩
  have HL6 : Hid (len6 = xB.length) := hl6
  rw [← hl6] at HO6
  rw [← hl6]
  clear hl6
  obtain ⟨k0, k1, k2, k3, k4⟩ := HX6.out.cells
  go_wp2_with fail
  refine Calls.mono (HG3.out _ HX6.out.grown) ?_
  rintro e w7 ⟨a7, c7, rfl, ho7, hg7⟩
  have HGa7 : Hid (w6.grownBy w7 none) := hg7
  have HO7 : Hid (w7.ownsRow w.heap.size 49 2 (.slice a7 xC.length c7) xC.length (itsV xC)) := owns_lowJ ho7 HX6.out.grown.size
  have HX7 : Hid (PhAt w w7 w.heap.size #[.slice ta tn tc, .slice na nn nc, .slice la ln lc, .int .i64 st, .slice pa n pc]) := HX6.out.kept hg7
  clear hg7 ho7 k0 k1 k2 k3 k4
  obtain ⟨len7, hl7⟩ : ∃ m, m = xC.length := ⟨_, rfl⟩
  have HL7 : Hid (len7 = xC.length) := hl7
  rw [← hl7] at HO7
  rw [← hl7]
  clear hl7
  go_wp2_with fail
  go_ret
  exact ⟨rfl, HX7.out.grown⟩

end Go.Proofs.Ytgpmmhkdpjlimaa.J
