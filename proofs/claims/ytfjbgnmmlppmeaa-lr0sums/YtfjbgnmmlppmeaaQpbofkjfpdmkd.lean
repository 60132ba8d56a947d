import Derived.Test.YtfjbgnmmlppmeaaQopjpmhnibkdd
import Derived.Test.YtfjbgnmmlppmeaaQmcgnoklfaege

/-
  lr0: the law Lr0Sums, where all is well.
-/
namespace Go.Proofs.Ytfjbgnmmlppmeaa.J
open Go.RowKit Go.Maps Go.Shelf

attribute [local go_sem] Oper.semAt_some

set_option maxRecDepth 100000 in
set_option maxHeartbeats 4000000 in
theorem sums_okokP (ta na la pa : Option Addr) (tc nc lc pc : Nat) (n : Nat) (st : Int) (w : World) (tn nn ln : Nat) (s : Int) (x : Addr) (cap k N : Nat) (hk : k = N / 2) (hNc : N ≤ cap) (hc0 : 0 < cap) (hNb : N ≤ 8796093022208) (A B C xA xB xC : List It) (hAB : A.length + B.length ≤ 8796093062208) (hCl : C.length ≤ 8796093062208) (hS1 : ∀ l', Asc l' → (∀ x, x ∈ l' ↔ x ∈ A ++ B) → l' = C) (hXY : xA.length + xB.length ≤ 8796093062208) (hXl : xC.length ≤ 8796093062208) (hS2 : ∀ l', Asc l' → (∀ x, x ∈ l' ↔ x ∈ xA ++ xB) → l' = xC) 
    (hC1 : ∀ X, w.grownBy X none → Calls Try.prog 17 #[.agg #[.slice ta tn tc, .slice na nn nc, .slice la ln lc, .int .i64 st, .slice pa n pc], .slice (some x) k cap] X fun e y => ItsErr A 0 X e y)
    (hC2 : ∀ X, w.grownBy X none → Calls Try.prog 17 #[.agg #[.slice ta tn tc, .slice na nn nc, .slice la ln lc, .int .i64 st, .slice pa n pc], .slice (some (x.add (k * 2))) (N - k) (cap - k)] X fun e y => ItsErr B 0 X e y)
    (hC3 : ∀ X, w.grownBy X none → Calls Try.prog 17 #[.agg #[.slice ta tn tc, .slice na nn nc, .slice la ln lc, .int .i64 st, .slice pa n pc], .slice (some x) N cap] X fun e y => ItsErr C 0 X e y)
    (hG1 : ∀ X, w.grownBy X none → Calls Try.prog 19 #[.agg #[.slice ta tn tc, .slice na nn nc, .slice la ln lc, .int .i64 st, .slice pa n pc], .int .i64 s, .slice (some x) k cap] X fun e y => ItsErr xA 0 X e y)
    (hG2 : ∀ X, w.grownBy X none → Calls Try.prog 19 #[.agg #[.slice ta tn tc, .slice na nn nc, .slice la ln lc, .int .i64 st, .slice pa n pc], .int .i64 s, .slice (some (x.add (k * 2))) (N - k) (cap - k)] X fun e y => ItsErr xB 0 X e y)
    (hG3 : ∀ X, w.grownBy X none → Calls Try.prog 19 #[.agg #[.slice ta tn tc, .slice na nn nc, .slice la ln lc, .int .i64 st, .slice pa n pc], .int .i64 s, .slice (some x) N cap] X fun e y => ItsErr xC 0 X e y) :
    Calls Try.prog 8 #[.agg #[.slice ta tn tc, .slice na nn nc, .slice la ln lc, .int .i64 st, .slice pa n pc], .int .i64 s, .slice (some x) N cap] w fun e w' => e = .returned (.bool true) ∧ w.grownBy w' none := by
  have HHAB : Hid (A.length + B.length ≤ 8796093062208) := hAB
  have HB4 : Hid (C.length ≤ 8796093062208) := hCl
  have HS1 := show Hid _ from hS1
  clear hAB hCl hS1
  have HHXY : Hid (xA.length + xB.length ≤ 8796093062208) := hXY
  have HB7 : Hid (xC.length ≤ 8796093062208) := hXl
  have HS2x := show Hid _ from hS2
  clear hXY hXl hS2
  have HC1 := show Hid _ from hC1
  have HC2 := show Hid _ from hC2
  have HC3 := show Hid _ from hC3
  have HG1 := show Hid _ from hG1
  have HG2 := show Hid _ from hG2
  have HG3 := show Hid _ from hG3
  have HX0 : Hid (PhAt w (w.alloc (.cells #[.slice ta tn tc, .slice na nn nc, .slice la ln lc, .int .i64 st, .slice pa n pc] 27)) w.heap.size #[.slice ta tn tc, .slice na nn nc, .slice la ln lc, .int .i64 st, .slice pa n pc]) := ⟨World.grownBy_alloc _ _ none, heap_alloc_last w _⟩
  have hq : (N : Int).tdiv 2 = (k : Int) := by rw [hk]; rfl
  have hkN : k ≤ N := by omega
  have hkc : k < cap := by omega
  have z1 : (0 : Int) ≤ (k : Int) := by omega
  have z2 : (k : Int) ≤ (N : Int) := by omega
  have z3 : (k : Int) ≤ (cap : Int) := by omega
  have z4 : (N : Int) ≤ (cap : Int) := by omega
  have z5 : ¬ cap = k := by omega
  have z6 : ¬ k = cap := by omega
  clear hk
  clear hC1 hC2 hC3 hG1 hG2 hG3
  go_enter Try.func8, Try.ntmps8
  go_wp2_with fail
  refine Calls.mono (awake_any _) ?_
  rintro e w1 ⟨rfl, hg1⟩
  have HX1 : Hid (PhAt w w1 w.heap.size #[.slice ta tn tc, .slice na nn nc, .slice la ln lc, .int .i64 st, .slice pa n pc]) := HX0.out.kept hg1
  clear hg1 HX0
  have HUP1 : Hid (w1.grownBy w1.drew none) := grown_drewN _ 1
  have HKS1 : Hid (∀ Y, w1.grownBy Y none → (Y.cell? ⟨w.heap.size, 0, none⟩ = some (.slice ta tn tc) ∧ Y.cell? ⟨w.heap.size, 1, none⟩ = some (.slice na nn nc) ∧ Y.cell? ⟨w.heap.size, 2, none⟩ = some (.slice la ln lc) ∧ Y.cell? ⟨w.heap.size, 3, none⟩ = some (.int .i64 st) ∧ Y.cell? ⟨w.heap.size, 4, none⟩ = some (.slice pa n pc))) := fun Y hY => (HX1.out.kept hY).cells
  go_wp2_with fail
  go_region_held3 (fun Y => (Y.cell? ⟨w.heap.size, 0, none⟩ = some (.slice ta tn tc) ∧ Y.cell? ⟨w.heap.size, 1, none⟩ = some (.slice na nn nc) ∧ Y.cell? ⟨w.heap.size, 2, none⟩ = some (.slice la ln lc) ∧ Y.cell? ⟨w.heap.size, 3, none⟩ = some (.int .i64 st) ∧ Y.cell? ⟨w.heap.size, 4, none⟩ = some (.slice pa n pc))) (first | exact HKS1.out _ HUP1.out | exact HKS1.out _ HGa2.out | go_keep)
    ((first
      | (go_at_call 17; refine Calls.mono (HC1.out _ (grown_trans HX1.out.grown HUP1.out)) ?_; rintro e w2 ⟨a2, c2, rfl, ho2, hg2⟩; have HGa2 : Hid (w1.grownBy w2 none) := grown_trans HUP1.out hg2; have HO2 : Hid (w2.ownsRow w.heap.size 49 2 (.slice a2 A.length c2) A.length (itsV A)) := owns_lowJ ho2 (grown_trans HX1.out.grown HUP1.out).size; clear hg2 ho2)
      | fail))
  have HX2 : Hid (PhAt w w2 w.heap.size #[.slice ta tn tc, .slice na nn nc, .slice la ln lc, .int .i64 st, .slice pa n pc]) := HX1.out.kept HGa2.out
  obtain ⟨len2, hl2⟩ : ∃ m, m = A.length := ⟨_, rfl⟩
  have HL2 : Hid (len2 = A.length) := hl2
  rw [← hl2] at HO2
  rw [← hl2]
  clear hl2
  have HUP2 : Hid (w2.grownBy w2.drew none) := grown_drewN _ 1
  have HKS2 : Hid (∀ Y, w2.grownBy Y none → (Y.cell? ⟨w.heap.size, 0, none⟩ = some (.slice ta tn tc) ∧ Y.cell? ⟨w.heap.size, 1, none⟩ = some (.slice na nn nc) ∧ Y.cell? ⟨w.heap.size, 2, none⟩ = some (.slice la ln lc) ∧ Y.cell? ⟨w.heap.size, 3, none⟩ = some (.int .i64 st) ∧ Y.cell? ⟨w.heap.size, 4, none⟩ = some (.slice pa n pc))) := fun Y hY => (HX2.out.kept hY).cells
  go_wp2_with fail
  go_region_held3 (fun Y => (Y.cell? ⟨w.heap.size, 0, none⟩ = some (.slice ta tn tc) ∧ Y.cell? ⟨w.heap.size, 1, none⟩ = some (.slice na nn nc) ∧ Y.cell? ⟨w.heap.size, 2, none⟩ = some (.slice la ln lc) ∧ Y.cell? ⟨w.heap.size, 3, none⟩ = some (.int .i64 st) ∧ Y.cell? ⟨w.heap.size, 4, none⟩ = some (.slice pa n pc))) (first | exact HKS2.out _ HUP2.out | exact HKS2.out _ HGa3.out | go_keep)
    ((first
      | (go_at_call 17; refine Calls.mono (HC2.out _ (grown_trans HX2.out.grown HUP2.out)) ?_; rintro e w3 ⟨a3, c3, rfl, ho3, hg3⟩; have HGa3 : Hid (w2.grownBy w3 none) := grown_trans HUP2.out hg3; have HO3 : Hid (w3.ownsRow w.heap.size 49 2 (.slice a3 B.length c3) B.length (itsV B)) := owns_lowJ ho3 (grown_trans HX2.out.grown HUP2.out).size; clear hg3 ho3)
      | fail))
  have HX3 : Hid (PhAt w w3 w.heap.size #[.slice ta tn tc, .slice na nn nc, .slice la ln lc, .int .i64 st, .slice pa n pc]) := HX2.out.kept HGa3.out
  obtain ⟨len3, hl3⟩ : ∃ m, m = B.length := ⟨_, rfl⟩
  have HL3 : Hid (len3 = B.length) := hl3
  rw [← hl3] at HO3
  rw [← hl3]
  clear hl3
  obtain ⟨k0, k1, k2, k3, k4⟩ := HX3.out.cells
  go_wp2_with fail
  refine Calls.mono (HC3.out _ HX3.out.grown) ?_
  rintro e w4 ⟨a4, c4, rfl, ho4, hg4⟩
  have HGa4 : Hid (w3.grownBy w4 none) := hg4
  have HO4 : Hid (w4.ownsRow w.heap.size 49 2 (.slice a4 C.length c4) C.length (itsV C)) := owns_lowJ ho4 HX3.out.grown.size
  have HX4 : Hid (PhAt w w4 w.heap.size #[.slice ta tn tc, .slice na nn nc, .slice la ln lc, .int .i64 st, .slice pa n pc]) := HX3.out.kept hg4
  clear hg4 ho4 k0 k1 k2 k3 k4
  obtain ⟨len4, hl4⟩ : ∃ m, m = C.length := ⟨_, rfl⟩
  have HL4 : Hid (len4 = C.length) := hl4
  rw [← hl4] at HO4
  rw [← hl4]
  clear hl4
  have HUP4 : Hid (w4.grownBy w4.drew none) := grown_drewN _ 1
  have HKS4 : Hid (∀ Y, w4.grownBy Y none → (Y.cell? ⟨w.heap.size, 0, none⟩ = some (.slice ta tn tc) ∧ Y.cell? ⟨w.heap.size, 1, none⟩ = some (.slice na nn nc) ∧ Y.cell? ⟨w.heap.size, 2, none⟩ = some (.slice la ln lc) ∧ Y.cell? ⟨w.heap.size, 3, none⟩ = some (.int .i64 st) ∧ Y.cell? ⟨w.heap.size, 4, none⟩ = some (.slice pa n pc))) := fun Y hY => (HX4.out.kept hY).cells
  go_wp2_with fail
  go_region_held3 (fun Y => (Y.cell? ⟨w.heap.size, 0, none⟩ = some (.slice ta tn tc) ∧ Y.cell? ⟨w.heap.size, 1, none⟩ = some (.slice na nn nc) ∧ Y.cell? ⟨w.heap.size, 2, none⟩ = some (.slice la ln lc) ∧ Y.cell? ⟨w.heap.size, 3, none⟩ = some (.int .i64 st) ∧ Y.cell? ⟨w.heap.size, 4, none⟩ = some (.slice pa n pc))) (first | exact HKS4.out _ HUP4.out | exact HKS4.out _ HGa5.out | go_keep)
    ((first
      | (go_at_call 19; refine Calls.mono (HG1.out _ (grown_trans HX4.out.grown HUP4.out)) ?_; rintro e w5 ⟨a5, c5, rfl, ho5, hg5⟩; have HGa5 : Hid (w4.grownBy w5 none) := grown_trans HUP4.out hg5; have HO5 : Hid (w5.ownsRow w.heap.size 49 2 (.slice a5 xA.length c5) xA.length (itsV xA)) := owns_lowJ ho5 (grown_trans HX4.out.grown HUP4.out).size; clear hg5 ho5)
      | fail))
  have HX5 : Hid (PhAt w w5 w.heap.size #[.slice ta tn tc, .slice na nn nc, .slice la ln lc, .int .i64 st, .slice pa n pc]) := HX4.out.kept HGa5.out
  obtain ⟨len5, hl5⟩ : ∃ m, m = xA.length := ⟨_, rfl⟩
  have HL5 : Hid (len5 = xA.length) := hl5
  rw [← hl5] at HO5
  rw [← hl5]
  clear hl5
  have HUP5 : Hid (w5.grownBy w5.drew none) := grown_drewN _ 1
  have HKS5 : Hid (∀ Y, w5.grownBy Y none → (Y.cell? ⟨w.heap.size, 0, none⟩ = some (.slice ta tn tc) ∧ Y.cell? ⟨w.heap.size, 1, none⟩ = some (.slice na nn nc) ∧ Y.cell? ⟨w.heap.size, 2, none⟩ = some (.slice la ln lc) ∧ Y.cell? ⟨w.heap.size, 3, none⟩ = some (.int .i64 st) ∧ Y.cell? ⟨w.heap.size, 4, none⟩ = some (.slice pa n pc))) := fun Y hY => (HX5.out.kept hY).cells
  go_wp2_with fail
  go_region_held3 (fun Y => (Y.cell? ⟨w.heap.size, 0, none⟩ = some (.slice ta tn tc) ∧ Y.cell? ⟨w.heap.size, 1, none⟩ = some (.slice na nn nc) ∧ Y.cell? ⟨w.heap.size, 2, none⟩ = some (.slice la ln lc) ∧ Y.cell? ⟨w.heap.size, 3, none⟩ = some (.int .i64 st) ∧ Y.cell? ⟨w.heap.size, 4, none⟩ = some (.slice pa n pc))) (first | exact HKS5.out _ HUP5.out | exact HKS5.out _ HGa6.out | go_keep)
    ((first
      | (go_at_call 19; refine Calls.mono (HG2.out _ (grown_trans HX5.out.grown HUP5.out)) ?_; rintro e w6 ⟨a6, c6, rfl, ho6, hg6⟩; have HGa6 : Hid (w5.grownBy w6 none) := grown_trans HUP5.out hg6; have HO6 : Hid (w6.ownsRow w.heap.size 49 2 (.slice a6 xB.length c6) xB.length (itsV xB)) := owns_lowJ ho6 (grown_trans HX5.out.grown HUP5.out).size; clear hg6 ho6)
      | fail))
  have HX6 : Hid (PhAt w w6 w.heap.size #[.slice ta tn tc, .slice na nn nc, .slice la ln lc, .int .i64 st, .slice pa n pc]) := HX5.out.kept HGa6.out
  obtain ⟨len6, hl6⟩ : ∃ m, m = xB.length := ⟨_, rfl⟩
  have HL6 : Hid (len6 = xB.length) := hl6
  rw [← hl6] at HO6
  rw [← hl6]
  clear hl6
  obtain ⟨k0, k1, k2, k3, k4⟩ := HX6.out.cells
  go_wp2_with fail
  refine Calls.mono (HG3.out _ HX6.out.grown) ?_
  rintro e w7 ⟨a7, c7, rfl, ho7, hg7⟩
  have HGa7 : Hid (w6.grownBy w7 none) := hg7
  have HO7 : Hid (w7.ownsRow w.heap.size 49 2 (.slice a7 xC.length c7) xC.length (itsV xC)) := owns_lowJ ho7 HX6.out.grown.size
  have HX7 : Hid (PhAt w w7 w.heap.size #[.slice ta tn tc, .slice na nn nc, .slice la ln lc, .int .i64 st, .slice pa n pc]) := HX6.out.kept hg7
  clear hg7 ho7 k0 k1 k2 k3 k4
  obtain ⟨len7, hl7⟩ : ∃ m, m = xC.length := ⟨_, rfl⟩
  have HL7 : Hid (len7 = xC.length) := hl7
  rw [← hl7] at HO7
  rw [← hl7]
  clear hl7
  obtain ⟨i0, hi0, hz0, hz1, hz2⟩ := info_parts infoItem
  have HI2 : Hid (∀ Y, w7.grownBy Y none → ItsAt Y a2 A) := fun Y hY => (ItsAt.of (by have h := HO2.out; rwa [HL2.out] at h)).kept (grown_trans (grown_trans HGa3.out (grown_trans HGa4.out (grown_trans HGa5.out (grown_trans HGa6.out (HGa7.out))))) hY)
  have HN2 : Hid (a2 = none → len2 = 0 ∧ c2 = 0) := own_nil HO2.out
  have HV2 : Hid ((itsV A).length = len2 * 2) := by show _ = _; rw [itsV_length, HL2.out]
  clear HO2
  have HI3 : Hid (∀ Y, w7.grownBy Y none → ItsAt Y a3 B) := fun Y hY => (ItsAt.of (by have h := HO3.out; rwa [HL3.out] at h)).kept (grown_trans (grown_trans HGa4.out (grown_trans HGa5.out (grown_trans HGa6.out (HGa7.out)))) hY)
  have HN3 : Hid (a3 = none → len3 = 0 ∧ c3 = 0) := own_nil HO3.out
  have HV3 : Hid ((itsV B).length = len3 * 2) := by show _ = _; rw [itsV_length, HL3.out]
  clear HO3
  have HI4 : Hid (∀ Y, w7.grownBy Y none → ItsAt Y a4 C) := fun Y hY => (ItsAt.of (by have h := HO4.out; rwa [HL4.out] at h)).kept (grown_trans (grown_trans HGa5.out (grown_trans HGa6.out (HGa7.out))) hY)
  have HN4 : Hid (a4 = none → len4 = 0 ∧ c4 = 0) := own_nil HO4.out
  have HV4 : Hid ((itsV C).length = len4 * 2) := by show _ = _; rw [itsV_length, HL4.out]
  clear HO4
  have HI5 : Hid (∀ Y, w7.grownBy Y none → ItsAt Y a5 xA) := fun Y hY => (ItsAt.of (by have h := HO5.out; rwa [HL5.out] at h)).kept (grown_trans (grown_trans HGa6.out (HGa7.out)) hY)
  have HN5 : Hid (a5 = none → len5 = 0 ∧ c5 = 0) := own_nil HO5.out
  have HV5 : Hid ((itsV xA).length = len5 * 2) := by show _ = _; rw [itsV_length, HL5.out]
  clear HO5
  have HI6 : Hid (∀ Y, w7.grownBy Y none → ItsAt Y a6 xB) := fun Y hY => (ItsAt.of (by have h := HO6.out; rwa [HL6.out] at h)).kept (grown_trans (HGa7.out) hY)
  have HN6 : Hid (a6 = none → len6 = 0 ∧ c6 = 0) := own_nil HO6.out
  have HV6 : Hid ((itsV xB).length = len6 * 2) := by show _ = _; rw [itsV_length, HL6.out]
  clear HO6
  have HI7 : Hid (∀ Y, w7.grownBy Y none → ItsAt Y a7 xC) := fun Y hY => (ItsAt.of (by have h := HO7.out; rwa [HL7.out] at h)).kept (grown_trans (grown_refl _ _) hY)
  have HN7 : Hid (a7 = none → len7 = 0 ∧ c7 = 0) := own_nil HO7.out
  have HV7 : Hid ((itsV xC).length = len7 * 2) := by show _ = _; rw [itsV_length, HL7.out]
  clear HO7
  have HGw7 : Hid (w7.grownBy w7 none) := grown_refl _ _
  have HS2 : Hid (∀ ad, a2 = some ad → ∀ j u, (itsV A)[j]? = some u → w7.cell? (ad.add j) = some u) := fun ad e j u hu => its_cells (HI2.out w7 HGw7.out) ad e j u hu
  have hb2 : len2 + len3 ≤ 8796093062208 := by have h1 := HHAB.out; rw [HL2.out, HL3.out]; exact h1
  go_wp2_with (at_builtin; first | (refine wpList_append_srcW rfl (.tmp 91) (.tmp 92) 40 rfl w7.heap.size 49 i0 (.agg #[.int .i64 0, .int .i64 0]) 2 16 Try.underlying40 hi0 hz0 hz1 hz2 rfl (by decide) (.slice none 0 0) 0 [] rfl (World.ownsRow_nil _ _ _ _) a2 len2 c2 (itsV A) rfl HN2.out HV2.out HS2.out (itsV_one _) (by unfold maxLen; omega) (by omega) (Nat.le_refl _) ?_; intro vw71 w7x ho hg; rw [Nat.zero_add, List.nil_append] at ho; obtain ⟨pw7, qw7, rfl⟩ := owns_slice ho; have HOxw7 : Hid (w7x.ownsRow w7.heap.size 49 2 (.slice pw7 len2 qw7) len2 (itsV A)) := ho; have HGxw7 : Hid (w7.grownBy w7x none) := hg; have HSxw7 : Hid (∀ ad, a3 = some ad → ∀ j u, (itsV B)[j]? = some u → w7x.cell? (ad.add j) = some u) := fun ad e j u hu => its_cells (HI3.out w7x (grown_trans HGw7.out HGxw7.out)) ad e j u hu; clear ho hg) | (refine wpList_append_srcW rfl (.tmp 94) (.tmp 95) 40 rfl w7.heap.size 49 i0 (.agg #[.int .i64 0, .int .i64 0]) 2 16 Try.underlying40 hi0 hz0 hz1 hz2 rfl (by decide) (.slice pw7 len2 qw7) len2 (itsV A) rfl HOxw7.out a3 len3 c3 (itsV B) rfl HN3.out HV3.out HSxw7.out (itsV_one _) (by unfold maxLen; omega) (by omega) HGxw7.out.size ?_; intro vw72 w7y ho hg; rw [← itsV_append] at ho; obtain ⟨rw7, tw7, rfl⟩ := owns_slice ho; have HOyw7 : Hid (w7y.ownsRow w7.heap.size 49 2 (.slice rw7 (len2 + len3) tw7) (len2 + len3) (itsV (A ++ B))) := ho; have HGyw7 : Hid (w7.grownBy w7y none) := grown_owned HGxw7.out HOxw7.out (Nat.le_refl _) hg; clear ho hg) | fail)
  have hlen2 : (A ++ B).length = len2 + len3 := by rw [List.length_append, HL2.out, HL3.out]
  have HLAw7 := show Hid _ from laid_any rw7 tw7 (A ++ B) w7y (ItsAt.of (by rw [hlen2]; exact HOyw7.out)) (by rw [hlen2]; exact hb2)
  rw [hlen2] at HLAw7
  clear hlen2
  refine Calls.mono HLAw7.out ?_
  rintro e w7z ⟨l', h1, h2, h3, uw7, ow7, rfl, ho, hg⟩
  have hlC := HS1.out l' h1 h2
  rw [hlC] at ho
  rw [hlC, ← HL4.out]
  have HGzw7 : Hid (w7.grownBy w7z none) := grown_trans HGw7.out (grown_trans HGyw7.out hg)
  have HSMw7 := show Hid _ from sameItems_any uw7 a4 ow7 c4 C C w7z (ItsAt.of ho) (HI4.out w7z HGzw7.out) (by have h1 := HB4.out; omega) (by have h1 := HB4.out; omega) true ⟨fun _ => rfl, fun _ => rfl⟩
  rw [← HL4.out] at HSMw7
  clear l' h1 h2 h3 hlC ho hg
  go_wp2_with fail
  refine Calls.mono HSMw7.out ?_
  rintro e w7n ⟨rfl, hg⟩
  have HGw7n : Hid (w7.grownBy w7n none) := grown_trans HGzw7.out hg
  clear hg HSMw7 HLAw7 HOxw7 HOyw7 HSxw7 HGxw7 HGyw7 HGzw7
  have HS5 : Hid (∀ ad, a5 = some ad → ∀ j u, (itsV xA)[j]? = some u → w7n.cell? (ad.add j) = some u) := fun ad e j u hu => its_cells (HI5.out w7n HGw7n.out) ad e j u hu
  have hb5 : len5 + len6 ≤ 8796093062208 := by have h1 := HHXY.out; rw [HL5.out, HL6.out]; exact h1
  go_wp2_with (at_builtin; first | (refine wpList_append_srcW rfl (.tmp 125) (.tmp 126) 40 rfl w7n.heap.size 49 i0 (.agg #[.int .i64 0, .int .i64 0]) 2 16 Try.underlying40 hi0 hz0 hz1 hz2 rfl (by decide) (.slice none 0 0) 0 [] rfl (World.ownsRow_nil _ _ _ _) a5 len5 c5 (itsV xA) rfl HN5.out HV5.out HS5.out (itsV_one _) (by unfold maxLen; omega) (by omega) (Nat.le_refl _) ?_; intro vw7n1 w7nx ho hg; rw [Nat.zero_add, List.nil_append] at ho; obtain ⟨pw7n, qw7n, rfl⟩ := owns_slice ho; have HOxw7n : Hid (w7nx.ownsRow w7n.heap.size 49 2 (.slice pw7n len5 qw7n) len5 (itsV xA)) := ho; have HGxw7n : Hid (w7n.grownBy w7nx none) := hg; have HSxw7n : Hid (∀ ad, a6 = some ad → ∀ j u, (itsV xB)[j]? = some u → w7nx.cell? (ad.add j) = some u) := fun ad e j u hu => its_cells (HI6.out w7nx (grown_trans HGw7n.out HGxw7n.out)) ad e j u hu; clear ho hg) | (refine wpList_append_srcW rfl (.tmp 128) (.tmp 129) 40 rfl w7n.heap.size 49 i0 (.agg #[.int .i64 0, .int .i64 0]) 2 16 Try.underlying40 hi0 hz0 hz1 hz2 rfl (by decide) (.slice pw7n len5 qw7n) len5 (itsV xA) rfl HOxw7n.out a6 len6 c6 (itsV xB) rfl HN6.out HV6.out HSxw7n.out (itsV_one _) (by unfold maxLen; omega) (by omega) HGxw7n.out.size ?_; intro vw7n2 w7ny ho hg; rw [← itsV_append] at ho; obtain ⟨rw7n, tw7n, rfl⟩ := owns_slice ho; have HOyw7n : Hid (w7ny.ownsRow w7n.heap.size 49 2 (.slice rw7n (len5 + len6) tw7n) (len5 + len6) (itsV (xA ++ xB))) := ho; have HGyw7n : Hid (w7n.grownBy w7ny none) := grown_owned HGxw7n.out HOxw7n.out (Nat.le_refl _) hg; clear ho hg) | fail)
  have hlen5 : (xA ++ xB).length = len5 + len6 := by rw [List.length_append, HL5.out, HL6.out]
  have HLAw7n := show Hid _ from laid_any rw7n tw7n (xA ++ xB) w7ny (ItsAt.of (by rw [hlen5]; exact HOyw7n.out)) (by rw [hlen5]; exact hb5)
  rw [hlen5] at HLAw7n
  clear hlen5
  refine Calls.mono HLAw7n.out ?_
  rintro e w7nz ⟨l', h1, h2, h3, uw7n, ow7n, rfl, ho, hg⟩
  have hlC := HS2x.out l' h1 h2
  rw [hlC] at ho
  rw [hlC, ← HL7.out]
  have HGzw7n : Hid (w7.grownBy w7nz none) := grown_trans HGw7n.out (grown_trans HGyw7n.out hg)
  have HSMw7n := show Hid _ from sameItems_any uw7n a7 ow7n c7 xC xC w7nz (ItsAt.of ho) (HI7.out w7nz HGzw7n.out) (by have h1 := HB7.out; omega) (by have h1 := HB7.out; omega) true ⟨fun _ => rfl, fun _ => rfl⟩
  rw [← HL7.out] at HSMw7n
  clear l' h1 h2 h3 hlC ho hg
  go_wp2_with fail
  refine Calls.mono HSMw7n.out ?_
  rintro e w7nn ⟨rfl, hg⟩
  have HGw7nn : Hid (w7.grownBy w7nn none) := grown_trans HGzw7n.out hg
  clear hg HSMw7n HLAw7n HOxw7n HOyw7n HSxw7n HGxw7n HGyw7n HGzw7n
  go_wp2_with fail
  go_ret
  exact ⟨rfl, grown_trans HX7.out.grown HGw7nn.out⟩

set_option maxRecDepth 100000 in
set_option maxHeartbeats 4000000 in
theorem sums_okokZ (ta na la pa : Option Addr) (tc nc lc pc : Nat) (n : Nat) (st : Int) (w : World) (tn nn ln : Nat) (s : Int) (aZ : Option Addr) (A B C xA xB xC : List It) (hAB : A.length + B.length ≤ 8796093062208) (hCl : C.length ≤ 8796093062208) (hS1 : ∀ l', Asc l' → (∀ x, x ∈ l' ↔ x ∈ A ++ B) → l' = C) (hXY : xA.length + xB.length ≤ 8796093062208) (hXl : xC.length ≤ 8796093062208) (hS2 : ∀ l', Asc l' → (∀ x, x ∈ l' ↔ x ∈ xA ++ xB) → l' = xC) 
    (hC1 : ∀ X, w.grownBy X none → Calls Try.prog 17 #[.agg #[.slice ta tn tc, .slice na nn nc, .slice la ln lc, .int .i64 st, .slice pa n pc], .slice aZ 0 0] X fun e y => ItsErr A 0 X e y)
    (hC2 : ∀ X, w.grownBy X none → Calls Try.prog 17 #[.agg #[.slice ta tn tc, .slice na nn nc, .slice la ln lc, .int .i64 st, .slice pa n pc], .slice aZ 0 0] X fun e y => ItsErr B 0 X e y)
    (hC3 : ∀ X, w.grownBy X none → Calls Try.prog 17 #[.agg #[.slice ta tn tc, .slice na nn nc, .slice la ln lc, .int .i64 st, .slice pa n pc], .slice aZ 0 0] X fun e y => ItsErr C 0 X e y)
    (hG1 : ∀ X, w.grownBy X none → Calls Try.prog 19 #[.agg #[.slice ta tn tc, .slice na nn nc, .slice la ln lc, .int .i64 st, .slice pa n pc], .int .i64 s, .slice aZ 0 0] X fun e y => ItsErr xA 0 X e y)
    (hG2 : ∀ X, w.grownBy X none → Calls Try.prog 19 #[.agg #[.slice ta tn tc, .slice na nn nc, .slice la ln lc, .int .i64 st, .slice pa n pc], .int .i64 s, .slice aZ 0 0] X fun e y => ItsErr xB 0 X e y)
    (hG3 : ∀ X, w.grownBy X none → Calls Try.prog 19 #[.agg #[.slice ta tn tc, .slice na nn nc, .slice la ln lc, .int .i64 st, .slice pa n pc], .int .i64 s, .slice aZ 0 0] X fun e y => ItsErr xC 0 X e y) :
    Calls Try.prog 8 #[.agg #[.slice ta tn tc, .slice na nn nc, .slice la ln lc, .int .i64 st, .slice pa n pc], .int .i64 s, .slice aZ 0 0] w fun e w' => e = .returned (.bool true) ∧ w.grownBy w' none := by
  have HHAB : Hid (A.length + B.length ≤ 8796093062208) := hAB
  have HB4 : Hid (C.length ≤ 8796093062208) := hCl
  have HS1 := show Hid _ from hS1
  clear hAB hCl hS1
  have HHXY : Hid (xA.length + xB.length ≤ 8796093062208) := hXY
  have HB7 : Hid (xC.length ≤ 8796093062208) := hXl
  have HS2x := show Hid _ from hS2
  clear hXY hXl hS2
  have HC1 := show Hid _ from hC1
  have HC2 := show Hid _ from hC2
  have HC3 := show Hid _ from hC3
  have HG1 := show Hid _ from hG1
  have HG2 := show Hid _ from hG2
  have HG3 := show Hid _ from hG3
  have HX0 : Hid (PhAt w (w.alloc (.cells #[.slice ta tn tc, .slice na nn nc, .slice la ln lc, .int .i64 st, .slice pa n pc] 27)) w.heap.size #[.slice ta tn tc, .slice na nn nc, .slice la ln lc, .int .i64 st, .slice pa n pc]) := ⟨World.grownBy_alloc _ _ none, heap_alloc_last w _⟩
  clear hC1 hC2 hC3 hG1 hG2 hG3
  go_enter Try.func8, Try.ntmps8
  go_wp2_with fail
  refine Calls.mono (awake_any _) ?_
  rintro e w1 ⟨rfl, hg1⟩
  have HX1 : Hid (PhAt w w1 w.heap.size #[.slice ta tn tc, .slice na nn nc, .slice la ln lc, .int .i64 st, .slice pa n pc]) := HX0.out.kept hg1
  clear hg1 HX0
  have HUP1 : Hid (w1.grownBy w1.drew none) := grown_drewN _ 1
  have HKS1 : Hid (∀ Y, w1.grownBy Y none → (Y.cell? ⟨w.heap.size, 0, none⟩ = some (.slice ta tn tc) ∧ Y.cell? ⟨w.heap.size, 1, none⟩ = some (.slice na nn nc) ∧ Y.cell? ⟨w.heap.size, 2, none⟩ = some (.slice la ln lc) ∧ Y.cell? ⟨w.heap.size, 3, none⟩ = some (.int .i64 st) ∧ Y.cell? ⟨w.heap.size, 4, none⟩ = some (.slice pa n pc))) := fun Y hY => (HX1.out.kept hY).cells
  go_wp2_with fail
  go_region_held3 (fun Y => (Y.cell? ⟨w.heap.size, 0, none⟩ = some (.slice ta tn tc) ∧ Y.cell? ⟨w.heap.size, 1, none⟩ = some (.slice na nn nc) ∧ Y.cell? ⟨w.heap.size, 2, none⟩ = some (.slice la ln lc) ∧ Y.cell? ⟨w.heap.size, 3, none⟩ = some (.int .i64 st) ∧ Y.cell? ⟨w.heap.size, 4, none⟩ = some (.slice pa n pc))) (first | exact HKS1.out _ HUP1.out | exact HKS1.out _ HGa2.out | go_keep)
    ((first
      | (go_at_call 17; refine Calls.mono (HC1.out _ (grown_trans HX1.out.grown HUP1.out)) ?_; rintro e w2 ⟨a2, c2, rfl, ho2, hg2⟩; have HGa2 : Hid (w1.grownBy w2 none) := grown_trans HUP1.out hg2; have HO2 : Hid (w2.ownsRow w.heap.size 49 2 (.slice a2 A.length c2) A.length (itsV A)) := owns_lowJ ho2 (grown_trans HX1.out.grown HUP1.out).size; clear hg2 ho2)
      | fail))
  have HX2 : Hid (PhAt w w2 w.heap.size #[.slice ta tn tc, .slice na nn nc, .slice la ln lc, .int .i64 st, .slice pa n pc]) := HX1.out.kept HGa2.out
  obtain ⟨len2, hl2⟩ : ∃ m, m = A.length := ⟨_, rfl⟩
  have HL2 : Hid (len2 = A.length) := hl2
  rw [← hl2] at HO2
  rw [← hl2]
  clear hl2
  have HUP2 : Hid (w2.grownBy w2.drew none) := grown_drewN _ 1
  have HKS2 : Hid (∀ Y, w2.grownBy Y none → (Y.cell? ⟨w.heap.size, 0, none⟩ = some (.slice ta tn tc) ∧ Y.cell? ⟨w.heap.size, 1, none⟩ = some (.slice na nn nc) ∧ Y.cell? ⟨w.heap.size, 2, none⟩ = some (.slice la ln lc) ∧ Y.cell? ⟨w.heap.size, 3, none⟩ = some (.int .i64 st) ∧ Y.cell? ⟨w.heap.size, 4, none⟩ = some (.slice pa n pc))) := fun Y hY => (HX2.out.kept hY).cells
  go_wp2_with fail
  go_region_held3 (fun Y => (Y.cell? ⟨w.heap.size, 0, none⟩ = some (.slice ta tn tc) ∧ Y.cell? ⟨w.heap.size, 1, none⟩ = some (.slice na nn nc) ∧ Y.cell? ⟨w.heap.size, 2, none⟩ = some (.slice la ln lc) ∧ Y.cell? ⟨w.heap.size, 3, none⟩ = some (.int .i64 st) ∧ Y.cell? ⟨w.heap.size, 4, none⟩ = some (.slice pa n pc))) (first | exact HKS2.out _ HUP2.out | exact HKS2.out _ HGa3.out | go_keep)
    ((first
      | (go_at_call 17; refine Calls.mono (HC2.out _ (grown_trans HX2.out.grown HUP2.out)) ?_; rintro e w3 ⟨a3, c3, rfl, ho3, hg3⟩; have HGa3 : Hid (w2.grownBy w3 none) := grown_trans HUP2.out hg3; have HO3 : Hid (w3.ownsRow w.heap.size 49 2 (.slice a3 B.length c3) B.length (itsV B)) := owns_lowJ ho3 (grown_trans HX2.out.grown HUP2.out).size; clear hg3 ho3)
      | fail))
  have HX3 : Hid (PhAt w w3 w.heap.size #[.slice ta tn tc, .slice na nn nc, .slice la ln lc, .int .i64 st, .slice pa n pc]) := HX2.out.kept HGa3.out
  obtain ⟨len3, hl3⟩ : ∃ m, m = B.length := ⟨_, rfl⟩
  have HL3 : Hid (len3 = B.length) := hl3
  rw [← hl3] at HO3
  rw [← hl3]
  clear hl3
  obtain ⟨k0, k1, k2, k3, k4⟩ := HX3.out.cells
  go_wp2_with fail
  refine Calls.mono (HC3.out _ HX3.out.grown) ?_
  rintro e w4 ⟨a4, c4, rfl, ho4, hg4⟩
  have HGa4 : Hid (w3.grownBy w4 none) := hg4
  have HO4 : Hid (w4.ownsRow w.heap.size 49 2 (.slice a4 C.length c4) C.length (itsV C)) := owns_lowJ ho4 HX3.out.grown.size
  have HX4 : Hid (PhAt w w4 w.heap.size #[.slice ta tn tc, .slice na nn nc, .slice la ln lc, .int .i64 st, .slice pa n pc]) := HX3.out.kept hg4
  clear hg4 ho4 k0 k1 k2 k3 k4
  obtain ⟨len4, hl4⟩ : ∃ m, m = C.length := ⟨_, rfl⟩
  have HL4 : Hid (len4 = C.length) := hl4
  rw [← hl4] at HO4
  rw [← hl4]
  clear hl4
  have HUP4 : Hid (w4.grownBy w4.drew none) := grown_drewN _ 1
  have HKS4 : Hid (∀ Y, w4.grownBy Y none → (Y.cell? ⟨w.heap.size, 0, none⟩ = some (.slice ta tn tc) ∧ Y.cell? ⟨w.heap.size, 1, none⟩ = some (.slice na nn nc) ∧ Y.cell? ⟨w.heap.size, 2, none⟩ = some (.slice la ln lc) ∧ Y.cell? ⟨w.heap.size, 3, none⟩ = some (.int .i64 st) ∧ Y.cell? ⟨w.heap.size, 4, none⟩ = some (.slice pa n pc))) := fun Y hY => (HX4.out.kept hY).cells
  go_wp2_with fail
  go_region_held3 (fun Y => (Y.cell? ⟨w.heap.size, 0, none⟩ = some (.slice ta tn tc) ∧ Y.cell? ⟨w.heap.size, 1, none⟩ = some (.slice na nn nc) ∧ Y.cell? ⟨w.heap.size, 2, none⟩ = some (.slice la ln lc) ∧ Y.cell? ⟨w.heap.size, 3, none⟩ = some (.int .i64 st) ∧ Y.cell? ⟨w.heap.size, 4, none⟩ = some (.slice pa n pc))) (first | exact HKS4.out _ HUP4.out | exact HKS4.out _ HGa5.out | go_keep)
    ((first
      | (go_at_call 19; refine Calls.mono (HG1.out _ (grown_trans HX4.out.grown HUP4.out)) ?_; rintro e w5 ⟨a5, c5, rfl, ho5, hg5⟩; have HGa5 : Hid (w4.grownBy w5 none) := grown_trans HUP4.out hg5; have HO5 : Hid (w5.ownsRow w.heap.size 49 2 (.slice a5 xA.length c5) xA.length (itsV xA)) := owns_lowJ ho5 (grown_trans HX4.out.grown HUP4.out).size; clear hg5 ho5)
      | fail))
  have HX5 : Hid (PhAt w w5 w.heap.size #[.slice ta tn tc, .slice na nn nc, .slice la ln lc, .int .i64 st, .slice pa n pc]) := HX4.out.kept HGa5.out
  obtain ⟨len5, hl5⟩ : ∃ m, m = xA.length := ⟨_, rfl⟩
  have HL5 : Hid (len5 = xA.length) := hl5
  rw [← hl5] at HO5
  rw [← hl5]
  clear hl5
  have HUP5 : Hid (w5.grownBy w5.drew none) := grown_drewN _ 1
  have HKS5 : Hid (∀ Y, w5.grownBy Y none → (Y.cell? ⟨w.heap.size, 0, none⟩ = some (.slice ta tn tc) ∧ Y.cell? ⟨w.heap.size, 1, none⟩ = some (.slice na nn nc) ∧ Y.cell? ⟨w.heap.size, 2, none⟩ = some (.slice la ln lc) ∧ Y.cell? ⟨w.heap.size, 3, none⟩ = some (.int .i64 st) ∧ Y.cell? ⟨w.heap.size, 4, none⟩ = some (.slice pa n pc))) := fun Y hY => (HX5.out.kept hY).cells
  go_wp2_with fail
  go_region_held3 (fun Y => (Y.cell? ⟨w.heap.size, 0, none⟩ = some (.slice ta tn tc) ∧ Y.cell? ⟨w.heap.size, 1, none⟩ = some (.slice na nn nc) ∧ Y.cell? ⟨w.heap.size, 2, none⟩ = some (.slice la ln lc) ∧ Y.cell? ⟨w.heap.size, 3, none⟩ = some (.int .i64 st) ∧ Y.cell? ⟨w.heap.size, 4, none⟩ = some (.slice pa n pc))) (first | exact HKS5.out _ HUP5.out | exact HKS5.out _ HGa6.out | go_keep)
    ((first
      | (go_at_call 19; refine Calls.mono (HG2.out _ (grown_trans HX5.out.grown HUP5.out)) ?_; rintro e w6 ⟨a6, c6, rfl, ho6, hg6⟩; have HGa6 : Hid (w5.grownBy w6 none) := grown_trans HUP5.out hg6; have HO6 : Hid (w6.ownsRow w.heap.size 49 2 (.slice a6 xB.length c6) xB.length (itsV xB)) := owns_lowJ ho6 (grown_trans HX5.out.grown HUP5.out).size; clear hg6 ho6)
      | fail))
  have HX6 : Hid (PhAt w w6 w.heap.size #[.slice ta tn tc, .slice na nn nc, .slice la ln lc, .int .i64 st, .slice pa n pc]) := HX5.out.kept HGa6.out
  obtain ⟨len6, hl6⟩ : ∃ m, m = xB.length := ⟨_, rfl⟩
  have HL6 : Hid (len6 = xB.length) := hl6
  rw [← hl6] at HO6
  rw [← hl6]
  clear hl6
  obtain ⟨k0, k1, k2, k3, k4⟩ := HX6.out.cells
  go_wp2_with fail
  refine Calls.mono (HG3.out _ HX6.out.grown) ?_
  rintro e w7 ⟨a7, c7, rfl, ho7, hg7⟩
  have HGa7 : Hid (w6.grownBy w7 none) := hg7
  have HO7 : Hid (w7.ownsRow w.heap.size 49 2 (.slice a7 xC.length c7) xC.length (itsV xC)) := owns_lowJ ho7 HX6.out.grown.size
  have HX7 : Hid (PhAt w w7 w.heap.size #[.slice ta tn tc, .slice na nn nc, .slice la ln lc, .int .i64 st, .slice pa n pc]) := HX6.out.kept hg7
  clear hg7 ho7 k0 k1 k2 k3 k4
  obtain ⟨len7, hl7⟩ : ∃ m, m = xC.length := ⟨_, rfl⟩
  have HL7 : Hid (len7 = xC.length) := hl7
  rw [← hl7] at HO7
  rw [← hl7]
  clear hl7
  obtain ⟨i0, hi0, hz0, hz1, hz2⟩ := info_parts infoItem
  have HI2 : Hid (∀ Y, w7.grownBy Y none → ItsAt Y a2 A) := fun Y hY => (ItsAt.of (by have h := HO2.out; rwa [HL2.out] at h)).kept (grown_trans (grown_trans HGa3.out (grown_trans HGa4.out (grown_trans HGa5.out (grown_trans HGa6.out (HGa7.out))))) hY)
  have HN2 : Hid (a2 = none → len2 = 0 ∧ c2 = 0) := own_nil HO2.out
  have HV2 : Hid ((itsV A).length = len2 * 2) := by show _ = _; rw [itsV_length, HL2.out]
  clear HO2
  have HI3 : Hid (∀ Y, w7.grownBy Y none → ItsAt Y a3 B) := fun Y hY => (ItsAt.of (by have h := HO3.out; rwa [HL3.out] at h)).kept (grown_trans (grown_trans HGa4.out (grown_trans HGa5.out (grown_trans HGa6.out (HGa7.out)))) hY)
  have HN3 : Hid (a3 = none → len3 = 0 ∧ c3 = 0) := own_nil HO3.out
  have HV3 : Hid ((itsV B).length = len3 * 2) := by show _ = _; rw [itsV_length, HL3.out]
  clear HO3
  have HI4 : Hid (∀ Y, w7.grownBy Y none → ItsAt Y a4 C) := fun Y hY => (ItsAt.of (by have h := HO4.out; rwa [HL4.out] at h)).kept (grown_trans (grown_trans HGa5.out (grown_trans HGa6.out (HGa7.out))) hY)
  have HN4 : Hid (a4 = none → len4 = 0 ∧ c4 = 0) := own_nil HO4.out
  have HV4 : Hid ((itsV C).length = len4 * 2) := by show _ = _; rw [itsV_length, HL4.out]
  clear HO4
  have HI5 : Hid (∀ Y, w7.grownBy Y none → ItsAt Y a5 xA) := fun Y hY => (ItsAt.of (by have h := HO5.out; rwa [HL5.out] at h)).kept (grown_trans (grown_trans HGa6.out (HGa7.out)) hY)
  have HN5 : Hid (a5 = none → len5 = 0 ∧ c5 = 0) := own_nil HO5.out
  have HV5 : Hid ((itsV xA).length = len5 * 2) := by show _ = _; rw [itsV_length, HL5.out]
  clear HO5
  have HI6 : Hid (∀ Y, w7.grownBy Y none → ItsAt Y a6 xB) := fun Y hY => (ItsAt.of (by have h := HO6.out; rwa [HL6.out] at h)).kept (grown_trans (HGa7.out) hY)
  have HN6 : Hid (a6 = none → len6 = 0 ∧ c6 = 0) := own_nil HO6.out
  have HV6 : Hid ((itsV xB).length = len6 * 2) := by show _ = _; rw [itsV_length, HL6.out]
  clear HO6
  have HI7 : Hid (∀ Y, w7.grownBy Y none → ItsAt Y a7 xC) := fun Y hY => (ItsAt.of (by have h := HO7.out; rwa [HL7.out] at h)).kept (grown_trans (grown_refl _ _) hY)
  have HN7 : Hid (a7 = none → len7 = 0 ∧ c7 = 0) := own_nil HO7.out
  have HV7 : Hid ((itsV xC).length = len7 * 2) := by show _ = _; rw [itsV_length, HL7.out]
  clear HO7
  have HGw7 : Hid (w7.grownBy w7 none) := grown_refl _ _
  have HS2 : Hid (∀ ad, a2 = some ad → ∀ j u, (itsV A)[j]? = some u → w7.cell? (ad.add j) = some u) := fun ad e j u hu => its_cells (HI2.out w7 HGw7.out) ad e j u hu
  have hb2 : len2 + len3 ≤ 8796093062208 := by have h1 := HHAB.out; rw [HL2.out, HL3.out]; exact h1
  go_wp2_with (at_builtin; first | (refine wpList_append_srcW rfl (.tmp 91) (.tmp 92) 40 rfl w7.heap.size 49 i0 (.agg #[.int .i64 0, .int .i64 0]) 2 16 Try.underlying40 hi0 hz0 hz1 hz2 rfl (by decide) (.slice none 0 0) 0 [] rfl (World.ownsRow_nil _ _ _ _) a2 len2 c2 (itsV A) rfl HN2.out HV2.out HS2.out (itsV_one _) (by unfold maxLen; omega) (by omega) (Nat.le_refl _) ?_; intro vw71 w7x ho hg; rw [Nat.zero_add, List.nil_append] at ho; obtain ⟨pw7, qw7, rfl⟩ := owns_slice ho; have HOxw7 : Hid (w7x.ownsRow w7.heap.size 49 2 (.slice pw7 len2 qw7) len2 (itsV A)) := ho; have HGxw7 : Hid (w7.grownBy w7x none) := hg; have HSxw7 : Hid (∀ ad, a3 = some ad → ∀ j u, (itsV B)[j]? = some u → w7x.cell? (ad.add j) = some u) := fun ad e j u hu => its_cells (HI3.out w7x (grown_trans HGw7.out HGxw7.out)) ad e j u hu; clear ho hg) | (refine wpList_append_srcW rfl (.tmp 94) (.tmp 95) 40 rfl w7.heap.size 49 i0 (.agg #[.int .i64 0, .int .i64 0]) 2 16 Try.underlying40 hi0 hz0 hz1 hz2 rfl (by decide) (.slice pw7 len2 qw7) len2 (itsV A) rfl HOxw7.out a3 len3 c3 (itsV B) rfl HN3.out HV3.out HSxw7.out (itsV_one _) (by unfold maxLen; omega) (by omega) HGxw7.out.size ?_; intro vw72 w7y ho hg; rw [← itsV_append] at ho; obtain ⟨rw7, tw7, rfl⟩ := owns_slice ho; have HOyw7 : Hid (w7y.ownsRow w7.heap.size 49 2 (.slice rw7 (len2 + len3) tw7) (len2 + len3) (itsV (A ++ B))) := ho; have HGyw7 : Hid (w7.grownBy w7y none) := grown_owned HGxw7.out HOxw7.out (Nat.le_refl _) hg; clear ho hg) | fail)
  have hlen2 : (A ++ B).length = len2 + len3 := by rw [List.length_append, HL2.out, HL3.out]
  have HLAw7 := show Hid _ from laid_any rw7 tw7 (A ++ B) w7y (ItsAt.of (by rw [hlen2]; exact HOyw7.out)) (by rw [hlen2]; exact hb2)
  rw [hlen2] at HLAw7
  clear hlen2
  refine Calls.mono HLAw7.out ?_
  rintro e w7z ⟨l', h1, h2, h3, uw7, ow7, rfl, ho, hg⟩
  have hlC := HS1.out l' h1 h2
  rw [hlC] at ho
  rw [hlC, ← HL4.out]
  have HGzw7 : Hid (w7.grownBy w7z none) := grown_trans HGw7.out (grown_trans HGyw7.out hg)
  have HSMw7 := show Hid _ from sameItems_any uw7 a4 ow7 c4 C C w7z (ItsAt.of ho) (HI4.out w7z HGzw7.out) (by have h1 := HB4.out; omega) (by have h1 := HB4.out; omega) true ⟨fun _ => rfl, fun _ => rfl⟩
  rw [← HL4.out] at HSMw7
  clear l' h1 h2 h3 hlC ho hg
  go_wp2_with fail
  refine Calls.mono HSMw7.out ?_
  rintro e w7n ⟨rfl, hg⟩
  have HGw7n : Hid (w7.grownBy w7n none) := grown_trans HGzw7.out hg
  clear hg HSMw7 HLAw7 HOxw7 HOyw7 HSxw7 HGxw7 HGyw7 HGzw7
  have HS5 : Hid (∀ ad, a5 = some ad → ∀ j u, (itsV xA)[j]? = some u → w7n.cell? (ad.add j) = some u) := fun ad e j u hu => its_cells (HI5.out w7n HGw7n.out) ad e j u hu
  have hb5 : len5 + len6 ≤ 8796093062208 := by have h1 := HHXY.out; rw [HL5.out, HL6.out]; exact h1
  go_wp2_with (at_builtin; first | (refine wpList_append_srcW rfl (.tmp 125) (.tmp 126) 40 rfl w7n.heap.size 49 i0 (.agg #[.int .i64 0, .int .i64 0]) 2 16 Try.underlying40 hi0 hz0 hz1 hz2 rfl (by decide) (.slice none 0 0) 0 [] rfl (World.ownsRow_nil _ _ _ _) a5 len5 c5 (itsV xA) rfl HN5.out HV5.out HS5.out (itsV_one _) (by unfold maxLen; omega) (by omega) (Nat.le_refl _) ?_; intro vw7n1 w7nx ho hg; rw [Nat.zero_add, List.nil_append] at ho; obtain ⟨pw7n, qw7n, rfl⟩ := owns_slice ho; have HOxw7n : Hid (w7nx.ownsRow w7n.heap.size 49 2 (.slice pw7n len5 qw7n) len5 (itsV xA)) := ho; have HGxw7n : Hid (w7n.grownBy w7nx none) := hg; have HSxw7n : Hid (∀ ad, a6 = some ad → ∀ j u, (itsV xB)[j]? = some u → w7nx.cell? (ad.add j) = some u) := fun ad e j u hu => its_cells (HI6.out w7nx (grown_trans HGw7n.out HGxw7n.out)) ad e j u hu; clear ho hg) | (refine wpList_append_srcW rfl (.tmp 128) (.tmp 129) 40 rfl w7n.heap.size 49 i0 (.agg #[.int .i64 0, .int .i64 0]) 2 16 Try.underlying40 hi0 hz0 hz1 hz2 rfl (by decide) (.slice pw7n len5 qw7n) len5 (itsV xA) rfl HOxw7n.out a6 len6 c6 (itsV xB) rfl HN6.out HV6.out HSxw7n.out (itsV_one _) (by unfold maxLen; omega) (by omega) HGxw7n.out.size ?_; intro vw7n2 w7ny ho hg; rw [← itsV_append] at ho; obtain ⟨rw7n, tw7n, rfl⟩ := owns_slice ho; have HOyw7n : Hid (w7ny.ownsRow w7n.heap.size 49 2 (.slice rw7n (len5 + len6) tw7n) (len5 + len6) (itsV (xA ++ xB))) := ho; have HGyw7n : Hid (w7n.grownBy w7ny none) := grown_owned HGxw7n.out HOxw7n.out (Nat.le_refl _) hg; clear ho hg) | fail)
  have hlen5 : (xA ++ xB).length = len5 + len6 := by rw [List.length_append, HL5.out, HL6.out]
  have HLAw7n := show Hid _ from laid_any rw7n tw7n (xA ++ xB) w7ny (ItsAt.of (by rw [hlen5]; exact HOyw7n.out)) (by rw [hlen5]; exact hb5)
  rw [hlen5] at HLAw7n
  clear hlen5
  refine Calls.mono HLAw7n.out ?_
  rintro e w7nz ⟨l', h1, h2, h3, uw7n, ow7n, rfl, ho, hg⟩
  have hlC := HS2x.out l' h1 h2
  rw [hlC] at ho
  rw [hlC, ← HL7.out]
  have HGzw7n : Hid (w7.grownBy w7nz none) := grown_trans HGw7n.out (grown_trans HGyw7n.out hg)
  have HSMw7n := show Hid _ from sameItems_any uw7n a7 ow7n c7 xC xC w7nz (ItsAt.of ho) (HI7.out w7nz HGzw7n.out) (by have h1 := HB7.out; omega) (by have h1 := HB7.out; omega) true ⟨fun _ => rfl, fun _ => rfl⟩
  rw [← HL7.out] at HSMw7n
  clear l' h1 h2 h3 hlC ho hg
  go_wp2_with fail
  refine Calls.mono HSMw7n.out ?_
  rintro e w7nn ⟨rfl, hg⟩
  have HGw7nn : Hid (w7.grownBy w7nn none) := grown_trans HGzw7n.out hg
  clear hg HSMw7n HLAw7n HOxw7n HOyw7n HSxw7n HGxw7n HGyw7n HGzw7n
  go_wp2_with fail
  go_ret
  exact ⟨rfl, grown_trans HX7.out.grown HGw7nn.out⟩

end Go.Proofs.Ytfjbgnmmlppmeaa.J

/-
  lr0: the law Lr0Sums, for every input.
-/
namespace Go.Proofs.Ytfjbgnmmlppmeaa.J
open Go.RowKit Go.Maps Go.Shelf

theorem calls_ex {P : Program} {f : FuncId} {args : Array Value} {w : World} {R : Ending → World → Prop} (h : Calls P f args w R) : ∃ e y, R e y := by
  obtain ⟨e, y, _, h1, _⟩ := h []
  exact ⟨e, y, h1⟩

theorem clo_mono {tn n : Nat} {L : Nat → Int} {R : Nat → List Int} {I J : List It} (h : ∀ x ∈ I, x ∈ J) {x : It} (hx : Clo tn n L R I x) : Clo tn n L R J x := fun P h1 h2 => hx P (fun y hy => h1 y (h y hy)) h2
/-- What two closures have together is the closure of both. -/
theorem isClo_sum {tn n : Nat} {L : Nat → Int} {R : Nat → List Int} {I J A B C : List It} (hA : IsClo tn n L R I A) (hB : IsClo tn n L R J B) (hC : IsClo tn n L R (I ++ J) C) (x : It) : x ∈ C ↔ x ∈ A ++ B := by
  rw [List.mem_append]
  constructor
  · intro hx
    refine (hC.mem x).1 hx (fun y => y ∈ A ∨ y ∈ B) (fun y hy => ?_) (fun y k hy ht hk hl => ?_)
    · rcases List.mem_append.1 hy with h | h
      · exact .inl ((hA.mem y).2 (Clo.base h))
      · exact .inr ((hB.mem y).2 (Clo.base h))
    · rcases hy with h | h
      · exact .inl ((hA.mem _).2 (((hA.mem y).1 h).step ht hk hl))
      · exact .inr ((hB.mem _).2 (((hB.mem y).1 h).step ht hk hl))
  · rintro (h | h)
    · exact (hC.mem x).2 (clo_mono (fun y hy => List.mem_append.2 (.inl hy)) ((hA.mem x).1 h))
    · exact (hC.mem x).2 (clo_mono (fun y hy => List.mem_append.2 (.inr hy)) ((hB.mem x).1 h))
theorem mem_kerT {R : Nat → List Int} {l : List It} {s : Int} {x : It} : x ∈ kerT R l s ↔ ∃ y ∈ l, aheadV R y = s ∧ (y.1, y.2 + 1) = x := by
  unfold kerT
  rw [List.mem_map]
  constructor
  · rintro ⟨y, hy, rfl⟩
    obtain ⟨h1, h2⟩ := List.mem_filter.1 hy
    exact ⟨y, h1, by simpa using h2, rfl⟩
  · rintro ⟨y, hy, h, rfl⟩
    exact ⟨y, List.mem_filter.2 ⟨hy, by simpa using h⟩, rfl⟩
theorem ker_sum {R : Nat → List Int} {A B C : List It} (h : ∀ x, x ∈ C ↔ x ∈ A ++ B) (s : Int) (x : It) : x ∈ kerT R C s ↔ x ∈ kerT R A s ++ kerT R B s := by
  rw [List.mem_append, mem_kerT, mem_kerT, mem_kerT]
  constructor
  · rintro ⟨y, hy, h1, h2⟩
    rcases List.mem_append.1 ((h y).1 hy) with h3 | h3
    · exact .inl ⟨y, h3, h1, h2⟩
    · exact .inr ⟨y, h3, h1, h2⟩
  · rintro (⟨y, hy, h1, h2⟩ | ⟨y, hy, h1, h2⟩)
    · exact ⟨y, (h y).2 (List.mem_append.2 (.inl hy)), h1, h2⟩
    · exact ⟨y, (h y).2 (List.mem_append.2 (.inr hy)), h1, h2⟩
theorem its_takeS {X : World} {a : Option Addr} {l : List It} (h : ItsAt X a l) (k : Nat) : ItsAt X a (l.take k) := by
  rcases h with h | ⟨b, off, e, h⟩
  · rw [h]; exact .inl (by simp)
  · refine .inr ⟨b, off, e, fun i hi => ?_⟩
    rw [List.length_take] at hi
    have e2 : (l.take k).getD i (0, 0) = l.getD i (0, 0) := by
      rw [List.getD_eq_getElem?_getD, List.getD_eq_getElem?_getD, List.getElem?_take, if_pos (by omega)]
    rw [e2]; exact h i (by omega)
theorem its_drop {X : World} {x : Addr} {l : List It} (h : ItsAt X (some x) l) (k : Nat) : ItsAt X (some (x.add (k * 2))) (l.drop k) := by
  rcases h with h | ⟨b, off, e, h⟩
  · rw [h]; exact .inl (by simp)
  · have e1 : x = ⟨b, off, none⟩ := by simpa using e
    subst e1
    refine .inr ⟨b, off + k * 2, by rw [Addr.add_mid], fun i hi => ?_⟩
    rw [List.length_drop] at hi
    have e2 : (l.drop k).getD i (0, 0) = l.getD (k + i) (0, 0) := by
      rw [List.getD_eq_getElem?_getD, List.getD_eq_getElem?_getD, List.getElem?_drop]
    rw [e2]
    have h2 := h (k + i) (by omega)
    rw [show off + k * 2 + i * 2 = off + (k + i) * 2 by omega]
    exact h2

section
variable (ta na la pa : Option Addr) (tc nc lc pc : Nat) (ts : List (ByteArray × Int)) (ns : List ByteArray) (lv : List Int) (n : Nat) (L : Nat → Int) (R : Nat → List Int) (ra : Nat → Option Addr) (rc : Nat → Nat) (V : Nat → Int) (st : Int) (w : World) (tn nn ln : Nat) (hlen : ts.length = tn ∧ ns.length = nn ∧ lv.length = ln) (hG : GAt w ta na la pa tc nc lc pc ts ns lv n L R ra rc V)
include hlen hG

/-- What the six calls tell of two lists, and of both together. -/
theorem sums_told (s : Int) (a1 a2 a3 : Option Addr) (k1 k2 k3 : Nat) (I J : List It) (hI : ItsAt w a1 I) (hJ : ItsAt w a2 J) (hK : ItsAt w a3 (I ++ J)) (n1 : a1 = none → I.length = 0 ∧ k1 = 0) (n2 : a2 = none → J.length = 0 ∧ k2 = 0) (n3 : a3 = none → (I ++ J).length = 0 ∧ k3 = 0) (hb : (I ++ J).length ≤ 8796093022208) {Q : Prop}
    (q1 : ∀ (A B C xA xB xC : List It) (f1 i1 l1 : Int), (∀ X, w.grownBy X none → Calls Try.prog 17 #[.agg #[.slice ta tn tc, .slice na nn nc, .slice la ln lc, .int .i64 st, .slice pa n pc], .slice a1 I.length k1] X fun e y => ItsErr A 1 X e y) → (∀ X, w.grownBy X none → Calls Try.prog 17 #[.agg #[.slice ta tn tc, .slice na nn nc, .slice la ln lc, .int .i64 st, .slice pa n pc], .slice a2 J.length k2] X fun e y => ItsErr B f1 X e y) → (∀ X, w.grownBy X none → Calls Try.prog 17 #[.agg #[.slice ta tn tc, .slice na nn nc, .slice la ln lc, .int .i64 st, .slice pa n pc], .slice a3 (I ++ J).length k3] X fun e y => ItsErr C 1 X e y) → (∀ X, w.grownBy X none → Calls Try.prog 19 #[.agg #[.slice ta tn tc, .slice na nn nc, .slice la ln lc, .int .i64 st, .slice pa n pc], .int .i64 s, .slice a1 I.length k1] X fun e y => ItsErr xA i1 X e y) → (∀ X, w.grownBy X none → Calls Try.prog 19 #[.agg #[.slice ta tn tc, .slice na nn nc, .slice la ln lc, .int .i64 st, .slice pa n pc], .int .i64 s, .slice a2 J.length k2] X fun e y => ItsErr xB l1 X e y) → (∀ X, w.grownBy X none → Calls Try.prog 19 #[.agg #[.slice ta tn tc, .slice na nn nc, .slice la ln lc, .int .i64 st, .slice pa n pc], .int .i64 s, .slice a3 (I ++ J).length k3] X fun e y => ItsErr xC 1 X e y) → Q)
    (q2 : ∀ (A B C xA xB xC : List It) (i1 l1 : Int), (∀ X, w.grownBy X none → Calls Try.prog 17 #[.agg #[.slice ta tn tc, .slice na nn nc, .slice la ln lc, .int .i64 st, .slice pa n pc], .slice a1 I.length k1] X fun e y => ItsErr A 0 X e y) → (∀ X, w.grownBy X none → Calls Try.prog 17 #[.agg #[.slice ta tn tc, .slice na nn nc, .slice la ln lc, .int .i64 st, .slice pa n pc], .slice a2 J.length k2] X fun e y => ItsErr B 1 X e y) → (∀ X, w.grownBy X none → Calls Try.prog 17 #[.agg #[.slice ta tn tc, .slice na nn nc, .slice la ln lc, .int .i64 st, .slice pa n pc], .slice a3 (I ++ J).length k3] X fun e y => ItsErr C 1 X e y) → (∀ X, w.grownBy X none → Calls Try.prog 19 #[.agg #[.slice ta tn tc, .slice na nn nc, .slice la ln lc, .int .i64 st, .slice pa n pc], .int .i64 s, .slice a1 I.length k1] X fun e y => ItsErr xA i1 X e y) → (∀ X, w.grownBy X none → Calls Try.prog 19 #[.agg #[.slice ta tn tc, .slice na nn nc, .slice la ln lc, .int .i64 st, .slice pa n pc], .int .i64 s, .slice a2 J.length k2] X fun e y => ItsErr xB l1 X e y) → (∀ X, w.grownBy X none → Calls Try.prog 19 #[.agg #[.slice ta tn tc, .slice na nn nc, .slice la ln lc, .int .i64 st, .slice pa n pc], .int .i64 s, .slice a3 (I ++ J).length k3] X fun e y => ItsErr xC 1 X e y) → Q)
    (q3 : ∀ (A B C xA xB xC : List It), A.length + B.length ≤ 8796093062208 → C.length ≤ 8796093062208 → (∀ l', Asc l' → (∀ x, x ∈ l' ↔ x ∈ A ++ B) → l' = C) → (∀ X, w.grownBy X none → Calls Try.prog 17 #[.agg #[.slice ta tn tc, .slice na nn nc, .slice la ln lc, .int .i64 st, .slice pa n pc], .slice a1 I.length k1] X fun e y => ItsErr A 0 X e y) → (∀ X, w.grownBy X none → Calls Try.prog 17 #[.agg #[.slice ta tn tc, .slice na nn nc, .slice la ln lc, .int .i64 st, .slice pa n pc], .slice a2 J.length k2] X fun e y => ItsErr B 0 X e y) → (∀ X, w.grownBy X none → Calls Try.prog 17 #[.agg #[.slice ta tn tc, .slice na nn nc, .slice la ln lc, .int .i64 st, .slice pa n pc], .slice a3 (I ++ J).length k3] X fun e y => ItsErr C 0 X e y) → (∀ X, w.grownBy X none → Calls Try.prog 19 #[.agg #[.slice ta tn tc, .slice na nn nc, .slice la ln lc, .int .i64 st, .slice pa n pc], .int .i64 s, .slice a1 I.length k1] X fun e y => ItsErr xA 1 X e y) → (∀ X, w.grownBy X none → Calls Try.prog 19 #[.agg #[.slice ta tn tc, .slice na nn nc, .slice la ln lc, .int .i64 st, .slice pa n pc], .int .i64 s, .slice a2 J.length k2] X fun e y => ItsErr xB 1 X e y) → (∀ X, w.grownBy X none → Calls Try.prog 19 #[.agg #[.slice ta tn tc, .slice na nn nc, .slice la ln lc, .int .i64 st, .slice pa n pc], .int .i64 s, .slice a3 (I ++ J).length k3] X fun e y => ItsErr xC 1 X e y) → Q)
    (q4 : ∀ (A B C xA xB xC : List It), A.length + B.length ≤ 8796093062208 → C.length ≤ 8796093062208 → (∀ l', Asc l' → (∀ x, x ∈ l' ↔ x ∈ A ++ B) → l' = C) → xA.length + xB.length ≤ 8796093062208 → xC.length ≤ 8796093062208 → (∀ l', Asc l' → (∀ x, x ∈ l' ↔ x ∈ xA ++ xB) → l' = xC) → (∀ X, w.grownBy X none → Calls Try.prog 17 #[.agg #[.slice ta tn tc, .slice na nn nc, .slice la ln lc, .int .i64 st, .slice pa n pc], .slice a1 I.length k1] X fun e y => ItsErr A 0 X e y) → (∀ X, w.grownBy X none → Calls Try.prog 17 #[.agg #[.slice ta tn tc, .slice na nn nc, .slice la ln lc, .int .i64 st, .slice pa n pc], .slice a2 J.length k2] X fun e y => ItsErr B 0 X e y) → (∀ X, w.grownBy X none → Calls Try.prog 17 #[.agg #[.slice ta tn tc, .slice na nn nc, .slice la ln lc, .int .i64 st, .slice pa n pc], .slice a3 (I ++ J).length k3] X fun e y => ItsErr C 0 X e y) → (∀ X, w.grownBy X none → Calls Try.prog 19 #[.agg #[.slice ta tn tc, .slice na nn nc, .slice la ln lc, .int .i64 st, .slice pa n pc], .int .i64 s, .slice a1 I.length k1] X fun e y => ItsErr xA 0 X e y) → (∀ X, w.grownBy X none → Calls Try.prog 19 #[.agg #[.slice ta tn tc, .slice na nn nc, .slice la ln lc, .int .i64 st, .slice pa n pc], .int .i64 s, .slice a2 J.length k2] X fun e y => ItsErr xB 0 X e y) → (∀ X, w.grownBy X none → Calls Try.prog 19 #[.agg #[.slice ta tn tc, .slice na nn nc, .slice la ln lc, .int .i64 st, .slice pa n pc], .int .i64 s, .slice a3 (I ++ J).length k3] X fun e y => ItsErr xC 0 X e y) → Q) : Q := by
  rw [List.length_append] at hb
  have cB := fun (a : Option Addr) (c : Nat) (I : List It) (hI : ItsAt w a I) (hIb : I.length ≤ 8796093022208) (hbad : ¬ closedOK ts ns lv st n L R V ∨ ¬ ∀ x ∈ I, itB n R x = true) (X : World) (hX : w.grownBy X none) => closureBad ta na la pa tc nc lc pc ts ns lv n L R ra rc V st X tn nn ln hlen (hG.kept hX) a c I (hI.kept hX) (by omega) hbad
  have gB := fun (a : Option Addr) (c : Nat) (I : List It) (hI : ItsAt w a I) (hIb : I.length ≤ 8796093022208) (hbad : ¬ closedOK ts ns lv st n L R V ∨ (¬ ∀ x ∈ I, itB n R x = true) ∨ symB (tn + nn) s = false) (X : World) (hX : w.grownBy X none) => gotoBad ta na la pa tc nc lc pc ts ns lv n L R ra rc V st X tn nn ln hlen (hG.kept hX) a c I (hI.kept hX) (by omega) s hbad
  have cK : ∀ (a : Option Addr) (c : Nat) (I : List It), ItsAt w a I → (a = none → I.length = 0 ∧ c = 0) → I.length ≤ 8796093022208 → closedOK ts ns lv st n L R V → (∀ x ∈ I, itB n R x = true) → ∃ l, IsClo tn n L R I l ∧ l.length ≤ I.length + 13000 ∧ ∀ X, w.grownBy X none → Calls Try.prog 17 #[.agg #[.slice ta tn tc, .slice na nn nc, .slice la ln lc, .int .i64 st, .slice pa n pc], .slice a I.length c] X fun e y => ItsErr l 0 X e y := fun a c I hI hn hIb hc hit => by
    have h := fun X (hX : w.grownBy X none) => closureOk ta na la pa tc nc lc pc ts ns lv n L R ra rc V st X tn nn ln hlen (hG.kept hX) a c I (hI.kept hX) (by omega) hn hc hit
    obtain ⟨_, _, l, h1, h2, _⟩ := calls_ex (h w (grown_refl _ _))
    refine ⟨l, h1, h2, fun X hX => (h X hX).mono ?_⟩
    rintro e y ⟨l', h3, _, he⟩
    exact he.same (h3.unique h1)
  have gK : ∀ (q : Nat) (a : Option Addr) (c : Nat) (I l : List It), q < tn + nn → ItsAt w a I → (a = none → I.length = 0 ∧ c = 0) → I.length ≤ 8796093022208 → closedOK ts ns lv st n L R V → (∀ x ∈ I, itB n R x = true) → IsClo tn n L R I l → ∀ X, w.grownBy X none → Calls Try.prog 19 #[.agg #[.slice ta tn tc, .slice na nn nc, .slice la ln lc, .int .i64 st, .slice pa n pc], .int .i64 (q : Int), .slice a I.length c] X fun e y => ItsErr (kerT R l (q : Int)) 0 X e y := fun q a c I l hq hI hn hIb hc hit h1 X hX => by
    refine (gotoOk ta na la pa tc nc lc pc ts ns lv n L R ra rc V st X tn nn ln hlen (hG.kept hX) a c I (hI.kept hX) (by omega) hn q hq hc hit).mono ?_
    rintro e y ⟨l', h3, _, he⟩
    exact he.same (by rw [h3.unique h1])
  have hb3 : (I ++ J).length ≤ 8796093022208 := by rw [List.length_append]; omega
  by_cases hc : closedOK ts ns lv st n L R V
  · by_cases hi1 : ∀ x ∈ I, itB n R x = true
    · obtain ⟨A, hA, hAl, cA⟩ := cK a1 k1 I hI n1 (by omega) hc hi1
      by_cases hi2 : ∀ x ∈ J, itB n R x = true
      · have hi3 : ∀ x ∈ I ++ J, itB n R x = true := fun x hx => (List.mem_append.1 hx).elim (hi1 x) (hi2 x)
        obtain ⟨B, hB, hBl, cBB⟩ := cK a2 k2 J hJ n2 (by omega) hc hi2
        obtain ⟨C, hC, hCl, cC⟩ := cK a3 k3 (I ++ J) hK n3 hb3 hc hi3
        rw [List.length_append] at hCl
        have hsum : ∀ l', Asc l' → (∀ x, x ∈ l' ↔ x ∈ A ++ B) → l' = C := fun l' h1 h2 => h1.unique hC.asc fun x => (h2 x).trans (isClo_sum hA hB hC x).symm
        by_cases hs : 0 ≤ s ∧ s < ((tn + nn : Nat) : Int)
        · obtain ⟨q, rfl⟩ : ∃ q : Nat, s = (q : Int) := ⟨s.toNat, by omega⟩
          have hq : q < tn + nn := by omega
          have e1 := kerT_len R A (q : Int)
          have e2 := kerT_len R B (q : Int)
          have e3 := kerT_len R C (q : Int)
          exact q4 A B C _ _ _ (by omega) (by omega) hsum (by omega) (by omega) (fun l' h1 h2 => h1.unique (kerT_asc hC.asc _) fun x => (h2 x).trans (ker_sum (isClo_sum hA hB hC) (q : Int) x).symm) cA cBB cC (gK q a1 k1 I A hq hI n1 (by omega) hc hi1 hA) (gK q a2 k2 J B hq hJ n2 (by omega) hc hi2 hB) (gK q a3 k3 (I ++ J) C hq hK n3 hb3 hc hi3 hC)
        · have hns := not_symB hs
          exact q3 A B C [] [] [] (by omega) (by omega) hsum cA cBB cC (gB a1 k1 I hI (by omega) (.inr (.inr hns))) (gB a2 k2 J hJ (by omega) (.inr (.inr hns))) (gB a3 k3 (I ++ J) hK hb3 (.inr (.inr hns)))
      · have hi3 : ¬ ∀ x ∈ I ++ J, itB n R x = true := fun h => hi2 fun x hx => h x (List.mem_append.2 (.inr hx))
        by_cases hs : 0 ≤ s ∧ s < ((tn + nn : Nat) : Int)
        · obtain ⟨q, rfl⟩ : ∃ q : Nat, s = (q : Int) := ⟨s.toNat, by omega⟩
          exact q2 A [] [] _ [] [] 0 1 cA (cB a2 k2 J hJ (by omega) (.inr hi2)) (cB a3 k3 (I ++ J) hK hb3 (.inr hi3)) (gK q a1 k1 I A (by omega) hI n1 (by omega) hc hi1 hA) (gB a2 k2 J hJ (by omega) (.inr (.inl hi2))) (gB a3 k3 (I ++ J) hK hb3 (.inr (.inl hi3)))
        · have hns := not_symB hs
          exact q2 A [] [] [] [] [] 1 1 cA (cB a2 k2 J hJ (by omega) (.inr hi2)) (cB a3 k3 (I ++ J) hK hb3 (.inr hi3)) (gB a1 k1 I hI (by omega) (.inr (.inr hns))) (gB a2 k2 J hJ (by omega) (.inr (.inl hi2))) (gB a3 k3 (I ++ J) hK hb3 (.inr (.inl hi3)))
    · have hi3 : ¬ ∀ x ∈ I ++ J, itB n R x = true := fun h => hi1 fun x hx => h x (List.mem_append.2 (.inl hx))
      by_cases hi2 : ∀ x ∈ J, itB n R x = true
      · obtain ⟨B, hB, hBl, cBB⟩ := cK a2 k2 J hJ n2 (by omega) hc hi2
        by_cases hs : 0 ≤ s ∧ s < ((tn + nn : Nat) : Int)
        · obtain ⟨q, rfl⟩ : ∃ q : Nat, s = (q : Int) := ⟨s.toNat, by omega⟩
          exact q1 [] B [] [] _ [] 0 1 0 (cB a1 k1 I hI (by omega) (.inr hi1)) cBB (cB a3 k3 (I ++ J) hK hb3 (.inr hi3)) (gB a1 k1 I hI (by omega) (.inr (.inl hi1))) (gK q a2 k2 J B (by omega) hJ n2 (by omega) hc hi2 hB) (gB a3 k3 (I ++ J) hK hb3 (.inr (.inl hi3)))
        · have hns := not_symB hs
          exact q1 [] B [] [] [] [] 0 1 1 (cB a1 k1 I hI (by omega) (.inr hi1)) cBB (cB a3 k3 (I ++ J) hK hb3 (.inr hi3)) (gB a1 k1 I hI (by omega) (.inr (.inl hi1))) (gB a2 k2 J hJ (by omega) (.inr (.inr hns))) (gB a3 k3 (I ++ J) hK hb3 (.inr (.inl hi3)))
      · exact q1 [] [] [] [] [] [] 1 1 1 (cB a1 k1 I hI (by omega) (.inr hi1)) (cB a2 k2 J hJ (by omega) (.inr hi2)) (cB a3 k3 (I ++ J) hK hb3 (.inr hi3)) (gB a1 k1 I hI (by omega) (.inr (.inl hi1))) (gB a2 k2 J hJ (by omega) (.inr (.inl hi2))) (gB a3 k3 (I ++ J) hK hb3 (.inr (.inl hi3)))
  · exact q1 [] [] [] [] [] [] 1 1 1 (cB a1 k1 I hI (by omega) (.inl hc)) (cB a2 k2 J hJ (by omega) (.inl hc)) (cB a3 k3 (I ++ J) hK hb3 (.inl hc)) (gB a1 k1 I hI (by omega) (.inl hc)) (gB a2 k2 J hJ (by omega) (.inl hc)) (gB a3 k3 (I ++ J) hK hb3 (.inl hc))

theorem sums_core (a : Option Addr) (cap : Nat) (I : List It) (hI : ItsAt w a I) (s : Int) (hIb : I.length ≤ 8796093022208) (hnil : a = none → I.length = 0 ∧ cap = 0) (hcap : I.length ≤ cap) : Calls Try.prog 8 #[.agg #[.slice ta tn tc, .slice na nn nc, .slice la ln lc, .int .i64 st, .slice pa n pc], .int .i64 s, .slice a I.length cap] w fun e w' => e = .returned (.bool true) ∧ w.grownBy w' none := by
  by_cases h0 : cap = 0
  · subst h0
    have hI0 : I = [] := List.eq_nil_of_length_eq_zero (by omega)
    subst hI0
    refine sums_told ta na la pa tc nc lc pc ts ns lv n L R ra rc V st w tn nn ln hlen hG s a a a 0 0 0 [] [] (.inl rfl) (.inl rfl) (.inl rfl) (fun _ => ⟨rfl, rfl⟩) (fun _ => ⟨rfl, rfl⟩) (fun _ => ⟨rfl, rfl⟩) (by decide)
      (fun A B C xA xB xC f1 i1 l1 c1 c2 c3 g1 g2 g3 => sums_bad1Z ta na la pa tc nc lc pc n st w tn nn ln s a A B C xA xB xC f1 i1 l1 c1 c2 c3 g1 g2 g3)
      (fun A B C xA xB xC i1 l1 c1 c2 c3 g1 g2 g3 => sums_bad2Z ta na la pa tc nc lc pc n st w tn nn ln s a A B C xA xB xC i1 l1 c1 c2 c3 g1 g2 g3)
      (fun A B C xA xB xC b1 b2 b3 c1 c2 c3 g1 g2 g3 => sums_okbadZ ta na la pa tc nc lc pc n st w tn nn ln s a A B C xA xB xC b1 b2 b3 c1 c2 c3 g1 g2 g3)
      (fun A B C xA xB xC b1 b2 b3 b4 b5 b6 c1 c2 c3 g1 g2 g3 => sums_okokZ ta na la pa tc nc lc pc n st w tn nn ln s a A B C xA xB xC b1 b2 b3 b4 b5 b6 c1 c2 c3 g1 g2 g3)
  · cases a with
    | none => exact absurd (hnil rfl).2 h0
    | some x =>
      obtain ⟨k, hk⟩ : ∃ k, k = I.length / 2 := ⟨_, rfl⟩
      have e1 : (I.take k).length = k := by rw [List.length_take]; omega
      have e2 : (I.drop k).length = I.length - k := List.length_drop
      have e3 : I.take k ++ I.drop k = I := List.take_append_drop k I
      have h := fun (Q : Prop) => sums_told ta na la pa tc nc lc pc ts ns lv n L R ra rc V st w tn nn ln hlen hG s (some x) (some (x.add (k * 2))) (some x) cap (cap - k) cap (I.take k) (I.drop k) (its_takeS hI k) (its_drop hI k) (by rw [e3]; exact hI) (fun h => by cases h) (fun h => by cases h) (fun h => by cases h) (by rw [e3]; exact hIb) (Q := Q)
      simp only [e1, e2, e3] at h
      exact h _
        (fun A B C xA xB xC f1 i1 l1 c1 c2 c3 g1 g2 g3 => sums_bad1P ta na la pa tc nc lc pc n st w tn nn ln s x cap k I.length hk hcap (by omega) hIb A B C xA xB xC f1 i1 l1 c1 c2 c3 g1 g2 g3)
        (fun A B C xA xB xC i1 l1 c1 c2 c3 g1 g2 g3 => sums_bad2P ta na la pa tc nc lc pc n st w tn nn ln s x cap k I.length hk hcap (by omega) hIb A B C xA xB xC i1 l1 c1 c2 c3 g1 g2 g3)
        (fun A B C xA xB xC b1 b2 b3 c1 c2 c3 g1 g2 g3 => sums_okbadP ta na la pa tc nc lc pc n st w tn nn ln s x cap k I.length hk hcap (by omega) hIb A B C xA xB xC b1 b2 b3 c1 c2 c3 g1 g2 g3)
        (fun A B C xA xB xC b1 b2 b3 b4 b5 b6 c1 c2 c3 g1 g2 g3 => sums_okokP ta na la pa tc nc lc pc n st w tn nn ln s x cap k I.length hk hcap (by omega) hIb A B C xA xB xC b1 b2 b3 b4 b5 b6 c1 c2 c3 g1 g2 g3)
end

end Go.Proofs.Ytfjbgnmmlppmeaa.J
