import Derived.Test.YtkcdipnobgggkaaQgdbmpebiaioo
import Derived.Test.YtkcdipnobgggkaaRows
import Derived.Test.YtkcdipnobgggkaaQocbjebcomjkn

/-
  trans: the law TransTwice, walked.
-/
namespace Go.Proofs.Ytkcdipnobgggkaa.J
open Go.RowKit Go.Maps Go.Shelf

attribute [local go_sem] Oper.semAt_some

theorem intV_len (l : List Int) : (intV l).length = l.length := by unfold intV; rw [List.length_map]
theorem intV_one (l : List Int) : ∀ u ∈ intV l, u.oneCell' = true := by
  intro u h
  unfold intV at h
  obtain ⟨i, _, rfl⟩ := List.mem_map.1 h
  rfl
theorem ints_cells {X : World} {a : Option Addr} {l : List Int} (h : IntsAt X a l) (ad : Addr) (e : a = some ad) (j : Nat) (u : Value) (hu : (intV l)[j]? = some u) : X.cell? (ad.add j) = some u := by
  rcases h with h | ⟨b, off, e2, h⟩
  · rw [h] at hu; simp [intV] at hu
  · rw [e2] at e
    have e3 : ad = ⟨b, off, none⟩ := by simpa using e.symm
    subst e3
    have hj : j < l.length := by
      have := (List.getElem?_eq_some_iff.1 hu).1
      rwa [intV_len] at this
    rw [Addr.add_mid, h j hj]
    unfold intV at hu
    rw [List.getElem?_map, List.getElem?_eq_getElem hj] at hu
    rw [List.getD_eq_getElem?_getD, List.getElem?_eq_getElem hj]
    simpa using hu
theorem ints_of {X : World} {B c : Nat} {a : Option Addr} {l : List Int} (h : X.ownsRow B 3 1 (.slice a l.length c) l.length (intV l)) : IntsAt X a l := by
  rcases h.2 with ⟨_, h2⟩ | ⟨g, cap, cur, hv, hB, hh, _, _, hs, ht⟩
  · exact .inl (List.eq_nil_of_length_eq_zero h2)
  · right
    simp only [Value.slice.injEq] at hv
    refine ⟨g, 0, hv.1, fun i hi => ?_⟩
    have h3 : (intV l)[i]? = some (.int .i64 (l.getD i 0)) := by
      unfold intV
      rw [List.getElem?_map, List.getElem?_eq_getElem hi, List.getD_eq_getElem?_getD, List.getElem?_eq_getElem hi]; rfl
    rw [← ht, List.getElem?_take, if_pos (by omega)] at h3
    rw [Nat.zero_add, cell_of_row _ _ _ _ _ _ hh]
    simpa using h3

section
variable (ta na la pa : Option Addr) (tc nc lc pc : Nat) (n : Nat) (st : Int) (w : World) (tn nn ln : Nat)

set_option maxRecDepth 100000 in
set_option maxHeartbeats 4000000 in
theorem twice_err (z : Int) (oa wa : Option Addr) (oc wc : Nat) (one two : List Int) (h1 : IntsAt w oa one) (h2 : IntsAt w wa two) (n1 : oa = none → one.length = 0 ∧ oc = 0) (n2 : wa = none → two.length = 0 ∧ wc = 0) (hb1 : one.length ≤ 1048576) (hb2 : two.length ≤ 1048576) (e1 f1 : Int) (he1 : e1 ≠ 0) (hf1 : f1 ≠ 0)
    (hW1 : ∀ X, w.grownBy X none → Calls Try.prog 10 #[.agg #[.slice ta tn tc, .slice na nn nc, .slice la ln lc, .int .i64 st, .slice pa n pc], .int .i64 z, .slice oa one.length oc] X fun e y => e = .returned (.tuple #[.int .i64 0, .int .i64 e1]) ∧ X.grownBy y none)
    (hW2 : ∀ X a' c', w.grownBy X none → IntsAt X a' (one ++ two) → Calls Try.prog 10 #[.agg #[.slice ta tn tc, .slice na nn nc, .slice la ln lc, .int .i64 st, .slice pa n pc], .int .i64 z, .slice a' (one ++ two).length c'] X fun e y => e = .returned (.tuple #[.int .i64 0, .int .i64 f1]) ∧ X.grownBy y none) :
    Calls Try.prog 4 #[.agg #[.slice ta tn tc, .slice na nn nc, .slice la ln lc, .int .i64 st, .slice pa n pc], .int .i64 z, .agg #[.slice oa one.length oc, .slice wa two.length wc]] w fun e w' => e = .returned (.bool true) ∧ w.grownBy w' none := by
  have HW1 := show Hid _ from hW1
  have HW2 := show Hid _ from hW2
  have d1 : (e1 != 0) = true := bne_iff_ne.2 he1
  have d2 : (f1 != 0) = true := bne_iff_ne.2 hf1
  clear he1 hf1
  obtain ⟨on, hon⟩ : ∃ m, m = one.length := ⟨_, rfl⟩
  obtain ⟨wn, hwn⟩ : ∃ m, m = two.length := ⟨_, rfl⟩
  have HL : Hid ((one ++ two).length = on + wn) := by show _ = _; rw [List.length_append, hon, hwn]
  have HI1 : Hid (∀ Y, w.grownBy Y none → IntsAt Y oa one) := fun Y hY => h1.kept hY
  have HI2 : Hid (∀ Y, w.grownBy Y none → IntsAt Y wa two) := fun Y hY => h2.kept hY
  have HV1 : Hid ((intV one).length = on * 1) := by show _ = _; rw [intV_len, hon]; omega
  have HV2 : Hid ((intV two).length = wn * 1) := by show _ = _; rw [intV_len, hwn]; omega
  have HN1 : Hid (oa = none → on = 0 ∧ oc = 0) := by rw [hon]; exact n1
  have HN2 : Hid (wa = none → wn = 0 ∧ wc = 0) := by rw [hwn]; exact n2
  rw [← hon] at HW1 hb1
  rw [← hwn] at hb2
  rw [← hon, ← hwn]
  obtain ⟨i0, hi0, hz0, hz1, hz2⟩ := info_parts infoInt
  have HX0 : Hid (PhAt w ((w.alloc (.cells #[.slice ta tn tc, .slice na nn nc, .slice la ln lc, .int .i64 st, .slice pa n pc] 27)).alloc (.cells #[.slice oa on oc, .slice wa wn wc] 38)) w.heap.size #[.slice ta tn tc, .slice na nn nc, .slice la ln lc, .int .i64 st, .slice pa n pc]) := PhAt.kept ⟨World.grownBy_alloc _ _ none, heap_alloc_last w _⟩ (World.grownBy_alloc _ _ none)
  have HR0 : Hid (((w.alloc (.cells #[.slice ta tn tc, .slice na nn nc, .slice la ln lc, .int .i64 st, .slice pa n pc] 27)).alloc (.cells #[.slice oa on oc, .slice wa wn wc] 38)).heap[w.heap.size + 1]? = some (.cells #[.slice oa on oc, .slice wa wn wc] 38 (0, 0))) := by
    have h := heap_alloc_last (w.alloc (.cells #[.slice ta tn tc, .slice na nn nc, .slice la ln lc, .int .i64 st, .slice pa n pc] 27)) (.cells #[.slice oa on oc, .slice wa wn wc] 38)
    rw [World.size_alloc] at h; exact h
  clear hW1 hW2 h1 h2 n1 n2 hon hwn
  go_enter Try.func4, Try.ntmps4
  go_wp2_with fail
  refine Calls.mono (awake_any _) ?_
  rintro e w1 ⟨rfl, hg1⟩
  have HX1 : Hid (PhAt w w1 w.heap.size #[.slice ta tn tc, .slice na nn nc, .slice la ln lc, .int .i64 st, .slice pa n pc]) := HX0.out.kept hg1
  have hr := box_kept HR0.out hg1
  have r0 : w1.cell? ⟨w.heap.size + 1, 0, none⟩ = some (.slice oa on oc) := by rw [cell_of_row _ _ _ _ _ _ hr]; rfl
  have r1 : w1.cell? ⟨w.heap.size + 1, 1, none⟩ = some (.slice wa wn wc) := by rw [cell_of_row _ _ _ _ _ _ hr]; rfl
  have HS1 : Hid (∀ ad, oa = some ad → ∀ j u, (intV one)[j]? = some u → w1.cell? (ad.add j) = some u) := fun ad e j u hu => ints_cells (HI1.out w1 HX1.out.grown) ad e j u hu
  clear hg1 HX0 HR0 hr
  go_wp2_with (at_builtin; first | (refine wpList_append_srcW rfl (.tmp 22) (.tmp 23) 24 rfl w1.heap.size 3 i0 (.int .i64 0) 1 8 Try.underlying24 hi0 hz0 hz1 hz2 rfl (by decide) (.slice none 0 0) 0 [] rfl (World.ownsRow_nil _ _ _ _) oa on oc (intV one) rfl HN1.out HV1.out HS1.out (intV_one _) (by unfold maxLen; omega) (by omega) (Nat.le_refl _) ?_; intro v8 w2 ho hg; rw [Nat.zero_add, List.nil_append] at ho; obtain ⟨p2, q2, rfl⟩ := owns_slice ho; have HO2 : Hid (w2.ownsRow w1.heap.size 3 1 (.slice p2 on q2) on (intV one)) := ho; have HG2 : Hid (w1.grownBy w2 none) := hg; have HS2 : Hid (∀ ad, wa = some ad → ∀ j u, (intV two)[j]? = some u → w2.cell? (ad.add j) = some u) := fun ad e j u hu => ints_cells (HI2.out w2 (grown_trans HX1.out.grown HG2.out)) ad e j u hu; clear ho hg) | (refine wpList_append_srcW rfl (.tmp 25) (.tmp 26) 24 rfl w1.heap.size 3 i0 (.int .i64 0) 1 8 Try.underlying24 hi0 hz0 hz1 hz2 rfl (by decide) (.slice p2 on q2) on (intV one) rfl HO2.out wa wn wc (intV two) rfl HN2.out HV2.out HS2.out (intV_one _) (by unfold maxLen; omega) (by omega) HG2.out.size ?_; intro v9 w3 ho hg; rw [← intV_append] at ho; obtain ⟨p3, q3, rfl⟩ := owns_slice ho; have HO3 : Hid (w3.ownsRow w1.heap.size 3 1 (.slice p3 (on + wn) q3) (on + wn) (intV (one ++ two))) := ho; have HG3 : Hid (w1.grownBy w3 none) := grown_owned HG2.out HO2.out (Nat.le_refl _) hg; obtain ⟨k0, k1, k2, k3, k4⟩ := (HX1.out.kept HG3.out).cells; clear ho hg) | fail)
  have HX3 : Hid (PhAt w w3 w.heap.size #[.slice ta tn tc, .slice na nn nc, .slice la ln lc, .int .i64 st, .slice pa n pc]) := HX1.out.kept HG3.out
  have HI3 : Hid (∀ Y, w3.grownBy Y none → IntsAt Y p3 (one ++ two)) := fun Y hY => (ints_of (by rw [HL.out]; exact HO3.out)).kept hY
  clear HO2 HO3 HG2 HG3 HS1 HS2 HX1 r0 r1 k0 k1 k2 k3 k4
  refine Calls.mono (HW1.out w3 HX3.out.grown) ?_
  rintro e w4 ⟨rfl, hg4⟩
  have HX4 : Hid (PhAt w w4 w.heap.size #[.slice ta tn tc, .slice na nn nc, .slice la ln lc, .int .i64 st, .slice pa n pc]) := HX3.out.kept hg4
  have HW2C := show Hid _ from HW2.out w4 p3 q3 HX4.out.grown (HI3.out w4 hg4)
  rw [HL.out] at HW2C
  obtain ⟨k0, k1, k2, k3, k4⟩ := HX4.out.cells
  clear hg4 HX3
  go_wp2_with fail
  refine Calls.mono HW2C.out ?_
  rintro e w5 ⟨rfl, hg5⟩
  have HX5 : Hid (PhAt w w5 w.heap.size #[.slice ta tn tc, .slice na nn nc, .slice la ln lc, .int .i64 st, .slice pa n pc]) := HX4.out.kept hg5
  clear hg5 HW2C HX4 k0 k1 k2 k3 k4
  go_wp2_with fail
  go_ret
  exact ⟨rfl, HX5.out.grown⟩

set_option maxRecDepth 100000 in
set_option maxHeartbeats 4000000 in
theorem twice_lost0 (z : Int) (oa wa : Option Addr) (oc wc : Nat) (one two : List Int) (h1 : IntsAt w oa one) (h2 : IntsAt w wa two) (n1 : oa = none → one.length = 0 ∧ oc = 0) (n2 : wa = none → two.length = 0 ∧ wc = 0) (hb1 : one.length ≤ 1048576) (hb2 : two.length ≤ 1048576) 
    (hW1 : ∀ X, w.grownBy X none → Calls Try.prog 10 #[.agg #[.slice ta tn tc, .slice na nn nc, .slice la ln lc, .int .i64 st, .slice pa n pc], .int .i64 z, .slice oa one.length oc] X fun e y => e = .returned (.tuple #[.int .i64 (-1), .int .i64 0]) ∧ X.grownBy y none)
    (hW2 : ∀ X a' c', w.grownBy X none → IntsAt X a' (one ++ two) → Calls Try.prog 10 #[.agg #[.slice ta tn tc, .slice na nn nc, .slice la ln lc, .int .i64 st, .slice pa n pc], .int .i64 z, .slice a' (one ++ two).length c'] X fun e y => e = .returned (.tuple #[.int .i64 (-1), .int .i64 0]) ∧ X.grownBy y none) :
    Calls Try.prog 4 #[.agg #[.slice ta tn tc, .slice na nn nc, .slice la ln lc, .int .i64 st, .slice pa n pc], .int .i64 z, .agg #[.slice oa one.length oc, .slice wa two.length wc]] w fun e w' => e = .returned (.bool true) ∧ w.grownBy w' none := by
  have HW1 := show Hid _ from hW1
  have HW2 := show Hid _ from hW2
  obtain ⟨on, hon⟩ : ∃ m, m = one.length := ⟨_, rfl⟩
  obtain ⟨wn, hwn⟩ : ∃ m, m = two.length := ⟨_, rfl⟩
  have HL : Hid ((one ++ two).length = on + wn) := by show _ = _; rw [List.length_append, hon, hwn]
  have HI1 : Hid (∀ Y, w.grownBy Y none → IntsAt Y oa one) := fun Y hY => h1.kept hY
  have HI2 : Hid (∀ Y, w.grownBy Y none → IntsAt Y wa two) := fun Y hY => h2.kept hY
  have HV1 : Hid ((intV one).length = on * 1) := by show _ = _; rw [intV_len, hon]; omega
  have HV2 : Hid ((intV two).length = wn * 1) := by show _ = _; rw [intV_len, hwn]; omega
  have HN1 : Hid (oa = none → on = 0 ∧ oc = 0) := by rw [hon]; exact n1
  have HN2 : Hid (wa = none → wn = 0 ∧ wc = 0) := by rw [hwn]; exact n2
  rw [← hon] at HW1 hb1
  rw [← hwn] at hb2
  rw [← hon, ← hwn]
  obtain ⟨i0, hi0, hz0, hz1, hz2⟩ := info_parts infoInt
  have HX0 : Hid (PhAt w ((w.alloc (.cells #[.slice ta tn tc, .slice na nn nc, .slice la ln lc, .int .i64 st, .slice pa n pc] 27)).alloc (.cells #[.slice oa on oc, .slice wa wn wc] 38)) w.heap.size #[.slice ta tn tc, .slice na nn nc, .slice la ln lc, .int .i64 st, .slice pa n pc]) := PhAt.kept ⟨World.grownBy_alloc _ _ none, heap_alloc_last w _⟩ (World.grownBy_alloc _ _ none)
  have HR0 : Hid (((w.alloc (.cells #[.slice ta tn tc, .slice na nn nc, .slice la ln lc, .int .i64 st, .slice pa n pc] 27)).alloc (.cells #[.slice oa on oc, .slice wa wn wc] 38)).heap[w.heap.size + 1]? = some (.cells #[.slice oa on oc, .slice wa wn wc] 38 (0, 0))) := by
    have h := heap_alloc_last (w.alloc (.cells #[.slice ta tn tc, .slice na nn nc, .slice la ln lc, .int .i64 st, .slice pa n pc] 27)) (.cells #[.slice oa on oc, .slice wa wn wc] 38)
    rw [World.size_alloc] at h; exact h
  clear hW1 hW2 h1 h2 n1 n2 hon hwn
  go_enter Try.func4, Try.ntmps4
  go_wp2_with fail
  refine Calls.mono (awake_any _) ?_
  rintro e w1 ⟨rfl, hg1⟩
  have HX1 : Hid (PhAt w w1 w.heap.size #[.slice ta tn tc, .slice na nn nc, .slice la ln lc, .int .i64 st, .slice pa n pc]) := HX0.out.kept hg1
  have hr := box_kept HR0.out hg1
  have r0 : w1.cell? ⟨w.heap.size + 1, 0, none⟩ = some (.slice oa on oc) := by rw [cell_of_row _ _ _ _ _ _ hr]; rfl
  have r1 : w1.cell? ⟨w.heap.size + 1, 1, none⟩ = some (.slice wa wn wc) := by rw [cell_of_row _ _ _ _ _ _ hr]; rfl
  have HS1 : Hid (∀ ad, oa = some ad → ∀ j u, (intV one)[j]? = some u → w1.cell? (ad.add j) = some u) := fun ad e j u hu => ints_cells (HI1.out w1 HX1.out.grown) ad e j u hu
  clear hg1 HX0 HR0 hr
  go_wp2_with (at_builtin; first | (refine wpList_append_srcW rfl (.tmp 22) (.tmp 23) 24 rfl w1.heap.size 3 i0 (.int .i64 0) 1 8 Try.underlying24 hi0 hz0 hz1 hz2 rfl (by decide) (.slice none 0 0) 0 [] rfl (World.ownsRow_nil _ _ _ _) oa on oc (intV one) rfl HN1.out HV1.out HS1.out (intV_one _) (by unfold maxLen; omega) (by omega) (Nat.le_refl _) ?_; intro v8 w2 ho hg; rw [Nat.zero_add, List.nil_append] at ho; obtain ⟨p2, q2, rfl⟩ := owns_slice ho; have HO2 : Hid (w2.ownsRow w1.heap.size 3 1 (.slice p2 on q2) on (intV one)) := ho; have HG2 : Hid (w1.grownBy w2 none) := hg; have HS2 : Hid (∀ ad, wa = some ad → ∀ j u, (intV two)[j]? = some u → w2.cell? (ad.add j) = some u) := fun ad e j u hu => ints_cells (HI2.out w2 (grown_trans HX1.out.grown HG2.out)) ad e j u hu; clear ho hg) | (refine wpList_append_srcW rfl (.tmp 25) (.tmp 26) 24 rfl w1.heap.size 3 i0 (.int .i64 0) 1 8 Try.underlying24 hi0 hz0 hz1 hz2 rfl (by decide) (.slice p2 on q2) on (intV one) rfl HO2.out wa wn wc (intV two) rfl HN2.out HV2.out HS2.out (intV_one _) (by unfold maxLen; omega) (by omega) HG2.out.size ?_; intro v9 w3 ho hg; rw [← intV_append] at ho; obtain ⟨p3, q3, rfl⟩ := owns_slice ho; have HO3 : Hid (w3.ownsRow w1.heap.size 3 1 (.slice p3 (on + wn) q3) (on + wn) (intV (one ++ two))) := ho; have HG3 : Hid (w1.grownBy w3 none) := grown_owned HG2.out HO2.out (Nat.le_refl _) hg; obtain ⟨k0, k1, k2, k3, k4⟩ := (HX1.out.kept HG3.out).cells; clear ho hg) | fail)
  have HX3 : Hid (PhAt w w3 w.heap.size #[.slice ta tn tc, .slice na nn nc, .slice la ln lc, .int .i64 st, .slice pa n pc]) := HX1.out.kept HG3.out
  have HI3 : Hid (∀ Y, w3.grownBy Y none → IntsAt Y p3 (one ++ two)) := fun Y hY => (ints_of (by rw [HL.out]; exact HO3.out)).kept hY
  clear HO2 HO3 HG2 HG3 HS1 HS2 HX1 r0 r1 k0 k1 k2 k3 k4
  refine Calls.mono (HW1.out w3 HX3.out.grown) ?_
  rintro e w4 ⟨rfl, hg4⟩
  have HX4 : Hid (PhAt w w4 w.heap.size #[.slice ta tn tc, .slice na nn nc, .slice la ln lc, .int .i64 st, .slice pa n pc]) := HX3.out.kept hg4
  have HW2C := show Hid _ from HW2.out w4 p3 q3 HX4.out.grown (HI3.out w4 hg4)
  rw [HL.out] at HW2C
  obtain ⟨k0, k1, k2, k3, k4⟩ := HX4.out.cells
  clear hg4 HX3
  go_wp2_with fail
  refine Calls.mono HW2C.out ?_
  rintro e w5 ⟨rfl, hg5⟩
  have HX5 : Hid (PhAt w w5 w.heap.size #[.slice ta tn tc, .slice na nn nc, .slice la ln lc, .int .i64 st, .slice pa n pc]) := HX4.out.kept hg5
  clear hg5 HW2C HX4 k0 k1 k2 k3 k4
  go_wp2_with fail
  go_ret
  exact ⟨rfl, HX5.out.grown⟩

set_option maxRecDepth 100000 in
set_option maxHeartbeats 4000000 in
theorem twice_lost1 (z : Int) (oa wa : Option Addr) (oc wc : Nat) (one two : List Int) (h1 : IntsAt w oa one) (h2 : IntsAt w wa two) (n1 : oa = none → one.length = 0 ∧ oc = 0) (n2 : wa = none → two.length = 0 ∧ wc = 0) (hb1 : one.length ≤ 1048576) (hb2 : two.length ≤ 1048576) 
    (hW1 : ∀ X, w.grownBy X none → Calls Try.prog 10 #[.agg #[.slice ta tn tc, .slice na nn nc, .slice la ln lc, .int .i64 st, .slice pa n pc], .int .i64 z, .slice oa one.length oc] X fun e y => e = .returned (.tuple #[.int .i64 (-1), .int .i64 0]) ∧ X.grownBy y none)
    (hW2 : ∀ X a' c', w.grownBy X none → IntsAt X a' (one ++ two) → Calls Try.prog 10 #[.agg #[.slice ta tn tc, .slice na nn nc, .slice la ln lc, .int .i64 st, .slice pa n pc], .int .i64 z, .slice a' (one ++ two).length c'] X fun e y => e = .returned (.tuple #[.int .i64 0, .int .i64 1]) ∧ X.grownBy y none) :
    Calls Try.prog 4 #[.agg #[.slice ta tn tc, .slice na nn nc, .slice la ln lc, .int .i64 st, .slice pa n pc], .int .i64 z, .agg #[.slice oa one.length oc, .slice wa two.length wc]] w fun e w' => e = .returned (.bool true) ∧ w.grownBy w' none := by
  have HW1 := show Hid _ from hW1
  have HW2 := show Hid _ from hW2
  obtain ⟨on, hon⟩ : ∃ m, m = one.length := ⟨_, rfl⟩
  obtain ⟨wn, hwn⟩ : ∃ m, m = two.length := ⟨_, rfl⟩
  have HL : Hid ((one ++ two).length = on + wn) := by show _ = _; rw [List.length_append, hon, hwn]
  have HI1 : Hid (∀ Y, w.grownBy Y none → IntsAt Y oa one) := fun Y hY => h1.kept hY
  have HI2 : Hid (∀ Y, w.grownBy Y none → IntsAt Y wa two) := fun Y hY => h2.kept hY
  have HV1 : Hid ((intV one).length = on * 1) := by show _ = _; rw [intV_len, hon]; omega
  have HV2 : Hid ((intV two).length = wn * 1) := by show _ = _; rw [intV_len, hwn]; omega
  have HN1 : Hid (oa = none → on = 0 ∧ oc = 0) := by rw [hon]; exact n1
  have HN2 : Hid (wa = none → wn = 0 ∧ wc = 0) := by rw [hwn]; exact n2
  rw [← hon] at HW1 hb1
  rw [← hwn] at hb2
  rw [← hon, ← hwn]
  obtain ⟨i0, hi0, hz0, hz1, hz2⟩ := info_parts infoInt
  have HX0 : Hid (PhAt w ((w.alloc (.cells #[.slice ta tn tc, .slice na nn nc, .slice la ln lc, .int .i64 st, .slice pa n pc] 27)).alloc (.cells #[.slice oa on oc, .slice wa wn wc] 38)) w.heap.size #[.slice ta tn tc, .slice na nn nc, .slice la ln lc, .int .i64 st, .slice pa n pc]) := PhAt.kept ⟨World.grownBy_alloc _ _ none, heap_alloc_last w _⟩ (World.grownBy_alloc _ _ none)
  have HR0 : Hid (((w.alloc (.cells #[.slice ta tn tc, .slice na nn nc, .slice la ln lc, .int .i64 st, .slice pa n pc] 27)).alloc (.cells #[.slice oa on oc, .slice wa wn wc] 38)).heap[w.heap.size + 1]? = some (.cells #[.slice oa on oc, .slice wa wn wc] 38 (0, 0))) := by
    have h := heap_alloc_last (w.alloc (.cells #[.slice ta tn tc, .slice na nn nc, .slice la ln lc, .int .i64 st, .slice pa n pc] 27)) (.cells #[.slice oa on oc, .slice wa wn wc] 38)
    rw [World.size_alloc] at h; exact h
  clear hW1 hW2 h1 h2 n1 n2 hon hwn
  go_enter Try.func4, Try.ntmps4
  go_wp2_with fail
  refine Calls.mono (awake_any _) ?_
  rintro e w1 ⟨rfl, hg1⟩
  have HX1 : Hid (PhAt w w1 w.heap.size #[.slice ta tn tc, .slice na nn nc, .slice la ln lc, .int .i64 st, .slice pa n pc]) := HX0.out.kept hg1
  have hr := box_kept HR0.out hg1
  have r0 : w1.cell? ⟨w.heap.size + 1, 0, none⟩ = some (.slice oa on oc) := by rw [cell_of_row _ _ _ _ _ _ hr]; rfl
  have r1 : w1.cell? ⟨w.heap.size + 1, 1, none⟩ = some (.slice wa wn wc) := by rw [cell_of_row _ _ _ _ _ _ hr]; rfl
  have HS1 : Hid (∀ ad, oa = some ad → ∀ j u, (intV one)[j]? = some u → w1.cell? (ad.add j) = some u) := fun ad e j u hu => ints_cells (HI1.out w1 HX1.out.grown) ad e j u hu
  clear hg1 HX0 HR0 hr
  go_wp2_with (at_builtin; first | (refine wpList_append_srcW rfl (.tmp 22) (.tmp 23) 24 rfl w1.heap.size 3 i0 (.int .i64 0) 1 8 Try.underlying24 hi0 hz0 hz1 hz2 rfl (by decide) (.slice none 0 0) 0 [] rfl (World.ownsRow_nil _ _ _ _) oa on oc (intV one) rfl HN1.out HV1.out HS1.out (intV_one _) (by unfold maxLen; omega) (by omega) (Nat.le_refl _) ?_; intro v8 w2 ho hg; rw [Nat.zero_add, List.nil_append] at ho; obtain ⟨p2, q2, rfl⟩ := owns_slice ho; have HO2 : Hid (w2.ownsRow w1.heap.size 3 1 (.slice p2 on q2) on (intV one)) := ho; have HG2 : Hid (w1.grownBy w2 none) := hg; have HS2 : Hid (∀ ad, wa = some ad → ∀ j u, (intV two)[j]? = some u → w2.cell? (ad.add j) = some u) := fun ad e j u hu => ints_cells (HI2.out w2 (grown_trans HX1.out.grown HG2.out)) ad e j u hu; clear ho hg) | (refine wpList_append_srcW rfl (.tmp 25) (.tmp 26) 24 rfl w1.heap.size 3 i0 (.int .i64 0) 1 8 Try.underlying24 hi0 hz0 hz1 hz2 rfl (by decide) (.slice p2 on q2) on (intV one) rfl HO2.out wa wn wc (intV two) rfl HN2.out HV2.out HS2.out (intV_one _) (by unfold maxLen; omega) (by omega) HG2.out.size ?_; intro v9 w3 ho hg; rw [← intV_append] at ho; obtain ⟨p3, q3, rfl⟩ := owns_slice ho; have HO3 : Hid (w3.ownsRow w1.heap.size 3 1 (.slice p3 (on + wn) q3) (on + wn) (intV (one ++ two))) := ho; have HG3 : Hid (w1.grownBy w3 none) := grown_owned HG2.out HO2.out (Nat.le_refl _) hg; obtain ⟨k0, k1, k2, k3, k4⟩ := (HX1.out.kept HG3.out).cells; clear ho hg) | fail)
  have HX3 : Hid (PhAt w w3 w.heap.size #[.slice ta tn tc, .slice na nn nc, .slice la ln lc, .int .i64 st, .slice pa n pc]) := HX1.out.kept HG3.out
  have HI3 : Hid (∀ Y, w3.grownBy Y none → IntsAt Y p3 (one ++ two)) := fun Y hY => (ints_of (by rw [HL.out]; exact HO3.out)).kept hY
  clear HO2 HO3 HG2 HG3 HS1 HS2 HX1 r0 r1 k0 k1 k2 k3 k4
  refine Calls.mono (HW1.out w3 HX3.out.grown) ?_
  rintro e w4 ⟨rfl, hg4⟩
  have HX4 : Hid (PhAt w w4 w.heap.size #[.slice ta tn tc, .slice na nn nc, .slice la ln lc, .int .i64 st, .slice pa n pc]) := HX3.out.kept hg4
  have HW2C := show Hid _ from HW2.out w4 p3 q3 HX4.out.grown (HI3.out w4 hg4)
  rw [HL.out] at HW2C
  obtain ⟨k0, k1, k2, k3, k4⟩ := HX4.out.cells
  clear hg4 HX3
  go_wp2_with fail
  refine Calls.mono HW2C.out ?_
  rintro e w5 ⟨rfl, hg5⟩
  have HX5 : Hid (PhAt w w5 w.heap.size #[.slice ta tn tc, .slice na nn nc, .slice la ln lc, .int .i64 st, .slice pa n pc]) := HX4.out.kept hg5
  clear hg5 HW2C HX4 k0 k1 k2 k3 k4
  go_wp2_with fail
  go_ret
  exact ⟨rfl, HX5.out.grown⟩

set_option maxRecDepth 100000 in
set_option maxHeartbeats 4000000 in
theorem twice_there (z : Int) (oa wa : Option Addr) (oc wc : Nat) (one two : List Int) (h1 : IntsAt w oa one) (h2 : IntsAt w wa two) (n1 : oa = none → one.length = 0 ∧ oc = 0) (n2 : wa = none → two.length = 0 ∧ wc = 0) (hb1 : one.length ≤ 1048576) (hb2 : two.length ≤ 1048576) (p : Nat) (b1 f1 : Int)
    (hW1 : ∀ X, w.grownBy X none → Calls Try.prog 10 #[.agg #[.slice ta tn tc, .slice na nn nc, .slice la ln lc, .int .i64 st, .slice pa n pc], .int .i64 z, .slice oa one.length oc] X fun e y => e = .returned (.tuple #[.int .i64 (p : Int), .int .i64 0]) ∧ X.grownBy y none)
    (hW2 : ∀ X a' c', w.grownBy X none → IntsAt X a' (one ++ two) → Calls Try.prog 10 #[.agg #[.slice ta tn tc, .slice na nn nc, .slice la ln lc, .int .i64 st, .slice pa n pc], .int .i64 z, .slice a' (one ++ two).length c'] X fun e y => e = .returned (.tuple #[.int .i64 b1, .int .i64 f1]) ∧ X.grownBy y none)
    (hW3 : ∀ X, w.grownBy X none → Calls Try.prog 10 #[.agg #[.slice ta tn tc, .slice na nn nc, .slice la ln lc, .int .i64 st, .slice pa n pc], .int .i64 (p : Int), .slice wa two.length wc] X fun e y => e = .returned (.tuple #[.int .i64 b1, .int .i64 f1]) ∧ X.grownBy y none) :
    Calls Try.prog 4 #[.agg #[.slice ta tn tc, .slice na nn nc, .slice la ln lc, .int .i64 st, .slice pa n pc], .int .i64 z, .agg #[.slice oa one.length oc, .slice wa two.length wc]] w fun e w' => e = .returned (.bool true) ∧ w.grownBy w' none := by
  have HW1 := show Hid _ from hW1
  have HW2 := show Hid _ from hW2
  have HW3 := show Hid _ from hW3
  have d1 : ((p : Int) == -1) = false := beq_eq_false_iff_ne.2 (by omega)
  have d2 : (b1 == b1) = true := beq_self_eq_true _
  have d3 : (f1 == f1) = true := beq_self_eq_true _
  obtain ⟨on, hon⟩ : ∃ m, m = one.length := ⟨_, rfl⟩
  obtain ⟨wn, hwn⟩ : ∃ m, m = two.length := ⟨_, rfl⟩
  have HL : Hid ((one ++ two).length = on + wn) := by show _ = _; rw [List.length_append, hon, hwn]
  have HI1 : Hid (∀ Y, w.grownBy Y none → IntsAt Y oa one) := fun Y hY => h1.kept hY
  have HI2 : Hid (∀ Y, w.grownBy Y none → IntsAt Y wa two) := fun Y hY => h2.kept hY
  have HV1 : Hid ((intV one).length = on * 1) := by show _ = _; rw [intV_len, hon]; omega
  have HV2 : Hid ((intV two).length = wn * 1) := by show _ = _; rw [intV_len, hwn]; omega
  have HN1 : Hid (oa = none → on = 0 ∧ oc = 0) := by rw [hon]; exact n1
  have HN2 : Hid (wa = none → wn = 0 ∧ wc = 0) := by rw [hwn]; exact n2
  rw [← hon] at HW1 hb1
  rw [← hwn] at hb2
  rw [← hon, ← hwn]
  rw [← hwn] at HW3
  obtain ⟨i0, hi0, hz0, hz1, hz2⟩ := info_parts infoInt
  have HX0 : Hid (PhAt w ((w.alloc (.cells #[.slice ta tn tc, .slice na nn nc, .slice la ln lc, .int .i64 st, .slice pa n pc] 27)).alloc (.cells #[.slice oa on oc, .slice wa wn wc] 38)) w.heap.size #[.slice ta tn tc, .slice na nn nc, .slice la ln lc, .int .i64 st, .slice pa n pc]) := PhAt.kept ⟨World.grownBy_alloc _ _ none, heap_alloc_last w _⟩ (World.grownBy_alloc _ _ none)
  have HR0 : Hid (((w.alloc (.cells #[.slice ta tn tc, .slice na nn nc, .slice la ln lc, .int .i64 st, .slice pa n pc] 27)).alloc (.cells #[.slice oa on oc, .slice wa wn wc] 38)).heap[w.heap.size + 1]? = some (.cells #[.slice oa on oc, .slice wa wn wc] 38 (0, 0))) := by
    have h := heap_alloc_last (w.alloc (.cells #[.slice ta tn tc, .slice na nn nc, .slice la ln lc, .int .i64 st, .slice pa n pc] 27)) (.cells #[.slice oa on oc, .slice wa wn wc] 38)
    rw [World.size_alloc] at h; exact h
  clear hW1 hW2 h1 h2 n1 n2 hon hwn hW3
  go_enter Try.func4, Try.ntmps4
  go_wp2_with fail
  refine Calls.mono (awake_any _) ?_
  rintro e w1 ⟨rfl, hg1⟩
  have HX1 : Hid (PhAt w w1 w.heap.size #[.slice ta tn tc, .slice na nn nc, .slice la ln lc, .int .i64 st, .slice pa n pc]) := HX0.out.kept hg1
  have hr := box_kept HR0.out hg1
  have r0 : w1.cell? ⟨w.heap.size + 1, 0, none⟩ = some (.slice oa on oc) := by rw [cell_of_row _ _ _ _ _ _ hr]; rfl
  have r1 : w1.cell? ⟨w.heap.size + 1, 1, none⟩ = some (.slice wa wn wc) := by rw [cell_of_row _ _ _ _ _ _ hr]; rfl
  have HS1 : Hid (∀ ad, oa = some ad → ∀ j u, (intV one)[j]? = some u → w1.cell? (ad.add j) = some u) := fun ad e j u hu => ints_cells (HI1.out w1 HX1.out.grown) ad e j u hu
  clear hg1 HX0 HR0 hr
  go_wp2_with (at_builtin; first | (refine wpList_append_srcW rfl (.tmp 22) (.tmp 23) 24 rfl w1.heap.size 3 i0 (.int .i64 0) 1 8 Try.underlying24 hi0 hz0 hz1 hz2 rfl (by decide) (.slice none 0 0) 0 [] rfl (World.ownsRow_nil _ _ _ _) oa on oc (intV one) rfl HN1.out HV1.out HS1.out (intV_one _) (by unfold maxLen; omega) (by omega) (Nat.le_refl _) ?_; intro v8 w2 ho hg; rw [Nat.zero_add, List.nil_append] at ho; obtain ⟨p2, q2, rfl⟩ := owns_slice ho; have HO2 : Hid (w2.ownsRow w1.heap.size 3 1 (.slice p2 on q2) on (intV one)) := ho; have HG2 : Hid (w1.grownBy w2 none) := hg; have HS2 : Hid (∀ ad, wa = some ad → ∀ j u, (intV two)[j]? = some u → w2.cell? (ad.add j) = some u) := fun ad e j u hu => ints_cells (HI2.out w2 (grown_trans HX1.out.grown HG2.out)) ad e j u hu; clear ho hg) | (refine wpList_append_srcW rfl (.tmp 25) (.tmp 26) 24 rfl w1.heap.size 3 i0 (.int .i64 0) 1 8 Try.underlying24 hi0 hz0 hz1 hz2 rfl (by decide) (.slice p2 on q2) on (intV one) rfl HO2.out wa wn wc (intV two) rfl HN2.out HV2.out HS2.out (intV_one _) (by unfold maxLen; omega) (by omega) HG2.out.size ?_; intro v9 w3 ho hg; rw [← intV_append] at ho; obtain ⟨p3, q3, rfl⟩ := owns_slice ho; have HO3 : Hid (w3.ownsRow w1.heap.size 3 1 (.slice p3 (on + wn) q3) (on + wn) (intV (one ++ two))) := ho; have HG3 : Hid (w1.grownBy w3 none) := grown_owned HG2.out HO2.out (Nat.le_refl _) hg; obtain ⟨k0, k1, k2, k3, k4⟩ := (HX1.out.kept HG3.out).cells; clear ho hg) | fail)
  have HX3 : Hid (PhAt w w3 w.heap.size #[.slice ta tn tc, .slice na nn nc, .slice la ln lc, .int .i64 st, .slice pa n pc]) := HX1.out.kept HG3.out
  have HI3 : Hid (∀ Y, w3.grownBy Y none → IntsAt Y p3 (one ++ two)) := fun Y hY => (ints_of (by rw [HL.out]; exact HO3.out)).kept hY
  clear HO2 HO3 HG2 HG3 HS1 HS2 HX1 r0 r1 k0 k1 k2 k3 k4
  refine Calls.mono (HW1.out w3 HX3.out.grown) ?_
  rintro e w4 ⟨rfl, hg4⟩
  have HX4 : Hid (PhAt w w4 w.heap.size #[.slice ta tn tc, .slice na nn nc, .slice la ln lc, .int .i64 st, .slice pa n pc]) := HX3.out.kept hg4
  have HW2C := show Hid _ from HW2.out w4 p3 q3 HX4.out.grown (HI3.out w4 hg4)
  rw [HL.out] at HW2C
  obtain ⟨k0, k1, k2, k3, k4⟩ := HX4.out.cells
  clear hg4 HX3
  go_wp2_with fail
  refine Calls.mono HW2C.out ?_
  rintro e w5 ⟨rfl, hg5⟩
  have HX5 : Hid (PhAt w w5 w.heap.size #[.slice ta tn tc, .slice na nn nc, .slice la ln lc, .int .i64 st, .slice pa n pc]) := HX4.out.kept hg5
  clear hg5 HW2C HX4 k0 k1 k2 k3 k4
  obtain ⟨k0, k1, k2, k3, k4⟩ := HX5.out.cells
  go_wp2_with fail
  refine Calls.mono (HW3.out w5 HX5.out.grown) ?_
  rintro e w6 ⟨rfl, hg6⟩
  have HG6 : Hid (w.grownBy w6 none) := grown_trans HX5.out.grown hg6
  clear hg6 k0 k1 k2 k3 k4
  go_wp2_with fail
  go_ret
  exact ⟨rfl, HG6.out⟩

end

end Go.Proofs.Ytkcdipnobgggkaa.J

/-
  trans: what the laws' theorems share.
-/
namespace Go.Proofs.Ytkcdipnobgggkaa.J
open Go.ChangeShapes Go.WideShapes Go.ChangeAt Go.RowKit Go.Deep

theorem own : ownKnob Try.prog.godebug = none := by kernel_rfl
theorem laidOut : laidOutB Try.prog = true := by kernel_rfl

end Go.Proofs.Ytkcdipnobgggkaa.J

/-
  trans: the law TransTwice, for every input that is not too great.
-/
namespace Go.Proofs.Ytkcdipnobgggkaa.J
open Go.RowKit Go.Maps Go.Shelf

theorem EsOK.way {ks : List (List It)} {es : List (List (Nat × Nat))} (h : EsOK ks es) : ∀ (r : List Int) (q : Nat), q < ks.length → ∀ v, wayF es (some (q : Int)) r = some v → ∃ p : Nat, v = (p : Int) ∧ p < ks.length
  | [], q, hq, v, hv => ⟨q, by cases hv; rfl, hq⟩
  | s :: r, q, hq, v, hv => by
    have hv' : wayF es (leadA es ((q : Int), s)) r = some v := hv
    cases hl : leadA es ((q : Int), s) with
    | none => rw [hl, wayF_none] at hv'; cases hv'
    | some u =>
      rw [hl] at hv'
      have h1 := h.lead hl
      obtain ⟨t, rfl⟩ : ∃ t : Nat, u = (t : Int) := ⟨u.toNat, by omega⟩
      exact EsOK.way h r t (by omega) v hv'

theorem twice_core (ta na la pa : Option Addr) (tc nc lc pc : Nat) (ts : List (ByteArray × Int)) (ns : List ByteArray) (lv : List Int) (n : Nat) (L : Nat → Int) (R : Nat → List Int) (ra : Nat → Option Addr) (rc : Nat → Nat) (V : Nat → Int) (st : Int) (w : World) (tn nn ln : Nat) (hlen : ts.length = tn ∧ ns.length = nn ∧ lv.length = ln) (hG : GAt w ta na la pa tc nc lc pc ts ns lv n L R ra rc V) (z : Int) (oa wa : Option Addr) (oc wc : Nat) (one two : List Int) (h1 : IntsAt w oa one) (h2 : IntsAt w wa two) (n1 : oa = none → one.length = 0 ∧ oc = 0) (n2 : wa = none → two.length = 0 ∧ wc = 0) (hb1 : one.length ≤ 1048576) (hb2 : two.length ≤ 1048576) :
    Calls Try.prog 4 #[.agg #[.slice ta tn tc, .slice na nn nc, .slice la ln lc, .int .i64 st, .slice pa n pc], .int .i64 z, .agg #[.slice oa one.length oc, .slice wa two.length wc]] w fun e w' => e = .returned (.bool true) ∧ w.grownBy w' none := by
  have hb3 : (one ++ two).length ≤ 1099511627776000 := by rw [List.length_append]; omega
  have bad : ∀ ec : Int, ec = 1 ∨ ec = 11 → OfBad ta na la pa tc nc lc pc n st w tn nn ln ec → Calls Try.prog 4 #[.agg #[.slice ta tn tc, .slice na nn nc, .slice la ln lc, .int .i64 st, .slice pa n pc], .int .i64 z, .agg #[.slice oa one.length oc, .slice wa two.length wc]] w fun e w' => e = .returned (.bool true) ∧ w.grownBy w' none := fun ec hec hO =>
    twice_err ta na la pa tc nc lc pc n st w tn nn ln z oa wa oc wc one two h1 h2 n1 n2 hb1 hb2 ec ec (by omega) (by omega) (fun X hX => walkX_bad ta na la pa tc nc lc pc n st X tn nn ln ec hec (fun Y hY => hO Y (grown_trans hX hY)) z oa one.length oc) (fun X a' c' hX _ => walkX_bad ta na la pa tc nc lc pc n st X tn nn ln ec hec (fun Y hY => hO Y (grown_trans hX hY)) z a' (one ++ two).length c')
  by_cases hc : closedOK ts ns lv st n L R V
  · have hM : MayOK tn nn n st L R true := by obtain ⟨rfl, rfl, rfl⟩ := hlen; exact mayOK_closed hc
    cases hau : autoF (GG tn n L R) (tn + nn) 256 with
    | none => exact bad 11 (.inr rfl) (ofBad11 ta na la pa tc nc lc pc ts ns lv n L R ra rc V st w tn nn ln hlen hG hc hau)
    | some p =>
      obtain ⟨ks, es⟩ := p
      obtain ⟨hO, hE⟩ := ofOk ta na la pa tc nc lc pc ts ns lv n L R ra rc V st w tn nn ln hlen hG hc hau
      have arg := fun (X : World) (hX : w.grownBy X none) (f : Int) (a' : Option Addr) (c' : Nat) (row : List Int) (hI : IntsAt X a' row) (hb : row.length ≤ 1099511627776000) (hbad : f < 0 ∨ (ks.length : Int) ≤ f ∨ ∃ x ∈ row, noB (tn + nn) x = true) => walkX_arg ta na la pa tc nc lc pc n st X tn nn ln ks es hM.tmax hM.nmax (fun Y hY => hO Y (grown_trans hX hY)) f a' c' row hI hb hbad
      have good := fun (X : World) (hX : w.grownBy X none) (q : Nat) (hq : q < ks.length) (a' : Option Addr) (c' : Nat) (row : List Int) (hI : IntsAt X a' row) (hb : row.length ≤ 1099511627776000) (hgood : ∀ x ∈ row, noB (tn + nn) x = false) => walkX_ok ta na la pa tc nc lc pc n st X tn nn ln ks es hM.tmax hM.nmax hE.le hE.ok (fun Y hY => hO Y (grown_trans hX hY)) q hq a' c' row hI hb hgood
      have dich : ∀ row : List Int, (∀ x ∈ row, noB (tn + nn) x = false) ∨ ∃ x ∈ row, noB (tn + nn) x = true := fun row => by
        by_cases h : ∃ x ∈ row, noB (tn + nn) x = true
        · exact .inr h
        · refine .inl fun x hx => ?_
          cases hb : noB (tn + nn) x with
          | false => rfl
          | true => exact absurd ⟨x, hx, hb⟩ h
      have err1 : (z < 0 ∨ (ks.length : Int) ≤ z ∨ ∃ x ∈ one, noB (tn + nn) x = true) → Calls Try.prog 4 #[.agg #[.slice ta tn tc, .slice na nn nc, .slice la ln lc, .int .i64 st, .slice pa n pc], .int .i64 z, .agg #[.slice oa one.length oc, .slice wa two.length wc]] w fun e w' => e = .returned (.bool true) ∧ w.grownBy w' none := fun hbad =>
        twice_err ta na la pa tc nc lc pc n st w tn nn ln z oa wa oc wc one two h1 h2 n1 n2 hb1 hb2 1 1 (by omega) (by omega) (fun X hX => arg X hX z oa oc one (h1.kept hX) (by omega) hbad) (fun X a' c' hX hI => arg X hX z a' c' (one ++ two) hI hb3 (by
          rcases hbad with h | h | ⟨x, hx, h⟩
          · exact .inl h
          · exact .inr (.inl h)
          · exact .inr (.inr ⟨x, List.mem_append.2 (.inl hx), h⟩)))
      by_cases hz : 0 ≤ z ∧ z < (ks.length : Int)
      · obtain ⟨q, rfl⟩ : ∃ q : Nat, z = (q : Int) := ⟨z.toNat, by omega⟩
        have hq : q < ks.length := by omega
        rcases dich one with ho | ho
        · cases hw : wayF es (some (q : Int)) one with
          | none =>
            have g1 := fun X hX => good X hX q hq oa oc one (h1.kept hX) (by omega) ho
            rw [hw] at g1
            rcases dich two with ht | ht
            · have g2 := fun X a' c' hX hI => good X hX q hq a' c' (one ++ two) hI hb3 (fun x hx => (List.mem_append.1 hx).elim (ho x) (ht x))
              rw [wayF_append, hw, wayF_none] at g2
              exact twice_lost0 ta na la pa tc nc lc pc n st w tn nn ln (q : Int) oa wa oc wc one two h1 h2 n1 n2 hb1 hb2 g1 g2
            · exact twice_lost1 ta na la pa tc nc lc pc n st w tn nn ln (q : Int) oa wa oc wc one two h1 h2 n1 n2 hb1 hb2 g1 (fun X a' c' hX hI => arg X hX (q : Int) a' c' (one ++ two) hI hb3 (.inr (.inr (by obtain ⟨x, hx, h⟩ := ht; exact ⟨x, List.mem_append.2 (.inr hx), h⟩))))
          | some v =>
            obtain ⟨p, rfl, hp⟩ := hE.way one q hq v hw
            have g1 := fun X hX => good X hX q hq oa oc one (h1.kept hX) (by omega) ho
            rw [hw] at g1
            rcases dich two with ht | ht
            · have g2 := fun X a' c' hX hI => good X hX q hq a' c' (one ++ two) hI hb3 (fun x hx => (List.mem_append.1 hx).elim (ho x) (ht x))
              rw [wayF_append, hw] at g2
              exact twice_there ta na la pa tc nc lc pc n st w tn nn ln (q : Int) oa wa oc wc one two h1 h2 n1 n2 hb1 hb2 p _ 0 g1 g2 (fun X hX => good X hX p hp wa wc two (h2.kept hX) (by omega) ht)
            · exact twice_there ta na la pa tc nc lc pc n st w tn nn ln (q : Int) oa wa oc wc one two h1 h2 n1 n2 hb1 hb2 p 0 1 g1 (fun X a' c' hX hI => arg X hX (q : Int) a' c' (one ++ two) hI hb3 (.inr (.inr (by obtain ⟨x, hx, h⟩ := ht; exact ⟨x, List.mem_append.2 (.inr hx), h⟩)))) (fun X hX => arg X hX (p : Int) wa wc two (h2.kept hX) (by omega) (.inr (.inr ht)))
        · exact err1 (.inr (.inr ho))
      · exact err1 (by omega)
  · exact bad 1 (.inl rfl) (ofBad1 ta na la pa tc nc lc pc ts ns lv n L R ra rc V st w tn nn ln hlen hG hc)

end Go.Proofs.Ytkcdipnobgggkaa.J
