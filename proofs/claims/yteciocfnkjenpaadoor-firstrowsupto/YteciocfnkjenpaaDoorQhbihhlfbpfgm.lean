/-
  FirstRows, walked.
-/
import Derived.Test.YteciocfnkjenpaaDoorQodkfikpdphci
namespace Go.Proofs.YteciocfnkjenpaaDoor
open Go.RowKit Go.Maps Go.Shelf

attribute [local go_sem] Oper.semAt_some

/-! ### Two rows, one behind the other -/
section
variable {tn n : Nat} {L : Nat → Int} {R : Nat → List Int}
theorem rowN_append (a b : List Int) : RowN n L R (a ++ b) ↔ RowN n L R a ∧ RowN n L R b := by
  unfold RowN
  constructor
  · intro h; exact ⟨fun x hx => h x (by simp [hx]), fun x hx => h x (by simp [hx])⟩
  · rintro ⟨h1, h2⟩ x hx
    rcases List.mem_append.1 hx with hx | hx
    · exact h1 x hx
    · exact h2 x hx
theorem rowB_append (a b : List Int) (t : Int) : RowB tn n L R (a ++ b) t ↔ RowB tn n L R a t ∨ (RowN n L R a ∧ RowB tn n L R b t) := by
  constructor
  · rintro ⟨p, x, s, e, h1, h2⟩
    rcases List.append_eq_append_iff.1 e with ⟨ps, h3, h4⟩ | ⟨bs, h3, h4⟩
    · right
      refine ⟨fun y hy => h1 y (by rw [h3]; simp [hy]), ps, x, s, h4, fun y hy => h1 y (by rw [h3]; simp [hy]), h2⟩
    · cases bs with
      | nil =>
        right
        simp at h3 h4
        refine ⟨fun y hy => h1 y (by rw [← h3]; exact hy), [], x, s, by simpa using h4.symm, (fun y hy => by cases hy), h2⟩
      | cons c bs =>
        left
        simp at h4
        obtain ⟨rfl, h4⟩ := h4
        exact ⟨p, x, bs, h3, h1, h2⟩
  · rintro (⟨p, x, s, rfl, h1, h2⟩ | ⟨h0, p, x, s, rfl, h1, h2⟩)
    · exact ⟨p, x, s ++ b, by simp, h1, h2⟩
    · refine ⟨a ++ p, x, s, by simp, fun y hy => ?_, h2⟩
      rcases List.mem_append.1 hy with hy | hy
      · exact h0 y hy
      · exact h1 y hy
end

/-- The answer of Row, in one form. -/
def RowIs (Z : List Int) (b : Bool) (ec : Int) (w : World) (e : Ending) (y : World) : Prop :=
  ∃ (a : Option Addr) (c : Nat), e = .returned (.tuple #[.slice a Z.length c, .bool b, .int .i64 ec]) ∧ IntsAt y a Z ∧ w.grownBy y none

theorem app_two {w3 wB wC : World} {a5 : Option Addr} {c5 m1 m2 : Nat} {l1 l2 : List Int} {v7 : Value} (hY2 : wB.ownsRow w3.heap.size 3 1 (.slice a5 m1 c5) m1 (l1.map (Value.int .i64))) (hY3 : w3.grownBy wB none) (hoC : wC.ownsRow w3.heap.size 3 1 v7 (m1 + m2) (l1.map (Value.int .i64) ++ l2.map (Value.int .i64))) (hgC : wB.grownBy wC (Value.slice a5 m1 c5).ownBlock) (hlen : (l1 ++ l2).length = m1 + m2) : ∃ a c, v7 = .slice a (m1 + m2) c ∧ IntsAt wC a (l1 ++ l2) ∧ w3.grownBy wC none := by
  obtain ⟨a, c, rfl⟩ := owns_slice hoC
  rw [← List.map_append, ← hlen] at hoC
  refine ⟨a, c, rfl, (RowIn.of hoC (Nat.zero_le _)).ints, ?_⟩
  cases hv : (Value.slice a5 m1 c5).ownBlock with
  | none => rw [hv] at hgC; exact grown_trans hY3 hgC
  | some q => rw [hv] at hgC; exact grown_at hY3 hgC (hY2.lt q hv).1

set_option maxRecDepth 100000 in
set_option maxHeartbeats 2000000 in
theorem rows_bad1 (ta na la pa a1 a2 : Option Addr) (tn nn ln n tc nc lc pc c1 c2 : Nat) (st : Int) (l1 l2 : List Int) (w : World) (Z1 Z2 Z3 : List Int) (b1 b2 : Bool) (ec2 : Int) (hi1 : IntsAt w a1 l1) (hi2 : IntsAt w a2 l2) (hn1 : a1 = none → l1.length = 0 ∧ c1 = 0) (hn2 : a2 = none → l2.length = 0 ∧ c2 = 0) (hs : l1.length + l2.length ≤ 17592186044416)
    (HAW : Hid (∀ X, w.grownBy X none → Calls Tryd.prog 8 #[] X fun e w' => e = .returned (.bool true) ∧ X.grownBy w' none))
    (HR1 : Hid (∀ X, w.grownBy X none → Calls Tryd.prog 17 #[.agg #[.slice ta tn tc, .slice na nn nc, .slice la ln lc, .int .i64 st, .slice pa n pc], .slice a1 l1.length c1] X fun e y => RowIs Z1 b1 1 X e y))
    (HR2 : Hid (∀ X, w.grownBy X none → Calls Tryd.prog 17 #[.agg #[.slice ta tn tc, .slice na nn nc, .slice la ln lc, .int .i64 st, .slice pa n pc], .slice a2 l2.length c2] X fun e y => RowIs Z2 b2 ec2 X e y))
    (HR3 : Hid (∀ X a c, w.grownBy X none → IntsAt X a (l1 ++ l2) → Calls Tryd.prog 17 #[.agg #[.slice ta tn tc, .slice na nn nc, .slice la ln lc, .int .i64 st, .slice pa n pc], .slice a (l1 ++ l2).length c] X fun e y => RowIs Z3 false 1 X e y)) (HZ3 : Hid (Z3.length = 0)) :
    Calls Tryd.prog 4 #[.agg #[.slice ta tn tc, .slice na nn nc, .slice la ln lc, .int .i64 st, .slice pa n pc], .slice a1 l1.length c1, .slice a2 l2.length c2] w fun e y => e = .returned (.bool true) ∧ w.grownBy y none := by
  have HI1 : Hid (∀ X, w.grownBy X none → IntsAt X a1 l1) := fun X hX => hi1.kept hX
  have HI2 : Hid (∀ X, w.grownBy X none → IntsAt X a2 l2) := fun X hX => hi2.kept hX
  obtain ⟨m1, hm1⟩ : ∃ m, m = l1.length := ⟨_, rfl⟩
  obtain ⟨m2, hm2⟩ : ∃ m, m = l2.length := ⟨_, rfl⟩
  have HM : Hid (m1 = l1.length ∧ m2 = l2.length ∧ (l1 ++ l2).length = m1 + m2) := ⟨hm1, hm2, by rw [List.length_append, hm1, hm2]⟩
  have HS : Hid (m1 + m2 ≤ 17592186044416) := by show _ ≤ _; rw [hm1, hm2]; exact hs
  rw [← hm1] at HR1 hn1
  rw [← hm2] at HR2 hn2
  have HN1 : Hid (a1 = none → m1 = 0 ∧ c1 = 0) := hn1
  have HN2 : Hid (a2 = none → m2 = 0 ∧ c2 = 0) := hn2
  rw [← hm1, ← hm2]
  obtain ⟨z1, hz1⟩ : ∃ z, z = Z1.length := ⟨_, rfl⟩
  obtain ⟨z2, hz2⟩ : ∃ z, z = Z2.length := ⟨_, rfl⟩
  obtain ⟨z3, hz3⟩ : ∃ z, z = Z3.length := ⟨_, rfl⟩
  unfold RowIs at HR1 HR2 HR3
  rw [← hz1] at HR1
  rw [← hz2] at HR2
  rw [← hz3] at HR3
  have HZ : Hid (z1 = Z1.length ∧ z2 = Z2.length ∧ z3 = Z3.length) := ⟨hz1, hz2, hz3⟩
  obtain ⟨i0, hi0, hq0, hq1, hq2⟩ := info_parts infoIntK
  have HX0 : Hid (PhAt w (w.alloc (.cells #[.slice ta tn tc, .slice na nn nc, .slice la ln lc, .int .i64 st, .slice pa n pc] 27)) w.heap.size #[.slice ta tn tc, .slice na nn nc, .slice la ln lc, .int .i64 st, .slice pa n pc]) := ⟨World.grownBy_alloc _ _ none, heap_alloc_last w _⟩
  clear hi1 hi2 hm1 hm2 hs hz1 hz2 hz3 hn1 hn2
  go_enter Tryd.func4, Tryd.ntmps4
  go_wp2_with fail
  refine Calls.mono (HAW.out _ HX0.out.grown) ?_
  rintro e w1 ⟨rfl, hg1⟩
  have HX1 : Hid (PhAt w w1 w.heap.size #[.slice ta tn tc, .slice na nn nc, .slice la ln lc, .int .i64 st, .slice pa n pc]) := HX0.out.kept hg1
  clear hg1 HX0
  obtain ⟨k0, k1, k2, k3, k4⟩ := HX1.out.cells
  go_wp2_with fail
  refine Calls.mono (HR1.out _ HX1.out.grown) ?_
  rintro e w2 ⟨x1, d1, rfl, hx1, hg2⟩
  have HX2 : Hid (PhAt w w2 w.heap.size #[.slice ta tn tc, .slice na nn nc, .slice la ln lc, .int .i64 st, .slice pa n pc]) := HX1.out.kept hg2
  have HO1 : Hid (∀ X, w2.grownBy X none → IntsAt X x1 Z1) := fun X hX => hx1.kept hX
  clear hg2 HX1 k0 k1 k2 k3 k4 hx1
  obtain ⟨k0, k1, k2, k3, k4⟩ := HX2.out.cells
  go_wp2_with fail
  refine Calls.mono (HR2.out _ HX2.out.grown) ?_
  rintro e w3 ⟨x2, d2, rfl, hx2, hg3⟩
  have HX3 : Hid (PhAt w w3 w.heap.size #[.slice ta tn tc, .slice na nn nc, .slice la ln lc, .int .i64 st, .slice pa n pc]) := HX2.out.kept hg3
  have HO2 : Hid (∀ X, w3.grownBy X none → IntsAt X x1 Z1 ∧ IntsAt X x2 Z2) := fun X hX => ⟨HO1.out X (grown_trans hg3 hX), hx2.kept hX⟩
  clear hg3 HX2 k0 k1 k2 k3 k4 hx2 HO1
  have HAP1 : Hid (w3.ownsRow w3.heap.size 3 1 (.slice none 0 0) 0 [] ∧ (∀ ad, a1 = some ad → ∀ j u, (l1.map (Value.int .i64))[j]? = some u → w3.cell? (ad.add j) = some u) ∧ (l1.map (Value.int .i64)).length = m1 * 1) := ⟨World.ownsRow_nil _ _ _ _, fun ad had j u hu => ints_cells (HI1.out _ HX3.out.grown) ad had j u hu, by rw [List.length_map, HM.out.1, Nat.mul_one]⟩
  have HF1 : Hid (∀ v6 wB, wB.ownsRow w3.heap.size 3 1 v6 (0 + m1) ([] ++ l1.map (Value.int .i64)) → w3.grownBy wB (Value.slice none 0 0).ownBlock → ∃ a c, v6 = .slice a m1 c ∧ wB.ownsRow w3.heap.size 3 1 (.slice a m1 c) m1 (l1.map (Value.int .i64)) ∧ w3.grownBy wB none) := by
    intro v6 wB ho hg
    rw [Nat.zero_add, List.nil_append] at ho
    obtain ⟨a, c, rfl⟩ := owns_slice ho
    exact ⟨a, c, rfl, ho, hg⟩
  go_wp2_with (first
    | (at_builtin; refine wpList_append_src rfl (.tmp 35) (.tmp 36) 24 rfl w3.heap.size 3 i0 (.int .i64 0) 1 8 Tryd.underlying24 hi0 hq0 hq1 hq2 rfl (by decide) (.slice none 0 0) 0 [] rfl HAP1.out.1 a1 m1 c1 (l1.map (Value.int .i64)) rfl HN1.out HAP1.out.2.2 HAP1.out.2.1 (by simp [Value.oneCell']) (by have := HS.out; unfold maxLen; omega) (by have := HS.out; omega) (Nat.le_refl _) ?_; intro v6 wB hoB hgB; obtain ⟨a5, c5, rfl, y2, y3⟩ := HF1.out v6 wB hoB hgB; have HY2 := show Hid _ from y2; have HY3 := show Hid _ from y3; clear hoB hgB y2 y3; have HAP2 : Hid ((∀ ad, a2 = some ad → ∀ j u, (l2.map (Value.int .i64))[j]? = some u → wB.cell? (ad.add j) = some u) ∧ (l2.map (Value.int .i64)).length = m2 * 1) := ⟨fun ad had j u hu => ints_cells (HI2.out _ (grown_trans HX3.out.grown HY3.out)) ad had j u hu, by rw [List.length_map, HM.out.2.1, Nat.mul_one]⟩)
    | (at_builtin; refine wpList_append_src rfl (.tmp 38) (.tmp 39) 24 rfl w3.heap.size 3 i0 (.int .i64 0) 1 8 Tryd.underlying24 hi0 hq0 hq1 hq2 rfl (by decide) (.slice a5 m1 c5) m1 (l1.map (Value.int .i64)) rfl HY2.out a2 m2 c2 (l2.map (Value.int .i64)) rfl HN2.out HAP2.out.2 HAP2.out.1 (by simp [Value.oneCell']) (by have := HS.out; unfold maxLen; omega) (by have := HS.out; omega) HY3.out.size ?_; intro v7 wC hoC hgC; obtain ⟨a6, c6, rfl, y4, y5⟩ := app_two HY2.out HY3.out hoC hgC HM.out.2.2; have HI6 := show Hid _ from y4; have HY6 := show Hid _ from y5; clear hoC hgC y4 y5; have HX6 : Hid (PhAt w wC w.heap.size #[.slice ta tn tc, .slice na nn nc, .slice la ln lc, .int .i64 st, .slice pa n pc]) := HX3.out.kept HY6.out; have k0 := HX6.out.cells.1; have k1 := HX6.out.cells.2.1; have k2 := HX6.out.cells.2.2.1; have k3 := HX6.out.cells.2.2.2.1; have k4 := HX6.out.cells.2.2.2.2))
  have HR6 : Hid (Calls Tryd.prog 17 #[.agg #[.slice ta tn tc, .slice na nn nc, .slice la ln lc, .int .i64 st, .slice pa n pc], .slice a6 (m1 + m2) c6] wC fun e y => ∃ (a : Option Addr) (c : Nat), e = .returned (.tuple #[.slice a z3 c, .bool false, .int .i64 1]) ∧ IntsAt y a Z3 ∧ wC.grownBy y none) := by
    have := HR3.out wC a6 c6 HX6.out.grown HI6.out
    rw [HM.out.2.2] at this
    exact this
  refine Calls.mono HR6.out ?_
  rintro e w7 ⟨x3, d3, rfl, hx3, hg7⟩
  have HX7 : Hid (PhAt w w7 w.heap.size #[.slice ta tn tc, .slice na nn nc, .slice la ln lc, .int .i64 st, .slice pa n pc]) := HX6.out.kept hg7
  have HO7 : Hid (∀ X, w7.grownBy X none → IntsAt X x1 Z1 ∧ IntsAt X x2 Z2 ∧ IntsAt X x3 Z3) := fun X hX => ⟨(HO2.out X (grown_trans HY6.out (grown_trans hg7 hX))).1, (HO2.out X (grown_trans HY6.out (grown_trans hg7 hX))).2, hx3.kept hX⟩
  clear hx3 hg7 HR6 HX3 HY2 HY3 HY6 HI6 HAP1 HAP2 HF1 HO2 HX6 k0 k1 k2 k3 k4
  have hz30 : z3 = 0 := by rw [HZ.out.2.2]; exact HZ3.out
  subst hz30
  go_wp2_with fail
  go_ret
  exact ⟨rfl, HX7.out.grown⟩

set_option maxRecDepth 100000 in
set_option maxHeartbeats 2000000 in
theorem rows_bad2 (ta na la pa a1 a2 : Option Addr) (tn nn ln n tc nc lc pc c1 c2 : Nat) (st : Int) (l1 l2 : List Int) (w : World) (Z1 Z2 Z3 : List Int) (b1 b2 : Bool) (hi1 : IntsAt w a1 l1) (hi2 : IntsAt w a2 l2) (hn1 : a1 = none → l1.length = 0 ∧ c1 = 0) (hn2 : a2 = none → l2.length = 0 ∧ c2 = 0) (hs : l1.length + l2.length ≤ 17592186044416)
    (HAW : Hid (∀ X, w.grownBy X none → Calls Tryd.prog 8 #[] X fun e w' => e = .returned (.bool true) ∧ X.grownBy w' none))
    (HR1 : Hid (∀ X, w.grownBy X none → Calls Tryd.prog 17 #[.agg #[.slice ta tn tc, .slice na nn nc, .slice la ln lc, .int .i64 st, .slice pa n pc], .slice a1 l1.length c1] X fun e y => RowIs Z1 b1 0 X e y))
    (HR2 : Hid (∀ X, w.grownBy X none → Calls Tryd.prog 17 #[.agg #[.slice ta tn tc, .slice na nn nc, .slice la ln lc, .int .i64 st, .slice pa n pc], .slice a2 l2.length c2] X fun e y => RowIs Z2 b2 1 X e y))
    (HR3 : Hid (∀ X a c, w.grownBy X none → IntsAt X a (l1 ++ l2) → Calls Tryd.prog 17 #[.agg #[.slice ta tn tc, .slice na nn nc, .slice la ln lc, .int .i64 st, .slice pa n pc], .slice a (l1 ++ l2).length c] X fun e y => RowIs Z3 false 1 X e y)) (HZ3 : Hid (Z3.length = 0)) :
    Calls Tryd.prog 4 #[.agg #[.slice ta tn tc, .slice na nn nc, .slice la ln lc, .int .i64 st, .slice pa n pc], .slice a1 l1.length c1, .slice a2 l2.length c2] w fun e y => e = .returned (.bool true) ∧ w.grownBy y none := by
  have HI1 : Hid (∀ X, w.grownBy X none → IntsAt X a1 l1) := fun X hX => hi1.kept hX
  have HI2 : Hid (∀ X, w.grownBy X none → IntsAt X a2 l2) := fun X hX => hi2.kept hX
  obtain ⟨m1, hm1⟩ : ∃ m, m = l1.length := ⟨_, rfl⟩
  obtain ⟨m2, hm2⟩ : ∃ m, m = l2.length := ⟨_, rfl⟩
  have HM : Hid (m1 = l1.length ∧ m2 = l2.length ∧ (l1 ++ l2).length = m1 + m2) := ⟨hm1, hm2, by rw [List.length_append, hm1, hm2]⟩
  have HS : Hid (m1 + m2 ≤ 17592186044416) := by show _ ≤ _; rw [hm1, hm2]; exact hs
  rw [← hm1] at HR1 hn1
  rw [← hm2] at HR2 hn2
  have HN1 : Hid (a1 = none → m1 = 0 ∧ c1 = 0) := hn1
  have HN2 : Hid (a2 = none → m2 = 0 ∧ c2 = 0) := hn2
  rw [← hm1, ← hm2]
  obtain ⟨z1, hz1⟩ : ∃ z, z = Z1.length := ⟨_, rfl⟩
  obtain ⟨z2, hz2⟩ : ∃ z, z = Z2.length := ⟨_, rfl⟩
  obtain ⟨z3, hz3⟩ : ∃ z, z = Z3.length := ⟨_, rfl⟩
  unfold RowIs at HR1 HR2 HR3
  rw [← hz1] at HR1
  rw [← hz2] at HR2
  rw [← hz3] at HR3
  have HZ : Hid (z1 = Z1.length ∧ z2 = Z2.length ∧ z3 = Z3.length) := ⟨hz1, hz2, hz3⟩
  obtain ⟨i0, hi0, hq0, hq1, hq2⟩ := info_parts infoIntK
  have HX0 : Hid (PhAt w (w.alloc (.cells #[.slice ta tn tc, .slice na nn nc, .slice la ln lc, .int .i64 st, .slice pa n pc] 27)) w.heap.size #[.slice ta tn tc, .slice na nn nc, .slice la ln lc, .int .i64 st, .slice pa n pc]) := ⟨World.grownBy_alloc _ _ none, heap_alloc_last w _⟩
  clear hi1 hi2 hm1 hm2 hs hz1 hz2 hz3 hn1 hn2
  go_enter Tryd.func4, Tryd.ntmps4
  go_wp2_with fail
  refine Calls.mono (HAW.out _ HX0.out.grown) ?_
  rintro e w1 ⟨rfl, hg1⟩
  have HX1 : Hid (PhAt w w1 w.heap.size #[.slice ta tn tc, .slice na nn nc, .slice la ln lc, .int .i64 st, .slice pa n pc]) := HX0.out.kept hg1
  clear hg1 HX0
  obtain ⟨k0, k1, k2, k3, k4⟩ := HX1.out.cells
  go_wp2_with fail
  refine Calls.mono (HR1.out _ HX1.out.grown) ?_
  rintro e w2 ⟨x1, d1, rfl, hx1, hg2⟩
  have HX2 : Hid (PhAt w w2 w.heap.size #[.slice ta tn tc, .slice na nn nc, .slice la ln lc, .int .i64 st, .slice pa n pc]) := HX1.out.kept hg2
  have HO1 : Hid (∀ X, w2.grownBy X none → IntsAt X x1 Z1) := fun X hX => hx1.kept hX
  clear hg2 HX1 k0 k1 k2 k3 k4 hx1
  obtain ⟨k0, k1, k2, k3, k4⟩ := HX2.out.cells
  go_wp2_with fail
  refine Calls.mono (HR2.out _ HX2.out.grown) ?_
  rintro e w3 ⟨x2, d2, rfl, hx2, hg3⟩
  have HX3 : Hid (PhAt w w3 w.heap.size #[.slice ta tn tc, .slice na nn nc, .slice la ln lc, .int .i64 st, .slice pa n pc]) := HX2.out.kept hg3
  have HO2 : Hid (∀ X, w3.grownBy X none → IntsAt X x1 Z1 ∧ IntsAt X x2 Z2) := fun X hX => ⟨HO1.out X (grown_trans hg3 hX), hx2.kept hX⟩
  clear hg3 HX2 k0 k1 k2 k3 k4 hx2 HO1
  have HAP1 : Hid (w3.ownsRow w3.heap.size 3 1 (.slice none 0 0) 0 [] ∧ (∀ ad, a1 = some ad → ∀ j u, (l1.map (Value.int .i64))[j]? = some u → w3.cell? (ad.add j) = some u) ∧ (l1.map (Value.int .i64)).length = m1 * 1) := ⟨World.ownsRow_nil _ _ _ _, fun ad had j u hu => ints_cells (HI1.out _ HX3.out.grown) ad had j u hu, by rw [List.length_map, HM.out.1, Nat.mul_one]⟩
  have HF1 : Hid (∀ v6 wB, wB.ownsRow w3.heap.size 3 1 v6 (0 + m1) ([] ++ l1.map (Value.int .i64)) → w3.grownBy wB (Value.slice none 0 0).ownBlock → ∃ a c, v6 = .slice a m1 c ∧ wB.ownsRow w3.heap.size 3 1 (.slice a m1 c) m1 (l1.map (Value.int .i64)) ∧ w3.grownBy wB none) := by
    intro v6 wB ho hg
    rw [Nat.zero_add, List.nil_append] at ho
    obtain ⟨a, c, rfl⟩ := owns_slice ho
    exact ⟨a, c, rfl, ho, hg⟩
  go_wp2_with (first
    | (at_builtin; refine wpList_append_src rfl (.tmp 35) (.tmp 36) 24 rfl w3.heap.size 3 i0 (.int .i64 0) 1 8 Tryd.underlying24 hi0 hq0 hq1 hq2 rfl (by decide) (.slice none 0 0) 0 [] rfl HAP1.out.1 a1 m1 c1 (l1.map (Value.int .i64)) rfl HN1.out HAP1.out.2.2 HAP1.out.2.1 (by simp [Value.oneCell']) (by have := HS.out; unfold maxLen; omega) (by have := HS.out; omega) (Nat.le_refl _) ?_; intro v6 wB hoB hgB; obtain ⟨a5, c5, rfl, y2, y3⟩ := HF1.out v6 wB hoB hgB; have HY2 := show Hid _ from y2; have HY3 := show Hid _ from y3; clear hoB hgB y2 y3; have HAP2 : Hid ((∀ ad, a2 = some ad → ∀ j u, (l2.map (Value.int .i64))[j]? = some u → wB.cell? (ad.add j) = some u) ∧ (l2.map (Value.int .i64)).length = m2 * 1) := ⟨fun ad had j u hu => ints_cells (HI2.out _ (grown_trans HX3.out.grown HY3.out)) ad had j u hu, by rw [List.length_map, HM.out.2.1, Nat.mul_one]⟩)
    | (at_builtin; refine wpList_append_src rfl (.tmp 38) (.tmp 39) 24 rfl w3.heap.size 3 i0 (.int .i64 0) 1 8 Tryd.underlying24 hi0 hq0 hq1 hq2 rfl (by decide) (.slice a5 m1 c5) m1 (l1.map (Value.int .i64)) rfl HY2.out a2 m2 c2 (l2.map (Value.int .i64)) rfl HN2.out HAP2.out.2 HAP2.out.1 (by simp [Value.oneCell']) (by have := HS.out; unfold maxLen; omega) (by have := HS.out; omega) HY3.out.size ?_; intro v7 wC hoC hgC; obtain ⟨a6, c6, rfl, y4, y5⟩ := app_two HY2.out HY3.out hoC hgC HM.out.2.2; have HI6 := show Hid _ from y4; have HY6 := show Hid _ from y5; clear hoC hgC y4 y5; have HX6 : Hid (PhAt w wC w.heap.size #[.slice ta tn tc, .slice na nn nc, .slice la ln lc, .int .i64 st, .slice pa n pc]) := HX3.out.kept HY6.out; have k0 := HX6.out.cells.1; have k1 := HX6.out.cells.2.1; have k2 := HX6.out.cells.2.2.1; have k3 := HX6.out.cells.2.2.2.1; have k4 := HX6.out.cells.2.2.2.2))
  have HR6 : Hid (Calls Tryd.prog 17 #[.agg #[.slice ta tn tc, .slice na nn nc, .slice la ln lc, .int .i64 st, .slice pa n pc], .slice a6 (m1 + m2) c6] wC fun e y => ∃ (a : Option Addr) (c : Nat), e = .returned (.tuple #[.slice a z3 c, .bool false, .int .i64 1]) ∧ IntsAt y a Z3 ∧ wC.grownBy y none) := by
    have := HR3.out wC a6 c6 HX6.out.grown HI6.out
    rw [HM.out.2.2] at this
    exact this
  refine Calls.mono HR6.out ?_
  rintro e w7 ⟨x3, d3, rfl, hx3, hg7⟩
  have HX7 : Hid (PhAt w w7 w.heap.size #[.slice ta tn tc, .slice na nn nc, .slice la ln lc, .int .i64 st, .slice pa n pc]) := HX6.out.kept hg7
  have HO7 : Hid (∀ X, w7.grownBy X none → IntsAt X x1 Z1 ∧ IntsAt X x2 Z2 ∧ IntsAt X x3 Z3) := fun X hX => ⟨(HO2.out X (grown_trans HY6.out (grown_trans hg7 hX))).1, (HO2.out X (grown_trans HY6.out (grown_trans hg7 hX))).2, hx3.kept hX⟩
  clear hx3 hg7 HR6 HX3 HY2 HY3 HY6 HI6 HAP1 HAP2 HF1 HO2 HX6 k0 k1 k2 k3 k4
  have hz30 : z3 = 0 := by rw [HZ.out.2.2]; exact HZ3.out
  subst hz30
  go_wp2_with fail
  go_ret
  exact ⟨rfl, HX7.out.grown⟩

set_option maxRecDepth 100000 in
set_option maxHeartbeats 2000000 in
theorem rows_okf (ta na la pa a1 a2 : Option Addr) (tn nn ln n tc nc lc pc c1 c2 : Nat) (st : Int) (l1 l2 : List Int) (w : World) (Z1 Z2 Z3 : List Int) (b2 : Bool) (hi1 : IntsAt w a1 l1) (hi2 : IntsAt w a2 l2) (hn1 : a1 = none → l1.length = 0 ∧ c1 = 0) (hn2 : a2 = none → l2.length = 0 ∧ c2 = 0) (hs : l1.length + l2.length ≤ 17592186044416)
    (HAW : Hid (∀ X, w.grownBy X none → Calls Tryd.prog 8 #[] X fun e w' => e = .returned (.bool true) ∧ X.grownBy w' none))
    (HR1 : Hid (∀ X, w.grownBy X none → Calls Tryd.prog 17 #[.agg #[.slice ta tn tc, .slice na nn nc, .slice la ln lc, .int .i64 st, .slice pa n pc], .slice a1 l1.length c1] X fun e y => RowIs Z1 false 0 X e y))
    (HR2 : Hid (∀ X, w.grownBy X none → Calls Tryd.prog 17 #[.agg #[.slice ta tn tc, .slice na nn nc, .slice la ln lc, .int .i64 st, .slice pa n pc], .slice a2 l2.length c2] X fun e y => RowIs Z2 b2 0 X e y))
    (HR3 : Hid (∀ X a c, w.grownBy X none → IntsAt X a (l1 ++ l2) → Calls Tryd.prog 17 #[.agg #[.slice ta tn tc, .slice na nn nc, .slice la ln lc, .int .i64 st, .slice pa n pc], .slice a (l1 ++ l2).length c] X fun e y => RowIs Z3 false 0 X e y)) (HB3 : Hid (Z3 = bothTo Z1 [] 65)) (hl1 : Z1.length ≤ 1024) (hl2 : Z2.length ≤ 1024) :
    Calls Tryd.prog 4 #[.agg #[.slice ta tn tc, .slice na nn nc, .slice la ln lc, .int .i64 st, .slice pa n pc], .slice a1 l1.length c1, .slice a2 l2.length c2] w fun e y => e = .returned (.bool true) ∧ w.grownBy y none := by
  have HI1 : Hid (∀ X, w.grownBy X none → IntsAt X a1 l1) := fun X hX => hi1.kept hX
  have HI2 : Hid (∀ X, w.grownBy X none → IntsAt X a2 l2) := fun X hX => hi2.kept hX
  obtain ⟨m1, hm1⟩ : ∃ m, m = l1.length := ⟨_, rfl⟩
  obtain ⟨m2, hm2⟩ : ∃ m, m = l2.length := ⟨_, rfl⟩
  have HM : Hid (m1 = l1.length ∧ m2 = l2.length ∧ (l1 ++ l2).length = m1 + m2) := ⟨hm1, hm2, by rw [List.length_append, hm1, hm2]⟩
  have HS : Hid (m1 + m2 ≤ 17592186044416) := by show _ ≤ _; rw [hm1, hm2]; exact hs
  rw [← hm1] at HR1 hn1
  rw [← hm2] at HR2 hn2
  have HN1 : Hid (a1 = none → m1 = 0 ∧ c1 = 0) := hn1
  have HN2 : Hid (a2 = none → m2 = 0 ∧ c2 = 0) := hn2
  rw [← hm1, ← hm2]
  obtain ⟨z1, hz1⟩ : ∃ z, z = Z1.length := ⟨_, rfl⟩
  obtain ⟨z2, hz2⟩ : ∃ z, z = Z2.length := ⟨_, rfl⟩
  obtain ⟨z3, hz3⟩ : ∃ z, z = Z3.length := ⟨_, rfl⟩
  unfold RowIs at HR1 HR2 HR3
  rw [← hz1] at HR1
  rw [← hz2] at HR2
  rw [← hz3] at HR3
  have HZ : Hid (z1 = Z1.length ∧ z2 = Z2.length ∧ z3 = Z3.length) := ⟨hz1, hz2, hz3⟩
  obtain ⟨i0, hi0, hq0, hq1, hq2⟩ := info_parts infoIntK
  have HX0 : Hid (PhAt w (w.alloc (.cells #[.slice ta tn tc, .slice na nn nc, .slice la ln lc, .int .i64 st, .slice pa n pc] 27)) w.heap.size #[.slice ta tn tc, .slice na nn nc, .slice la ln lc, .int .i64 st, .slice pa n pc]) := ⟨World.grownBy_alloc _ _ none, heap_alloc_last w _⟩
  clear hi1 hi2 hm1 hm2 hs hz1 hz2 hz3 hn1 hn2
  go_enter Tryd.func4, Tryd.ntmps4
  go_wp2_with fail
  refine Calls.mono (HAW.out _ HX0.out.grown) ?_
  rintro e w1 ⟨rfl, hg1⟩
  have HX1 : Hid (PhAt w w1 w.heap.size #[.slice ta tn tc, .slice na nn nc, .slice la ln lc, .int .i64 st, .slice pa n pc]) := HX0.out.kept hg1
  clear hg1 HX0
  obtain ⟨k0, k1, k2, k3, k4⟩ := HX1.out.cells
  go_wp2_with fail
  refine Calls.mono (HR1.out _ HX1.out.grown) ?_
  rintro e w2 ⟨x1, d1, rfl, hx1, hg2⟩
  have HX2 : Hid (PhAt w w2 w.heap.size #[.slice ta tn tc, .slice na nn nc, .slice la ln lc, .int .i64 st, .slice pa n pc]) := HX1.out.kept hg2
  have HO1 : Hid (∀ X, w2.grownBy X none → IntsAt X x1 Z1) := fun X hX => hx1.kept hX
  clear hg2 HX1 k0 k1 k2 k3 k4 hx1
  obtain ⟨k0, k1, k2, k3, k4⟩ := HX2.out.cells
  go_wp2_with fail
  refine Calls.mono (HR2.out _ HX2.out.grown) ?_
  rintro e w3 ⟨x2, d2, rfl, hx2, hg3⟩
  have HX3 : Hid (PhAt w w3 w.heap.size #[.slice ta tn tc, .slice na nn nc, .slice la ln lc, .int .i64 st, .slice pa n pc]) := HX2.out.kept hg3
  have HO2 : Hid (∀ X, w3.grownBy X none → IntsAt X x1 Z1 ∧ IntsAt X x2 Z2) := fun X hX => ⟨HO1.out X (grown_trans hg3 hX), hx2.kept hX⟩
  clear hg3 HX2 k0 k1 k2 k3 k4 hx2 HO1
  have HAP1 : Hid (w3.ownsRow w3.heap.size 3 1 (.slice none 0 0) 0 [] ∧ (∀ ad, a1 = some ad → ∀ j u, (l1.map (Value.int .i64))[j]? = some u → w3.cell? (ad.add j) = some u) ∧ (l1.map (Value.int .i64)).length = m1 * 1) := ⟨World.ownsRow_nil _ _ _ _, fun ad had j u hu => ints_cells (HI1.out _ HX3.out.grown) ad had j u hu, by rw [List.length_map, HM.out.1, Nat.mul_one]⟩
  have HF1 : Hid (∀ v6 wB, wB.ownsRow w3.heap.size 3 1 v6 (0 + m1) ([] ++ l1.map (Value.int .i64)) → w3.grownBy wB (Value.slice none 0 0).ownBlock → ∃ a c, v6 = .slice a m1 c ∧ wB.ownsRow w3.heap.size 3 1 (.slice a m1 c) m1 (l1.map (Value.int .i64)) ∧ w3.grownBy wB none) := by
    intro v6 wB ho hg
    rw [Nat.zero_add, List.nil_append] at ho
    obtain ⟨a, c, rfl⟩ := owns_slice ho
    exact ⟨a, c, rfl, ho, hg⟩
  go_wp2_with (first
    | (at_builtin; refine wpList_append_src rfl (.tmp 35) (.tmp 36) 24 rfl w3.heap.size 3 i0 (.int .i64 0) 1 8 Tryd.underlying24 hi0 hq0 hq1 hq2 rfl (by decide) (.slice none 0 0) 0 [] rfl HAP1.out.1 a1 m1 c1 (l1.map (Value.int .i64)) rfl HN1.out HAP1.out.2.2 HAP1.out.2.1 (by simp [Value.oneCell']) (by have := HS.out; unfold maxLen; omega) (by have := HS.out; omega) (Nat.le_refl _) ?_; intro v6 wB hoB hgB; obtain ⟨a5, c5, rfl, y2, y3⟩ := HF1.out v6 wB hoB hgB; have HY2 := show Hid _ from y2; have HY3 := show Hid _ from y3; clear hoB hgB y2 y3; have HAP2 : Hid ((∀ ad, a2 = some ad → ∀ j u, (l2.map (Value.int .i64))[j]? = some u → wB.cell? (ad.add j) = some u) ∧ (l2.map (Value.int .i64)).length = m2 * 1) := ⟨fun ad had j u hu => ints_cells (HI2.out _ (grown_trans HX3.out.grown HY3.out)) ad had j u hu, by rw [List.length_map, HM.out.2.1, Nat.mul_one]⟩)
    | (at_builtin; refine wpList_append_src rfl (.tmp 38) (.tmp 39) 24 rfl w3.heap.size 3 i0 (.int .i64 0) 1 8 Tryd.underlying24 hi0 hq0 hq1 hq2 rfl (by decide) (.slice a5 m1 c5) m1 (l1.map (Value.int .i64)) rfl HY2.out a2 m2 c2 (l2.map (Value.int .i64)) rfl HN2.out HAP2.out.2 HAP2.out.1 (by simp [Value.oneCell']) (by have := HS.out; unfold maxLen; omega) (by have := HS.out; omega) HY3.out.size ?_; intro v7 wC hoC hgC; obtain ⟨a6, c6, rfl, y4, y5⟩ := app_two HY2.out HY3.out hoC hgC HM.out.2.2; have HI6 := show Hid _ from y4; have HY6 := show Hid _ from y5; clear hoC hgC y4 y5; have HX6 : Hid (PhAt w wC w.heap.size #[.slice ta tn tc, .slice na nn nc, .slice la ln lc, .int .i64 st, .slice pa n pc]) := HX3.out.kept HY6.out; have k0 := HX6.out.cells.1; have k1 := HX6.out.cells.2.1; have k2 := HX6.out.cells.2.2.1; have k3 := HX6.out.cells.2.2.2.1; have k4 := HX6.out.cells.2.2.2.2))
  have HR6 : Hid (Calls Tryd.prog 17 #[.agg #[.slice ta tn tc, .slice na nn nc, .slice la ln lc, .int .i64 st, .slice pa n pc], .slice a6 (m1 + m2) c6] wC fun e y => ∃ (a : Option Addr) (c : Nat), e = .returned (.tuple #[.slice a z3 c, .bool false, .int .i64 0]) ∧ IntsAt y a Z3 ∧ wC.grownBy y none) := by
    have := HR3.out wC a6 c6 HX6.out.grown HI6.out
    rw [HM.out.2.2] at this
    exact this
  refine Calls.mono HR6.out ?_
  rintro e w7 ⟨x3, d3, rfl, hx3, hg7⟩
  have HX7 : Hid (PhAt w w7 w.heap.size #[.slice ta tn tc, .slice na nn nc, .slice la ln lc, .int .i64 st, .slice pa n pc]) := HX6.out.kept hg7
  have HO7 : Hid (∀ X, w7.grownBy X none → IntsAt X x1 Z1 ∧ IntsAt X x2 Z2 ∧ IntsAt X x3 Z3) := fun X hX => ⟨(HO2.out X (grown_trans HY6.out (grown_trans hg7 hX))).1, (HO2.out X (grown_trans HY6.out (grown_trans hg7 hX))).2, hx3.kept hX⟩
  clear hx3 hg7 HR6 HX3 HY2 HY3 HY6 HI6 HAP1 HAP2 HF1 HO2 HX6 k0 k1 k2 k3 k4
  have HZL : Hid (Z1.length ≤ 17592186044416 ∧ Z2.length ≤ 17592186044416 ∧ Z3.length ≤ 17592186044416) := by
    refine ⟨by omega, by omega, ?_⟩
    rw [HB3.out]
    exact Nat.le_trans (bothTo_len _ _ 65) (by decide)
  clear hl1 hl2
  have HBO : Hid (Calls Tryd.prog 22 #[.slice x1 z1 d1, .slice none 0 0] w7 fun e y => ∃ (a : Option Addr) (c : Nat), e = .returned (.slice a (bothTo Z1 [] 65).length c) ∧ IntsAt y a (bothTo Z1 [] 65) ∧ w7.grownBy y none) := by
    rw [HZ.out.1]
    refine (both_any x1 none d1 0 Z1 [] w7 (HO7.out _ (grown_refl _ _)).1 (.inl rfl) HZL.out.1 (by decide)).mono ?_
    rintro e y ⟨a, c, rfl, ho, hg⟩
    exact ⟨a, c, rfl, (RowIn.of ho (Nat.zero_le _)).ints, hg⟩
  rw [← HB3.out] at HBO
  rw [← HZ.out.2.2] at HBO
  go_wp2_with fail
  refine Calls.mono HBO.out ?_
  rintro e w8 ⟨x8, d8, rfl, hx8, hg8⟩
  have HIN : Hid (Calls Tryd.prog 19 #[.slice x3 z3 d3, .slice x8 z3 d8] w8 fun e y => e = .returned (.bool true) ∧ w8.grownBy y none) := by
    rw [HZ.out.2.2]
    exact ints_same x3 x8 d3 d8 Z3 w8 (HO7.out _ hg8).2.2 hx8 HZL.out.2.2
  have HG8 : Hid (w.grownBy w8 none) := grown_trans HX7.out.grown hg8
  clear hx8 hg8 HBO
  go_wp2_with fail
  refine Calls.mono HIN.out ?_
  rintro e w9 ⟨rfl, hg9⟩
  have HG9 : Hid (w.grownBy w9 none) := grown_trans HG8.out hg9
  clear hg9 HIN
  go_wp2_with fail
  go_ret
  exact ⟨rfl, HG9.out⟩

set_option maxRecDepth 100000 in
set_option maxHeartbeats 2000000 in
theorem rows_okt (ta na la pa a1 a2 : Option Addr) (tn nn ln n tc nc lc pc c1 c2 : Nat) (st : Int) (l1 l2 : List Int) (w : World) (Z1 Z2 Z3 : List Int) (b2 : Bool) (hi1 : IntsAt w a1 l1) (hi2 : IntsAt w a2 l2) (hn1 : a1 = none → l1.length = 0 ∧ c1 = 0) (hn2 : a2 = none → l2.length = 0 ∧ c2 = 0) (hs : l1.length + l2.length ≤ 17592186044416)
    (HAW : Hid (∀ X, w.grownBy X none → Calls Tryd.prog 8 #[] X fun e w' => e = .returned (.bool true) ∧ X.grownBy w' none))
    (HR1 : Hid (∀ X, w.grownBy X none → Calls Tryd.prog 17 #[.agg #[.slice ta tn tc, .slice na nn nc, .slice la ln lc, .int .i64 st, .slice pa n pc], .slice a1 l1.length c1] X fun e y => RowIs Z1 true 0 X e y))
    (HR2 : Hid (∀ X, w.grownBy X none → Calls Tryd.prog 17 #[.agg #[.slice ta tn tc, .slice na nn nc, .slice la ln lc, .int .i64 st, .slice pa n pc], .slice a2 l2.length c2] X fun e y => RowIs Z2 b2 0 X e y))
    (HR3 : Hid (∀ X a c, w.grownBy X none → IntsAt X a (l1 ++ l2) → Calls Tryd.prog 17 #[.agg #[.slice ta tn tc, .slice na nn nc, .slice la ln lc, .int .i64 st, .slice pa n pc], .slice a (l1 ++ l2).length c] X fun e y => RowIs Z3 b2 0 X e y)) (HB3 : Hid (Z3 = bothTo Z1 Z2 65)) (hl1 : Z1.length ≤ 1024) (hl2 : Z2.length ≤ 1024) :
    Calls Tryd.prog 4 #[.agg #[.slice ta tn tc, .slice na nn nc, .slice la ln lc, .int .i64 st, .slice pa n pc], .slice a1 l1.length c1, .slice a2 l2.length c2] w fun e y => e = .returned (.bool true) ∧ w.grownBy y none := by
  have HI1 : Hid (∀ X, w.grownBy X none → IntsAt X a1 l1) := fun X hX => hi1.kept hX
  have HI2 : Hid (∀ X, w.grownBy X none → IntsAt X a2 l2) := fun X hX => hi2.kept hX
  obtain ⟨m1, hm1⟩ : ∃ m, m = l1.length := ⟨_, rfl⟩
  obtain ⟨m2, hm2⟩ : ∃ m, m = l2.length := ⟨_, rfl⟩
  have HM : Hid (m1 = l1.length ∧ m2 = l2.length ∧ (l1 ++ l2).length = m1 + m2) := ⟨hm1, hm2, by rw [List.length_append, hm1, hm2]⟩
  have HS : Hid (m1 + m2 ≤ 17592186044416) := by show _ ≤ _; rw [hm1, hm2]; exact hs
  rw [← hm1] at HR1 hn1
  rw [← hm2] at HR2 hn2
  have HN1 : Hid (a1 = none → m1 = 0 ∧ c1 = 0) := hn1
  have HN2 : Hid (a2 = none → m2 = 0 ∧ c2 = 0) := hn2
  rw [← hm1, ← hm2]
  obtain ⟨z1, hz1⟩ : ∃ z, z = Z1.length := ⟨_, rfl⟩
  obtain ⟨z2, hz2⟩ : ∃ z, z = Z2.length := ⟨_, rfl⟩
  obtain ⟨z3, hz3⟩ : ∃ z, z = Z3.length := ⟨_, rfl⟩
  unfold RowIs at HR1 HR2 HR3
  rw [← hz1] at HR1
  rw [← hz2] at HR2
  rw [← hz3] at HR3
  have HZ : Hid (z1 = Z1.length ∧ z2 = Z2.length ∧ z3 = Z3.length) := ⟨hz1, hz2, hz3⟩
  obtain ⟨i0, hi0, hq0, hq1, hq2⟩ := info_parts infoIntK
  have HX0 : Hid (PhAt w (w.alloc (.cells #[.slice ta tn tc, .slice na nn nc, .slice la ln lc, .int .i64 st, .slice pa n pc] 27)) w.heap.size #[.slice ta tn tc, .slice na nn nc, .slice la ln lc, .int .i64 st, .slice pa n pc]) := ⟨World.grownBy_alloc _ _ none, heap_alloc_last w _⟩
  clear hi1 hi2 hm1 hm2 hs hz1 hz2 hz3 hn1 hn2
  go_enter Tryd.func4, Tryd.ntmps4
  go_wp2_with fail
  refine Calls.mono (HAW.out _ HX0.out.grown) ?_
  rintro e w1 ⟨rfl, hg1⟩
  have HX1 : Hid (PhAt w w1 w.heap.size #[.slice ta tn tc, .slice na nn nc, .slice la ln lc, .int .i64 st, .slice pa n pc]) := HX0.out.kept hg1
  clear hg1 HX0
  obtain ⟨k0, k1, k2, k3, k4⟩ := HX1.out.cells
  go_wp2_with fail
  refine Calls.mono (HR1.out _ HX1.out.grown) ?_
  rintro e w2 ⟨x1, d1, rfl, hx1, hg2⟩
  have HX2 : Hid (PhAt w w2 w.heap.size #[.slice ta tn tc, .slice na nn nc, .slice la ln lc, .int .i64 st, .slice pa n pc]) := HX1.out.kept hg2
  have HO1 : Hid (∀ X, w2.grownBy X none → IntsAt X x1 Z1) := fun X hX => hx1.kept hX
  clear hg2 HX1 k0 k1 k2 k3 k4 hx1
  obtain ⟨k0, k1, k2, k3, k4⟩ := HX2.out.cells
  go_wp2_with fail
  refine Calls.mono (HR2.out _ HX2.out.grown) ?_
  rintro e w3 ⟨x2, d2, rfl, hx2, hg3⟩
  have HX3 : Hid (PhAt w w3 w.heap.size #[.slice ta tn tc, .slice na nn nc, .slice la ln lc, .int .i64 st, .slice pa n pc]) := HX2.out.kept hg3
  have HO2 : Hid (∀ X, w3.grownBy X none → IntsAt X x1 Z1 ∧ IntsAt X x2 Z2) := fun X hX => ⟨HO1.out X (grown_trans hg3 hX), hx2.kept hX⟩
  clear hg3 HX2 k0 k1 k2 k3 k4 hx2 HO1
  have HAP1 : Hid (w3.ownsRow w3.heap.size 3 1 (.slice none 0 0) 0 [] ∧ (∀ ad, a1 = some ad → ∀ j u, (l1.map (Value.int .i64))[j]? = some u → w3.cell? (ad.add j) = some u) ∧ (l1.map (Value.int .i64)).length = m1 * 1) := ⟨World.ownsRow_nil _ _ _ _, fun ad had j u hu => ints_cells (HI1.out _ HX3.out.grown) ad had j u hu, by rw [List.length_map, HM.out.1, Nat.mul_one]⟩
  have HF1 : Hid (∀ v6 wB, wB.ownsRow w3.heap.size 3 1 v6 (0 + m1) ([] ++ l1.map (Value.int .i64)) → w3.grownBy wB (Value.slice none 0 0).ownBlock → ∃ a c, v6 = .slice a m1 c ∧ wB.ownsRow w3.heap.size 3 1 (.slice a m1 c) m1 (l1.map (Value.int .i64)) ∧ w3.grownBy wB none) := by
    intro v6 wB ho hg
    rw [Nat.zero_add, List.nil_append] at ho
    obtain ⟨a, c, rfl⟩ := owns_slice ho
    exact ⟨a, c, rfl, ho, hg⟩
  go_wp2_with (first
    | (at_builtin; refine wpList_append_src rfl (.tmp 35) (.tmp 36) 24 rfl w3.heap.size 3 i0 (.int .i64 0) 1 8 Tryd.underlying24 hi0 hq0 hq1 hq2 rfl (by decide) (.slice none 0 0) 0 [] rfl HAP1.out.1 a1 m1 c1 (l1.map (Value.int .i64)) rfl HN1.out HAP1.out.2.2 HAP1.out.2.1 (by simp [Value.oneCell']) (by have := HS.out; unfold maxLen; omega) (by have := HS.out; omega) (Nat.le_refl _) ?_; intro v6 wB hoB hgB; obtain ⟨a5, c5, rfl, y2, y3⟩ := HF1.out v6 wB hoB hgB; have HY2 := show Hid _ from y2; have HY3 := show Hid _ from y3; clear hoB hgB y2 y3; have HAP2 : Hid ((∀ ad, a2 = some ad → ∀ j u, (l2.map (Value.int .i64))[j]? = some u → wB.cell? (ad.add j) = some u) ∧ (l2.map (Value.int .i64)).length = m2 * 1) := ⟨fun ad had j u hu => ints_cells (HI2.out _ (grown_trans HX3.out.grown HY3.out)) ad had j u hu, by rw [List.length_map, HM.out.2.1, Nat.mul_one]⟩)
    | (at_builtin; refine wpList_append_src rfl (.tmp 38) (.tmp 39) 24 rfl w3.heap.size 3 i0 (.int .i64 0) 1 8 Tryd.underlying24 hi0 hq0 hq1 hq2 rfl (by decide) (.slice a5 m1 c5) m1 (l1.map (Value.int .i64)) rfl HY2.out a2 m2 c2 (l2.map (Value.int .i64)) rfl HN2.out HAP2.out.2 HAP2.out.1 (by simp [Value.oneCell']) (by have := HS.out; unfold maxLen; omega) (by have := HS.out; omega) HY3.out.size ?_; intro v7 wC hoC hgC; obtain ⟨a6, c6, rfl, y4, y5⟩ := app_two HY2.out HY3.out hoC hgC HM.out.2.2; have HI6 := show Hid _ from y4; have HY6 := show Hid _ from y5; clear hoC hgC y4 y5; have HX6 : Hid (PhAt w wC w.heap.size #[.slice ta tn tc, .slice na nn nc, .slice la ln lc, .int .i64 st, .slice pa n pc]) := HX3.out.kept HY6.out; have k0 := HX6.out.cells.1; have k1 := HX6.out.cells.2.1; have k2 := HX6.out.cells.2.2.1; have k3 := HX6.out.cells.2.2.2.1; have k4 := HX6.out.cells.2.2.2.2))
  have HR6 : Hid (Calls Tryd.prog 17 #[.agg #[.slice ta tn tc, .slice na nn nc, .slice la ln lc, .int .i64 st, .slice pa n pc], .slice a6 (m1 + m2) c6] wC fun e y => ∃ (a : Option Addr) (c : Nat), e = .returned (.tuple #[.slice a z3 c, .bool b2, .int .i64 0]) ∧ IntsAt y a Z3 ∧ wC.grownBy y none) := by
    have := HR3.out wC a6 c6 HX6.out.grown HI6.out
    rw [HM.out.2.2] at this
    exact this
  refine Calls.mono HR6.out ?_
  rintro e w7 ⟨x3, d3, rfl, hx3, hg7⟩
  have HX7 : Hid (PhAt w w7 w.heap.size #[.slice ta tn tc, .slice na nn nc, .slice la ln lc, .int .i64 st, .slice pa n pc]) := HX6.out.kept hg7
  have HO7 : Hid (∀ X, w7.grownBy X none → IntsAt X x1 Z1 ∧ IntsAt X x2 Z2 ∧ IntsAt X x3 Z3) := fun X hX => ⟨(HO2.out X (grown_trans HY6.out (grown_trans hg7 hX))).1, (HO2.out X (grown_trans HY6.out (grown_trans hg7 hX))).2, hx3.kept hX⟩
  clear hx3 hg7 HR6 HX3 HY2 HY3 HY6 HI6 HAP1 HAP2 HF1 HO2 HX6 k0 k1 k2 k3 k4
  have HZL : Hid (Z1.length ≤ 17592186044416 ∧ Z2.length ≤ 17592186044416 ∧ Z3.length ≤ 17592186044416) := by
    refine ⟨by omega, by omega, ?_⟩
    rw [HB3.out]
    exact Nat.le_trans (bothTo_len _ _ 65) (by decide)
  clear hl1 hl2
  have HBO : Hid (Calls Tryd.prog 22 #[.slice x1 z1 d1, .slice none 0 0] w7 fun e y => ∃ (a : Option Addr) (c : Nat), e = .returned (.slice a (bothTo Z1 [] 65).length c) ∧ IntsAt y a (bothTo Z1 [] 65) ∧ w7.grownBy y none) := by
    rw [HZ.out.1]
    refine (both_any x1 none d1 0 Z1 [] w7 (HO7.out _ (grown_refl _ _)).1 (.inl rfl) HZL.out.1 (by decide)).mono ?_
    rintro e y ⟨a, c, rfl, ho, hg⟩
    exact ⟨a, c, rfl, (RowIn.of ho (Nat.zero_le _)).ints, hg⟩
  obtain ⟨l0, hl0⟩ : ∃ l, l = (bothTo Z1 [] 65).length := ⟨_, rfl⟩
  rw [← hl0] at HBO
  clear hl0
  go_wp2_with fail
  refine Calls.mono HBO.out ?_
  rintro e w8 ⟨x8, d8, rfl, hx8, hg8⟩
  have HG8 : Hid (w.grownBy w8 none ∧ w7.grownBy w8 none) := ⟨grown_trans HX7.out.grown hg8, hg8⟩
  have HBP : Hid (Calls Tryd.prog 22 #[.slice x1 z1 d1, .slice x2 z2 d2] w8 fun e y => ∃ (a : Option Addr) (c : Nat), e = .returned (.slice a z3 c) ∧ IntsAt y a Z3 ∧ w8.grownBy y none) := by
    rw [HZ.out.1, HZ.out.2.1]
    refine (both_any x1 x2 d1 d2 Z1 Z2 w8 (HO7.out _ hg8).1 (HO7.out _ hg8).2.1 HZL.out.1 HZL.out.2.1).mono ?_
    rintro e y ⟨a, c, rfl, ho, hg⟩
    rw [← HB3.out] at ho
    exact ⟨a, c, by rw [HZ.out.2.2, ← HB3.out], (RowIn.of ho (Nat.zero_le _)).ints, hg⟩
  clear hx8 hg8 HBO
  go_wp2_with fail
  refine Calls.mono HBP.out ?_
  rintro e w9 ⟨x9, d9, rfl, hx9, hg9⟩
  have HIN : Hid (Calls Tryd.prog 19 #[.slice x3 z3 d3, .slice x9 z3 d9] w9 fun e y => e = .returned (.bool true) ∧ w9.grownBy y none) := by
    rw [HZ.out.2.2]
    exact ints_same x3 x9 d3 d9 Z3 w9 (HO7.out _ (grown_trans HG8.out.2 hg9)).2.2 hx9 HZL.out.2.2
  have HG9 : Hid (w.grownBy w9 none) := grown_trans HG8.out.1 hg9
  clear hx9 hg9 HBP
  go_wp2_with fail
  refine Calls.mono HIN.out ?_
  rintro e w10 ⟨rfl, hg10⟩
  have HG10 : Hid (w.grownBy w10 none) := grown_trans HG9.out hg10
  clear hg10 HIN
  have hbb : (b2 == b2) = true := beq_self_eq_true _
  go_wp2_with fail
  go_ret
  exact ⟨by first | rfl | (cases b2 <;> rfl), HG10.out⟩

end Go.Proofs.YteciocfnkjenpaaDoor
