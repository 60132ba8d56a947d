/-
  reach: Productive and Useful.
-/
import Derived.Test.YtmkimeojcpadpaaQhckkhldimhmh
namespace Go.Proofs.Ytmkimeojcpadpaa
open Go.RowKit Go.Maps Go.Shelf

attribute [local go_sem] Oper.semAt_some

theorem BoolAt.ext {w : World} {k n : Nat} {f g : Nat → Bool} (h : BoolAt w k n f) (e : ∀ i, i < n → f i = g i) : BoolAt w k n g := by
  unfold BoolAt boolsL at *
  rw [h, List.map_congr_left fun i hi => by rw [e i (by simpa using hi)]]

theorem field_use1 (x : World) (v0 v1 v2 : Value) : (Instr.field 53 (.agg #[v0, v1, v2]) 1).run Try.prog x = .ok (.agg #[v1]) x := by
  cases hq : Try.prog.info? 51 with
  | none => have := infoMarks; rw [hq] at this; simp at this
  | some i =>
    have hs : i.size = 1 := by have := infoMarks; rw [hq] at this; simpa using this
    simp [Instr.field, underlying, Try.underlying53, part, asAgg, sizeOf, typeInfo, hq, hs]
theorem field_use2 (x : World) (v0 v1 v2 : Value) : (Instr.field 53 (.agg #[v0, v1, v2]) 2).run Try.prog x = .ok (.agg #[v2]) x := by
  cases hq : Try.prog.info? 51 with
  | none => have := infoMarks; rw [hq] at this; simp at this
  | some i =>
    have hs : i.size = 1 := by have := infoMarks; rw [hq] at this; simpa using this
    simp [Instr.field, underlying, Try.underlying53, part, asAgg, sizeOf, typeInfo, hq, hs]

/-- The answer of Productive. -/
def ProdTold (tn nn n : Nat) (L : Nat → Int) (R : Nat → List Int) (w : World) (e : Ending) (y : World) : Prop :=
  ∃ (k : Nat) (f : Nat → Bool), e = .returned (.tuple #[.slice (some ⟨k, 0, none⟩) nn nn, .int .i64 0]) ∧ w.heap.size ≤ k ∧ BoolAt y k nn f ∧ Fix (stM tn L R) (chM tn L R) n (fun _ => false) f ∧ w.grownBy y none
/-- The answer of Useful. -/
def UsefulTold (tn nn n : Nat) (st : Int) (L : Nat → Int) (R : Nat → List Int) (cl : Bool) (w : World) (e : Ending) (y : World) : Prop :=
  ∃ (k u : Nat) (f : Nat → Bool), e = .returned (.tuple #[.slice (some ⟨k, 0, none⟩) nn nn, .int .i64 0]) ∧ w.heap.size ≤ k ∧ BoolAt y k nn (fun i => u.testBit (tn + i)) ∧ Fix (stM tn L R) (chM tn L R) n (fun _ => false) f ∧ Fix (stU tn nn L R f) (fun k u => decide (0 < adU tn nn L R f k u)) n (startU (if cl = true then tn else st.toNat) (f (st - tn).toNat)) u ∧ w.grownBy y none

section
variable (ta na la pa : Option Addr) (tc nc lc pc : Nat) (ts : List (ByteArray × Int)) (ns : List ByteArray) (lv : List Int) (n : Nat) (L : Nat → Int) (R : Nat → List Int) (ra : Nat → Option Addr) (rc : Nat → Nat) (V : Nat → Int) (st : Int) (w : World) (tn nn ln : Nat) (hlen : ts.length = tn ∧ ns.length = nn ∧ lv.length = ln) (hG : GAt w ta na la pa tc nc lc pc ts ns lv n L R ra rc V)
include hlen hG

set_option maxRecDepth 100000 in
set_option maxHeartbeats 2000000 in
theorem productive_ok (cl : Bool) (hcl : cl = true ↔ closedOK ts ns lv st n L R V) (hv : cl = false → validOK ts ns lv st n L R V) :
    Calls Try.prog 9 #[.agg #[.slice ta tn tc, .slice na nn nc, .slice la ln lc, .int .i64 st, .slice pa n pc]] w fun e y => ProdTold tn nn n L R w e y := by
  have hM : MayOK tn nn n st L R cl := by
    obtain ⟨rfl, rfl, rfl⟩ := hlen
    cases cl with
    | true => exact mayOK_closed (hcl.1 rfl)
    | false => exact mayOK_valid (hv rfl)
  have hz : tn + nn ≤ 1024 := by have := hM.tmax; have := hM.nmax; omega
  have HMB : Hid (∀ X, w.grownBy X none → Calls Try.prog 28 #[.agg #[.slice ta tn tc, .slice na nn nc, .slice la ln lc, .int .i64 st, .slice pa n pc]] X fun e w' => e = .returned (.bool true) ∧ X.grownBy w' none) := fun X hX => emayBe_any ta na la pa tc nc lc pc ts ns lv n L R ra rc V st X tn nn ln hlen (hG.kept hX) true (by
    refine ⟨fun _ => ?_, fun _ => rfl⟩
    cases cl with
    | true => exact .inr (hcl.1 rfl)
    | false => exact .inl (hv rfl))
  have HUO : Hid (∀ X, w.grownBy X none → Calls Try.prog 29 #[.agg #[.slice ta tn tc, .slice na nn nc, .slice la ln lc, .int .i64 st, .slice pa n pc]] X fun e y => UseTold tn nn n st L R ra rc V cl X e y) := fun X hX => useOf_any ta na la pa tc nc lc pc ts ns lv n L R ra rc V st X tn nn ln hlen (hG.kept hX) cl hcl hM
  have HX0 : Hid (PhAt w (w.alloc (.cells #[.slice ta tn tc, .slice na nn nc, .slice la ln lc, .int .i64 st, .slice pa n pc] 27)) w.heap.size #[.slice ta tn tc, .slice na nn nc, .slice la ln lc, .int .i64 st, .slice pa n pc]) := ⟨World.grownBy_alloc _ _ none, heap_alloc_last w _⟩
  clear hG hlen hcl hv hM
  have hfd := field_use1
  go_enter Try.func9, Try.ntmps9
  go_wp2_with fail
  refine Calls.mono (HMB.out _ HX0.out.grown) ?_
  rintro e w1 ⟨rfl, hg1⟩
  have HX1 : Hid (PhAt w w1 w.heap.size #[.slice ta tn tc, .slice na nn nc, .slice la ln lc, .int .i64 st, .slice pa n pc]) := HX0.out.kept hg1
  clear hg1 HX0
  have HKS : Hid (∀ x, w1.grownBy x none → x.cell? ⟨w.heap.size, 0, none⟩ = some (.slice ta tn tc) ∧ x.cell? ⟨w.heap.size, 1, none⟩ = some (.slice na nn nc) ∧ x.cell? ⟨w.heap.size, 2, none⟩ = some (.slice la ln lc) ∧ x.cell? ⟨w.heap.size, 3, none⟩ = some (.int .i64 st) ∧ x.cell? ⟨w.heap.size, 4, none⟩ = some (.slice pa n pc)) := fun x hx => (HX1.out.kept hx).cells
  have HGc : Hid (w1.grownBy w1.drew none) := grown_drewN w1 1
  obtain ⟨k0, k1, k2, k3, k4⟩ := HX1.out.cells
  go_wp2_with fail
  go_region_held3 (fun x => x.cell? ⟨w.heap.size, 0, none⟩ = some (.slice ta tn tc) ∧ x.cell? ⟨w.heap.size, 1, none⟩ = some (.slice na nn nc) ∧ x.cell? ⟨w.heap.size, 2, none⟩ = some (.slice la ln lc) ∧ x.cell? ⟨w.heap.size, 3, none⟩ = some (.int .i64 st) ∧ x.cell? ⟨w.heap.size, 4, none⟩ = some (.slice pa n pc)) (first | exact HKS.out _ HGc.out | go_keep)
    ((first
      | (go_at_call 29; refine calls_at w1.drew (by with_reducible rfl) ?_; refine Calls.mono (HUO.out _ (grown_trans HX1.out.grown HGc.out)) ?_; rintro e w2 ⟨kb, pb, ub, q, c, m, u, f, rfl, hU2, hB2, hF2, hD2, hg2⟩; have HU2 : Hid (B.SetM w2 (some ⟨pb, 0, none⟩) (tn + nn) m ∧ bitsN tn nn m f ∧ Fix (stM tn L R) (chM tn L R) n (fun _ => false) f) := ⟨hU2.prod, hB2, hF2⟩; have HGc : Hid (w1.grownBy w2 none) := grown_trans HGc.out hg2; clear hU2 hB2 hF2 hD2 hg2)
      | (go_at_call 30; refine calls_at w2 (by with_reducible rfl) ?_; refine Calls.mono (ofNons_any ta na la pa tn nn ln n tc nc lc pc pb m st w2 HU2.out.1 hz) ?_; rintro e w3 ⟨k3, rfl, hk3, hB3, hg3⟩; have HB3 : Hid (BoolAt w3 k3 nn (toldTo tn m nn) ∧ w2.heap.size ≤ k3) := ⟨hB3, hk3⟩; have HGd : Hid (w1.grownBy w2 none) := HGc.out; have HGc : Hid (w1.grownBy w3 none) := grown_trans HGc.out hg3; clear hB3 hk3 hg3)))
  all_goals go_wp2_with fail
  all_goals go_ret2
  all_goals exact ⟨k3, f, rfl, by have h1 := HX1.out.grown.size; have h2 := HGd.out.size; have h3 := HB3.out.2; omega, BoolAt.ext HB3.out.1 (fun i hi => by
    have h1 := HU2.out.2.1 (tn + i)
    have a2 : decide (tn + i < tn) = false := decide_eq_false (by omega)
    have a3 : decide (tn + i < tn + nn) = true := decide_eq_true (by omega)
    have a4 : tn + i - tn = i := by omega
    rw [a2, a3, a4] at h1
    unfold toldTo
    rw [decide_eq_true hi, h1]; simp), HU2.out.2.2, grown_trans HX1.out.grown HGc.out⟩

set_option maxRecDepth 100000 in
set_option maxHeartbeats 2000000 in
theorem useful_ok (cl : Bool) (hcl : cl = true ↔ closedOK ts ns lv st n L R V) (hv : cl = false → validOK ts ns lv st n L R V) :
    Calls Try.prog 10 #[.agg #[.slice ta tn tc, .slice na nn nc, .slice la ln lc, .int .i64 st, .slice pa n pc]] w fun e y => UsefulTold tn nn n st L R cl w e y := by
  have hM : MayOK tn nn n st L R cl := by
    obtain ⟨rfl, rfl, rfl⟩ := hlen
    cases cl with
    | true => exact mayOK_closed (hcl.1 rfl)
    | false => exact mayOK_valid (hv rfl)
  have hz : tn + nn ≤ 1024 := by have := hM.tmax; have := hM.nmax; omega
  have HMB : Hid (∀ X, w.grownBy X none → Calls Try.prog 28 #[.agg #[.slice ta tn tc, .slice na nn nc, .slice la ln lc, .int .i64 st, .slice pa n pc]] X fun e w' => e = .returned (.bool true) ∧ X.grownBy w' none) := fun X hX => emayBe_any ta na la pa tc nc lc pc ts ns lv n L R ra rc V st X tn nn ln hlen (hG.kept hX) true (by
    refine ⟨fun _ => ?_, fun _ => rfl⟩
    cases cl with
    | true => exact .inr (hcl.1 rfl)
    | false => exact .inl (hv rfl))
  have HUO : Hid (∀ X, w.grownBy X none → Calls Try.prog 29 #[.agg #[.slice ta tn tc, .slice na nn nc, .slice la ln lc, .int .i64 st, .slice pa n pc]] X fun e y => UseTold tn nn n st L R ra rc V cl X e y) := fun X hX => useOf_any ta na la pa tc nc lc pc ts ns lv n L R ra rc V st X tn nn ln hlen (hG.kept hX) cl hcl hM
  have HX0 : Hid (PhAt w (w.alloc (.cells #[.slice ta tn tc, .slice na nn nc, .slice la ln lc, .int .i64 st, .slice pa n pc] 27)) w.heap.size #[.slice ta tn tc, .slice na nn nc, .slice la ln lc, .int .i64 st, .slice pa n pc]) := ⟨World.grownBy_alloc _ _ none, heap_alloc_last w _⟩
  clear hG hlen hcl hv hM
  have hfd := field_use2
  go_enter Try.func10, Try.ntmps10
  go_wp2_with fail
  refine Calls.mono (HMB.out _ HX0.out.grown) ?_
  rintro e w1 ⟨rfl, hg1⟩
  have HX1 : Hid (PhAt w w1 w.heap.size #[.slice ta tn tc, .slice na nn nc, .slice la ln lc, .int .i64 st, .slice pa n pc]) := HX0.out.kept hg1
  clear hg1 HX0
  have HKS : Hid (∀ x, w1.grownBy x none → x.cell? ⟨w.heap.size, 0, none⟩ = some (.slice ta tn tc) ∧ x.cell? ⟨w.heap.size, 1, none⟩ = some (.slice na nn nc) ∧ x.cell? ⟨w.heap.size, 2, none⟩ = some (.slice la ln lc) ∧ x.cell? ⟨w.heap.size, 3, none⟩ = some (.int .i64 st) ∧ x.cell? ⟨w.heap.size, 4, none⟩ = some (.slice pa n pc)) := fun x hx => (HX1.out.kept hx).cells
  have HGc : Hid (w1.grownBy w1.drew none) := grown_drewN w1 1
  obtain ⟨k0, k1, k2, k3, k4⟩ := HX1.out.cells
  go_wp2_with fail
  go_region_held3 (fun x => x.cell? ⟨w.heap.size, 0, none⟩ = some (.slice ta tn tc) ∧ x.cell? ⟨w.heap.size, 1, none⟩ = some (.slice na nn nc) ∧ x.cell? ⟨w.heap.size, 2, none⟩ = some (.slice la ln lc) ∧ x.cell? ⟨w.heap.size, 3, none⟩ = some (.int .i64 st) ∧ x.cell? ⟨w.heap.size, 4, none⟩ = some (.slice pa n pc)) (first | exact HKS.out _ HGc.out | go_keep)
    ((first
      | (go_at_call 29; refine calls_at w1.drew (by with_reducible rfl) ?_; refine Calls.mono (HUO.out _ (grown_trans HX1.out.grown HGc.out)) ?_; rintro e w2 ⟨kb, pb, ub, q, c, m, u, f, rfl, hU2, hB2, hF2, hD2, hg2⟩; have HU2 : Hid (B.SetM w2 (some ⟨ub, 0, none⟩) (tn + nn) u ∧ Fix (stM tn L R) (chM tn L R) n (fun _ => false) f ∧ Fix (stU tn nn L R f) (fun k u => decide (0 < adU tn nn L R f k u)) n (startU (if cl = true then tn else st.toNat) (f (st - tn).toNat)) u) := ⟨hU2.used, hF2, hD2⟩; have HGc : Hid (w1.grownBy w2 none) := grown_trans HGc.out hg2; clear hU2 hB2 hF2 hD2 hg2)
      | (go_at_call 30; refine calls_at w2 (by with_reducible rfl) ?_; refine Calls.mono (ofNons_any ta na la pa tn nn ln n tc nc lc pc ub u st w2 HU2.out.1 hz) ?_; rintro e w3 ⟨k3, rfl, hk3, hB3, hg3⟩; have HB3 : Hid (BoolAt w3 k3 nn (toldTo tn u nn) ∧ w2.heap.size ≤ k3) := ⟨hB3, hk3⟩; have HGd : Hid (w1.grownBy w2 none) := HGc.out; have HGc : Hid (w1.grownBy w3 none) := grown_trans HGc.out hg3; clear hB3 hk3 hg3)))
  all_goals go_wp2_with fail
  all_goals go_ret2
  all_goals exact ⟨k3, u, f, rfl, by have h1 := HX1.out.grown.size; have h2 := HGd.out.size; have h3 := HB3.out.2; omega, BoolAt.ext HB3.out.1 (fun i hi => by
    unfold toldTo
    rw [decide_eq_true hi]; simp), HU2.out.2.1, HU2.out.2.2, grown_trans HX1.out.grown HGc.out⟩

set_option maxRecDepth 100000 in
theorem productive_bad (h1 : ¬ validOK ts ns lv st n L R V) (h2 : ¬ closedOK ts ns lv st n L R V) :
    Calls Try.prog 9 #[.agg #[.slice ta tn tc, .slice na nn nc, .slice la ln lc, .int .i64 st, .slice pa n pc]] w fun e y => e = .returned (.tuple #[.slice none 0 0, .int .i64 1]) ∧ w.grownBy y none := by
  have HMB : Hid (∀ X, w.grownBy X none → Calls Try.prog 28 #[.agg #[.slice ta tn tc, .slice na nn nc, .slice la ln lc, .int .i64 st, .slice pa n pc]] X fun e w' => e = .returned (.bool false) ∧ X.grownBy w' none) := fun X hX => emayBe_any ta na la pa tc nc lc pc ts ns lv n L R ra rc V st X tn nn ln hlen (hG.kept hX) false (by simp [h1, h2])
  have HG0 : Hid (w.grownBy (w.alloc (.cells #[.slice ta tn tc, .slice na nn nc, .slice la ln lc, .int .i64 st, .slice pa n pc] 27)) none) := World.grownBy_alloc _ _ none
  clear hG hlen h1 h2
  go_enter Try.func9, Try.ntmps9
  go_wp2_with fail
  refine Calls.mono (HMB.out _ HG0.out) ?_
  rintro e w1 ⟨rfl, hg1⟩
  have HG1 : Hid (w.grownBy w1 none) := grown_trans HG0.out hg1
  clear hg1 HG0
  go_wp2_with fail
  go_ret2
  exact ⟨rfl, HG1.out⟩

set_option maxRecDepth 100000 in
theorem useful_bad (h1 : ¬ validOK ts ns lv st n L R V) (h2 : ¬ closedOK ts ns lv st n L R V) :
    Calls Try.prog 10 #[.agg #[.slice ta tn tc, .slice na nn nc, .slice la ln lc, .int .i64 st, .slice pa n pc]] w fun e y => e = .returned (.tuple #[.slice none 0 0, .int .i64 1]) ∧ w.grownBy y none := by
  have HMB : Hid (∀ X, w.grownBy X none → Calls Try.prog 28 #[.agg #[.slice ta tn tc, .slice na nn nc, .slice la ln lc, .int .i64 st, .slice pa n pc]] X fun e w' => e = .returned (.bool false) ∧ X.grownBy w' none) := fun X hX => emayBe_any ta na la pa tc nc lc pc ts ns lv n L R ra rc V st X tn nn ln hlen (hG.kept hX) false (by simp [h1, h2])
  have HG0 : Hid (w.grownBy (w.alloc (.cells #[.slice ta tn tc, .slice na nn nc, .slice la ln lc, .int .i64 st, .slice pa n pc] 27)) none) := World.grownBy_alloc _ _ none
  clear hG hlen h1 h2
  go_enter Try.func10, Try.ntmps10
  go_wp2_with fail
  refine Calls.mono (HMB.out _ HG0.out) ?_
  rintro e w1 ⟨rfl, hg1⟩
  have HG1 : Hid (w.grownBy w1 none) := grown_trans HG0.out hg1
  clear hg1 HG0
  go_wp2_with fail
  go_ret2
  exact ⟨rfl, HG1.out⟩
end

end Go.Proofs.Ytmkimeojcpadpaa
