import Derived.Test.YtdhojilmgnodeaaDoorQpdkinbbnpkak
import Derived.Test.YtdhojilmgnodeaaDoorQboebkefnlkgn
import Derived.Test.YtdhojilmgnodeaaDoorQolfdolefocof
import Derived.Test.YtdhojilmgnodeaaDoorQfpppnncfiiga
import Derived.Test.YtdhojilmgnodeaaDoorQpkcgoeojlcgm

/-
  first: the document's Either and Nullable.
-/
namespace Go.Proofs.YtdhojilmgnodeaaDoor
open Go.RowKit Go.Maps Go.Shelf

attribute [local go_sem] Oper.semAt_some

set_option maxRecDepth 100000 in
theorem keither_any (ta na la pa : Option Addr) (tc nc lc pc : Nat) (ts : List (ByteArray × Int)) (ns : List ByteArray) (lv : List Int) (n : Nat) (L : Nat → Int) (R : Nat → List Int) (ra : Nat → Option Addr) (rc : Nat → Nat) (V : Nat → Int) (st : Int) (w : World) (tn nn ln : Nat) (hlen : ts.length = tn ∧ ns.length = nn ∧ lv.length = ln) (hG : GAt w ta na la pa tc nc lc pc ts ns lv n L R ra rc V) (hwf : ∀ t ∈ ts, t.1.size ≤ 140737488355328) (hnz : ∀ s ∈ ns, s.size ≤ 140737488355328) (r : Bool) (hr : r = true ↔ validOK ts ns lv st n L R V ∨ closedOK ts ns lv st n L R V) :
    Calls Tryd.prog 30 #[.agg #[.slice ta tn tc, .slice na nn nc, .slice la ln lc, .int .i64 st, .slice pa n pc]] w fun e w' => e = .returned (.bool r) ∧ w.grownBy w' none := by
  obtain ⟨rV, hrV⟩ := boolOf (validOK ts ns lv st n L R V)
  obtain ⟨rC, hrC⟩ := boolOf (closedOK ts ns lv st n L R V)
  have HV : Hid (∀ Y, w.grownBy Y none → Calls Tryd.prog 23 #[.agg #[.slice ta tn tc, .slice na nn nc, .slice la ln lc, .int .i64 st, .slice pa n pc]] Y fun e w' => e = .returned (.bool rV) ∧ Y.grownBy w' none) := fun Y hY => by
    have := rvalid_any ta na la pa tc nc lc pc st ts ns lv n L R ra rc V Y (hG.kept hY) hwf hnz rV hrV
    rwa [hlen.1, hlen.2.1, hlen.2.2] at this
  have HC : Hid (∀ Y, w.grownBy Y none → Calls Tryd.prog 24 #[.agg #[.slice ta tn tc, .slice na nn nc, .slice la ln lc, .int .i64 st, .slice pa n pc]] Y fun e w' => e = .returned (.bool rC) ∧ Y.grownBy w' none) := fun Y hY => by
    have := rclosed_any ta na la pa tc nc lc pc st ts ns lv n L R ra rc V Y (hG.kept hY) hwf hnz rC hrC
    rwa [hlen.1, hlen.2.1, hlen.2.2] at this
  have hre : r = (rV || rC) := by
    rw [Bool.eq_iff_iff, hr, Bool.or_eq_true, hrV, hrC]
  have HX0 : Hid (PhAt w (w.alloc (.cells #[.slice ta tn tc, .slice na nn nc, .slice la ln lc, .int .i64 st, .slice pa n pc] 27)) w.heap.size #[.slice ta tn tc, .slice na nn nc, .slice la ln lc, .int .i64 st, .slice pa n pc]) := ⟨World.grownBy_alloc _ _ none, heap_alloc_last w _⟩
  clear hG hlen hr hrV hrC hwf hnz
  subst hre
  cases rV
  · go_enter Tryd.func30, Tryd.ntmps30
    go_wp2_with fail
    refine Calls.mono (HV.out _ HX0.out.grown) ?_
    rintro e w1 ⟨rfl, hg1⟩
    have HX1 : Hid (PhAt w w1 w.heap.size #[.slice ta tn tc, .slice na nn nc, .slice la ln lc, .int .i64 st, .slice pa n pc]) := HX0.out.kept hg1
    obtain ⟨k0, k1, k2, k3, k4⟩ := HX1.out.cells
    clear hg1 HX0
    go_wp2_with fail
    refine Calls.mono (HC.out w1 HX1.out.grown) ?_
    rintro e w2 ⟨rfl, hg2⟩
    have HG2 : Hid (w.grownBy w2 none) := grown_trans HX1.out.grown hg2
    clear hg2 HX1 HC HV
    go_wp2_with fail
    go_ret
    exact ⟨by simp, HG2.out⟩
  · go_enter Tryd.func30, Tryd.ntmps30
    go_wp2_with fail
    refine Calls.mono (HV.out _ HX0.out.grown) ?_
    rintro e w1 ⟨rfl, hg1⟩
    have HX1 : Hid (PhAt w w1 w.heap.size #[.slice ta tn tc, .slice na nn nc, .slice la ln lc, .int .i64 st, .slice pa n pc]) := HX0.out.kept hg1
    obtain ⟨k0, k1, k2, k3, k4⟩ := HX1.out.cells
    clear hg1 HX0
    go_wp2_with fail
    refine Calls.mono (HC.out w1 HX1.out.grown) ?_
    rintro e w2 ⟨rfl, hg2⟩
    have HG2 : Hid (w.grownBy w2 none) := grown_trans HX1.out.grown hg2
    clear hg2 HX1 HC HV
    go_wp2_with fail
    go_ret
    exact ⟨by simp, HG2.out⟩

section
variable (ta na la pa : Option Addr) (tc nc lc pc : Nat) (ts : List (ByteArray × Int)) (ns : List ByteArray) (lv : List Int) (n : Nat) (L : Nat → Int) (R : Nat → List Int) (ra : Nat → Option Addr) (rc : Nat → Nat) (V : Nat → Int) (st : Int) (w : World) (tn nn ln : Nat) (hlen : ts.length = tn ∧ ns.length = nn ∧ lv.length = ln) (hG : GAt w ta na la pa tc nc lc pc ts ns lv n L R ra rc V) (hwf : ∀ t ∈ ts, t.1.size ≤ 140737488355328) (hnz : ∀ s ∈ ns, s.size ≤ 140737488355328)
include hlen hG

theorem rnull_ok {cl : Bool} (hM : MayOK tn nn n st L R cl) (F : Nat → Bool) (hF : ∀ i : Nat, F i = true ↔ Nul n L R ((tn + i : Nat) : Int)) : Calls Tryd.prog 31 #[.agg #[.slice ta tn tc, .slice na nn nc, .slice la ln lc, .int .i64 st, .slice pa n pc]] w fun e y => ∃ k, e = .returned (.slice (some ⟨k, 0, none⟩) nn nn) ∧ w.heap.size ≤ k ∧ ValAt y k nn 4 (fun i => .bool (F i)) ∧ w.grownBy y none := by
  have h0 := hM.p0
  rcases hG.prods with h | ⟨bp, op, rfl, hp⟩
  · omega
  · exact rnull_any ta na la tn nn ln n tc nc lc pc bp op st L R ra rc w (by have := hM.tmax; have := hM.nmax; omega) (by have := hM.pmax; omega) (fun k hk => ⟨(hp k hk).1, (hp k hk).2.1, (hp k hk).2.2.2.1, (hp k hk).2.2.2.2.2⟩) (fun k hk => ⟨by have := hM.left k hk; omega, (hM.left k hk).2⟩) (fun k hk x hx => ⟨by have := hM.right k hk x hx; omega, (hM.right k hk x hx).2⟩) F hF

include hwf hnz
set_option maxRecDepth 100000 in
theorem rnullable_bad (hv : ¬ validOK ts ns lv st n L R V) (hc : ¬ closedOK ts ns lv st n L R V) : Calls Tryd.prog 11 #[.agg #[.slice ta tn tc, .slice na nn nc, .slice la ln lc, .int .i64 st, .slice pa n pc]] w fun e y => e = .returned (.tuple #[.slice none 0 0, .int .i64 1]) ∧ w.grownBy y none := by
  have HMB : Hid (∀ X, w.grownBy X none → Calls Tryd.prog 30 #[.agg #[.slice ta tn tc, .slice na nn nc, .slice la ln lc, .int .i64 st, .slice pa n pc]] X fun e w' => e = .returned (.bool false) ∧ X.grownBy w' none) := fun X hX => keither_any ta na la pa tc nc lc pc ts ns lv n L R ra rc V st X tn nn ln hlen (hG.kept hX) hwf hnz false ⟨fun h => (by cases h), fun h => h.elim (fun h => absurd h hv) (fun h => absurd h hc)⟩
  have HG0 : Hid (w.grownBy (w.alloc (.cells #[.slice ta tn tc, .slice na nn nc, .slice la ln lc, .int .i64 st, .slice pa n pc] 27)) none) := World.grownBy_alloc _ _ none
  clear hG hlen hv hc hwf hnz
  go_enter Tryd.func11, Tryd.ntmps11
  go_wp2_with fail
  refine Calls.mono (HMB.out _ HG0.out) ?_
  rintro e w1 ⟨rfl, hg1⟩
  have HG1 : Hid (w.grownBy w1 none) := grown_trans HG0.out hg1
  clear hg1
  go_wp2_with fail
  go_ret2
  exact ⟨rfl, HG1.out⟩

set_option maxRecDepth 100000 in
theorem rnullable_ok (h : validOK ts ns lv st n L R V ∨ closedOK ts ns lv st n L R V) {cl : Bool} (hM : MayOK tn nn n st L R cl) (F : Nat → Bool) (hF : ∀ i : Nat, F i = true ↔ Nul n L R ((tn + i : Nat) : Int)) :
    Calls Tryd.prog 11 #[.agg #[.slice ta tn tc, .slice na nn nc, .slice la ln lc, .int .i64 st, .slice pa n pc]] w fun e y => ∃ k, e = .returned (.tuple #[.slice (some ⟨k, 0, none⟩) nn nn, .int .i64 0]) ∧ w.heap.size ≤ k ∧ ValAt y k nn 4 (fun i => .bool (F i)) ∧ w.grownBy y none := by
  have HMB : Hid (∀ X, w.grownBy X none → Calls Tryd.prog 30 #[.agg #[.slice ta tn tc, .slice na nn nc, .slice la ln lc, .int .i64 st, .slice pa n pc]] X fun e w' => e = .returned (.bool true) ∧ X.grownBy w' none) := fun X hX => keither_any ta na la pa tc nc lc pc ts ns lv n L R ra rc V st X tn nn ln hlen (hG.kept hX) hwf hnz true ⟨fun _ => h, fun _ => rfl⟩
  have HNU : Hid (∀ X, w.grownBy X none → Calls Tryd.prog 31 #[.agg #[.slice ta tn tc, .slice na nn nc, .slice la ln lc, .int .i64 st, .slice pa n pc]] X fun e y => ∃ k, e = .returned (.slice (some ⟨k, 0, none⟩) nn nn) ∧ X.heap.size ≤ k ∧ ValAt y k nn 4 (fun i => .bool (F i)) ∧ X.grownBy y none) := fun X hX => rnull_ok ta na la pa tc nc lc pc ts ns lv n L R ra rc V st X tn nn ln hlen (hG.kept hX) hM F hF
  have HX0 : Hid (PhAt w (w.alloc (.cells #[.slice ta tn tc, .slice na nn nc, .slice la ln lc, .int .i64 st, .slice pa n pc] 27)) w.heap.size #[.slice ta tn tc, .slice na nn nc, .slice la ln lc, .int .i64 st, .slice pa n pc]) := ⟨World.grownBy_alloc _ _ none, heap_alloc_last w _⟩
  clear hG hlen hwf hnz h hM hF
  go_enter Tryd.func11, Tryd.ntmps11
  go_wp2_with fail
  refine Calls.mono (HMB.out _ HX0.out.grown) ?_
  rintro e w1 ⟨rfl, hg1⟩
  have HX1 : Hid (PhAt w w1 w.heap.size #[.slice ta tn tc, .slice na nn nc, .slice la ln lc, .int .i64 st, .slice pa n pc]) := HX0.out.kept hg1
  clear hg1 HX0
  obtain ⟨k0, k1, k2, k3, k4⟩ := HX1.out.cells
  go_wp2_with fail
  refine Calls.mono (HNU.out _ HX1.out.grown) ?_
  rintro e w2 ⟨k, rfl, hk, hb, hg2⟩
  have HB : Hid (w.heap.size ≤ k ∧ ValAt w2 k nn 4 (fun i => .bool (F i)) ∧ w.grownBy w2 none) := ⟨Nat.le_trans HX1.out.grown.size hk, hb, grown_trans HX1.out.grown hg2⟩
  clear hk hb hg2 HX1 HMB HNU
  go_wp2_with fail
  go_ret2
  exact ⟨k, rfl, HB.out.1, HB.out.2.1, HB.out.2.2⟩
end

end Go.Proofs.YtdhojilmgnodeaaDoor

/-
  FirstLeast, walked.
-/
namespace Go.Proofs.YtdhojilmgnodeaaDoor
open Go.RowKit Go.Maps Go.Shelf

attribute [local go_sem] Oper.semAt_some

set_option maxRecDepth 100000 in
set_option maxHeartbeats 2000000 in
theorem least_bad (ta na la pa : Option Addr) (tc nc lc pc : Nat) (ts : List (ByteArray × Int)) (ns : List ByteArray) (lv : List Int) (n : Nat) (L : Nat → Int) (R : Nat → List Int) (ra : Nat → Option Addr) (rc : Nat → Nat) (V : Nat → Int) (st : Int) (w : World) (tn nn ln : Nat) (hlen : ts.length = tn ∧ ns.length = nn ∧ lv.length = ln) (hG : GAt w ta na la pa tc nc lc pc ts ns lv n L R ra rc V) (hT : B.Tab w) (h0 : 0 < w.heap.size) (hv : ¬ validOK ts ns lv st n L R V) (hc : ¬ closedOK ts ns lv st n L R V) : Calls Tryd.prog 6 #[.agg #[.slice ta tn tc, .slice na nn nc, .slice la ln lc, .int .i64 st, .slice pa n pc]] w fun e y => e = .returned (.bool true) ∧ w.grownBy y none := by
  have HAW : Hid (∀ X, w.grownBy X none → Calls Tryd.prog 8 #[] X fun e w' => e = .returned (.bool true) ∧ X.grownBy w' none) := fun X hX => kawake_any X (Tab_kept hT hX h0) (Nat.lt_of_lt_of_le h0 hX.size)
  have HSE : Hid (∀ X, w.grownBy X none → Calls Tryd.prog 13 #[.agg #[.slice ta tn tc, .slice na nn nc, .slice la ln lc, .int .i64 st, .slice pa n pc]] X fun e y => e = .returned (.tuple #[.slice none 0 0, .int .i64 1]) ∧ X.grownBy y none) := fun X hX => sets_bad ta na la pa tc nc lc pc ts ns lv n L R ra rc V st X tn nn ln hlen (hG.kept hX) hv hc
  have HNU : Hid (∀ X, w.grownBy X none → Calls Tryd.prog 10 #[.agg #[.slice ta tn tc, .slice na nn nc, .slice la ln lc, .int .i64 st, .slice pa n pc]] X fun e y => e = .returned (.tuple #[.slice none 0 0, .int .i64 1]) ∧ X.grownBy y none) := fun X hX => nullable_bad ta na la pa tc nc lc pc ts ns lv n L R ra rc V st X tn nn ln hlen (hG.kept hX) hv hc
  have HX0 : Hid (PhAt w (w.alloc (.cells #[.slice ta tn tc, .slice na nn nc, .slice la ln lc, .int .i64 st, .slice pa n pc] 27)) w.heap.size #[.slice ta tn tc, .slice na nn nc, .slice la ln lc, .int .i64 st, .slice pa n pc]) := ⟨World.grownBy_alloc _ _ none, heap_alloc_last w _⟩
  clear hG hlen hv hc hT h0
  go_enter Tryd.func6, Tryd.ntmps6
  go_wp2_with fail
  refine Calls.mono (HAW.out _ HX0.out.grown) ?_
  rintro e w1 ⟨rfl, hg1⟩
  have HX1 : Hid (PhAt w w1 w.heap.size #[.slice ta tn tc, .slice na nn nc, .slice la ln lc, .int .i64 st, .slice pa n pc]) := HX0.out.kept hg1
  clear hg1 HX0
  obtain ⟨k0, k1, k2, k3, k4⟩ := HX1.out.cells
  go_wp2_with fail
  refine Calls.mono (HSE.out _ HX1.out.grown) ?_
  rintro e w2 ⟨rfl, hg2⟩
  have HX2 : Hid (PhAt w w2 w.heap.size #[.slice ta tn tc, .slice na nn nc, .slice la ln lc, .int .i64 st, .slice pa n pc]) := HX1.out.kept hg2
  clear hg2 HX1 k0 k1 k2 k3 k4
  obtain ⟨k0, k1, k2, k3, k4⟩ := HX2.out.cells
  go_wp2_with fail
  refine Calls.mono (HNU.out _ HX2.out.grown) ?_
  rintro e w3 ⟨rfl, hg3⟩
  have HX3 : Hid (PhAt w w3 w.heap.size #[.slice ta tn tc, .slice na nn nc, .slice la ln lc, .int .i64 st, .slice pa n pc]) := HX2.out.kept hg3
  clear hg3 HX2 k0 k1 k2 k3 k4
  go_wp2_with fail
  go_ret
  exact ⟨rfl, HX3.out.grown⟩

set_option maxRecDepth 100000 in
set_option maxHeartbeats 4000000 in
theorem least_ok (ta na la pa : Option Addr) (tc nc lc pc : Nat) (ts : List (ByteArray × Int)) (ns : List ByteArray) (lv : List Int) (n : Nat) (L : Nat → Int) (R : Nat → List Int) (ra : Nat → Option Addr) (rc : Nat → Nat) (V : Nat → Int) (st : Int) (w : World) (tn nn ln : Nat) (hlen : ts.length = tn ∧ ns.length = nn ∧ lv.length = ln) (hG : GAt w ta na la pa tc nc lc pc ts ns lv n L R ra rc V) (hT : B.Tab w) (h0 : 0 < w.heap.size) (hok : validOK ts ns lv st n L R V ∨ closedOK ts ns lv st n L R V) {cl : Bool} (hM : MayOK tn nn n st L R cl) : Calls Tryd.prog 6 #[.agg #[.slice ta tn tc, .slice na nn nc, .slice la ln lc, .int .i64 st, .slice pa n pc]] w fun e y => e = .returned (.bool true) ∧ w.grownBy y none := by
  obtain ⟨F, Mk, hF⟩ := FOf.exists tn n L R
  have HAW : Hid (∀ X, w.grownBy X none → Calls Tryd.prog 8 #[] X fun e w' => e = .returned (.bool true) ∧ X.grownBy w' none) := fun X hX => kawake_any X (Tab_kept hT hX h0) (Nat.lt_of_lt_of_le h0 hX.size)
  obtain ⟨Q, hQd⟩ : ∃ Q : Nat → List Int, ∀ i, Q i = B.mems 1024 (Mk i) := ⟨_, fun _ => rfl⟩
  have HSS : Hid (∀ X, w.grownBy X none → Calls Tryd.prog 13 #[.agg #[.slice ta tn tc, .slice na nn nc, .slice la ln lc, .int .i64 st, .slice pa n pc]] X fun e y => SetsTold nn Q X e y) := fun X hX => sets_ok ta na la pa tc nc lc pc ts ns lv n L R ra rc V st X tn nn ln hlen (hG.kept hX) hok hM F Mk hF (Tab_kept hT hX h0) (Nat.lt_of_lt_of_le h0 hX.size) Q hQd
  have HNU : Hid (∀ X, w.grownBy X none → Calls Tryd.prog 10 #[.agg #[.slice ta tn tc, .slice na nn nc, .slice la ln lc, .int .i64 st, .slice pa n pc]] X fun e y => ∃ k, e = .returned (.tuple #[.slice (some ⟨k, 0, none⟩) nn nn, .int .i64 0]) ∧ X.heap.size ≤ k ∧ ValAt y k nn 4 (fun i => .bool (F i)) ∧ X.grownBy y none) := fun X hX => nullable_ok ta na la pa tc nc lc pc ts ns lv n L R ra rc V st X tn nn ln hlen (hG.kept hX) hok hM F hF.nul
  obtain ⟨S, hS⟩ : ∃ S, S = tn + nn := ⟨_, rfl⟩
  have HSE : Hid (S = tn + nn) := hS
  have hnn : nn ≤ 65 := hM.nmax
  have htn : tn ≤ 65 := hM.tmax
  have hSz : S ≤ 130 := by omega
  have HSY : Hid (∀ X, Calls Tryd.prog 25 #[.agg #[.slice ta tn tc, .slice na nn nc, .slice la ln lc, .int .i64 st, .slice pa n pc]] X fun e y => e = .returned (.int .i64 (S : Int)) ∧ X.grownBy y none) := fun X => by
    refine (symbols_any ta na la _ tn nn ln n tc nc lc pc st X (by omega) (by omega)).mono ?_
    rintro e y ⟨rfl, hg⟩
    exact ⟨by rw [hS, Int.natCast_add], hg⟩
  have hQB : ∀ i, i < nn → ∀ t ∈ Q i, (0 : Int) ≤ t ∧ t < (tn : Int) ∧ Beg tn n L R ((tn + i : Nat) : Int) t := fun i hi t ht => by
    rw [hQd] at ht
    unfold B.mems at ht
    simp only [List.mem_map, List.mem_filter, List.mem_range] at ht
    obtain ⟨j, ⟨_, h2⟩, rfl⟩ := ht
    have h3 := (hF.beg i j).1 h2
    exact ⟨by omega, h3.bound.2, h3⟩
  have HQB : Hid (∀ i, i < nn → ∀ t ∈ Q i, (0 : Int) ≤ t ∧ t < (tn : Int) ∧ Beg tn n L R ((tn + i : Nat) : Int) t) := hQB
  have HQS : Hid (∀ i, (Q i).length ≤ 1024) := fun i => by rw [hQd]; exact mems_short _
  have HFN : Hid (∀ i, F i = true ↔ Nul n L R ((tn + i : Nat) : Int)) := hF.nul
  have HNT : Hid (∀ x, Nul n L R x → (tn : Int) ≤ x) := fun x h => by
    cases h with
    | prod k hk _ => exact (hM.left k hk).1
  have HML : Hid (∀ k, k < n → (tn : Int) ≤ L k) := fun k hk => (hM.left k hk).1
  have HMR : Hid (∀ k, k < n → ∀ x ∈ R k, (0 : Int) ≤ x ∧ x < (S : Int)) := fun k hk x hx => by have := hM.right k hk x hx; exact ⟨by omega, by rw [hS]; exact this.2⟩
  have hn97 : n ≤ 97 := hM.pmax
  have HX0 : Hid (PhAt w (w.alloc (.cells #[.slice ta tn tc, .slice na nn nc, .slice la ln lc, .int .i64 st, .slice pa n pc] 27)) w.heap.size #[.slice ta tn tc, .slice na nn nc, .slice la ln lc, .int .i64 st, .slice pa n pc]) := ⟨World.grownBy_alloc _ _ none, heap_alloc_last w _⟩
  have hpr : ∃ bp op, pa = some ⟨bp, op, none⟩ ∧ ∀ k, k < n → w.cell? ⟨bp, op + k * 3, none⟩ = some (.int .i64 (L k)) ∧ w.cell? ⟨bp, op + k * 3 + 1, none⟩ = some (.slice (ra k) (R k).length (rc k)) ∧ IntsAt w (ra k) (R k) ∧ (R k).length ≤ 17592186044416 := by
    rcases hG.prods with h | ⟨bp, op, e, hp⟩
    · have := hM.p0; omega
    · exact ⟨bp, op, e, fun k hk => ⟨(hp k hk).1, (hp k hk).2.1, (hp k hk).2.2.2.1, (hp k hk).2.2.2.2.2⟩⟩
  obtain ⟨bp, op, rfl, hp⟩ := hpr
  have HPC : Hid (∀ k, k < n → ∀ X, w.grownBy X none → X.cell? ⟨bp, op + k * 3, none⟩ = some (.int .i64 (L k)) ∧ X.cell? ⟨bp, op + k * 3 + 1, none⟩ = some (.slice (ra k) (R k).length (rc k)) ∧ IntsAt X (ra k) (R k)) := fun k hk X hX => ⟨hX.cell (hp k hk).1 (by simp), hX.cell (hp k hk).2.1 (by simp), (hp k hk).2.2.1.kept hX⟩
  have HRB : Hid (∀ k, k < n → (R k).length ≤ 17592186044416) := fun k hk => (hp k hk).2.2.2
  obtain ⟨i0, hi0, hz0, hz1, hz2⟩ := info_parts infoBoolK
  obtain ⟨i1, hi1, hy0, hy1, hy2⟩ := info_parts infoInt
  clear hG hlen hok hM hF hT h0 hQd hQB hp hS
  go_enter Tryd.func6, Tryd.ntmps6
  go_wp2_with fail
  refine Calls.mono (HAW.out _ HX0.out.grown) ?_
  rintro e w1 ⟨rfl, hg1⟩
  have HX1 : Hid (PhAt w w1 w.heap.size #[.slice ta tn tc, .slice na nn nc, .slice la ln lc, .int .i64 st, .slice (some ⟨bp, op, none⟩) n pc]) := HX0.out.kept hg1
  clear hg1 HX0 HAW
  obtain ⟨k0, k1, k2, k3, k4⟩ := HX1.out.cells
  go_wp2_with fail
  refine Calls.mono (HSS.out _ HX1.out.grown) ?_
  rintro e w2 ⟨ks, ua, uc, rfl, hks, hV2, hR2, hg2⟩
  have HX2 : Hid (PhAt w w2 w.heap.size #[.slice ta tn tc, .slice na nn nc, .slice la ln lc, .int .i64 st, .slice (some ⟨bp, op, none⟩) n pc]) := HX1.out.kept hg2
  have HV2 : Hid (ValAt w2 ks nn 24 (fun i => .slice (ua i) (Q i).length (uc i))) := hV2
  have HR2 : Hid (∀ i, i < nn → IntsAt w2 (ua i) (Q i)) := fun i hi => (hR2 i hi).ints
  clear hg2 hks hV2 hR2 HX1 HSS k0 k1 k2 k3 k4
  obtain ⟨k0, k1, k2, k3, k4⟩ := HX2.out.cells
  go_wp2_with fail
  refine Calls.mono (HNU.out _ HX2.out.grown) ?_
  rintro e w3 ⟨kn, rfl, hkn, hV3, hg3⟩
  have HPS0 : Hid (PsAt w w3 #[.slice ta tn tc, .slice na nn nc, .slice la ln lc, .int .i64 st, .slice (some ⟨bp, op, none⟩) n pc] ks kn nn Q F ua uc) := ⟨grown_trans HX2.out.grown hg3, (HX2.out.kept hg3).box, HV2.out.kept hg3, fun i hi => (HR2.out i hi).kept hg3, hV3⟩
  clear hg3 hkn hV3 HX2 HV2 HR2 HNU k0 k1 k2 k3 k4
  obtain ⟨k0, k1, k2, k3, k4⟩ := HPS0.out.ph.cells
  have hnb : ((nn : Int) != (nn : Int)) = false := bne_self_eq_false _
  go_wp2_with fail
  clear k0 k1 k2 k3 k4
  go_loopg [8] nn (fun gk v8 wr => ∃ i : Nat, i ≤ nn ∧ gk = nn - i ∧ v8 = .int .i64 i ∧ PsAt w wr #[.slice ta tn tc, .slice na nn nc, .slice la ln lc, .int .i64 st, .slice (some ⟨bp, op, none⟩) n pc] ks kn nn Q F ua uc)
  case atStart => exact ⟨0, Nat.zero_le _, rfl, rfl, HPS0.out⟩
  case round =>
    obtain ⟨i, hi, hgi, rfl, hPS⟩ := hrel
    have HGI : Hid (gk = nn - i) := hgi
    have HPS : Hid (PsAt w wr #[.slice ta tn tc, .slice na nn nc, .slice la ln lc, .int .i64 st, .slice (some ⟨bp, op, none⟩) n pc] ks kn nn Q F ua uc) := hPS
    clear hgi hPS HPS0
    generalize wr = P at *
    obtain ⟨k0, k1, k2, k3, k4⟩ := HPS.out.ph.cells
    by_cases hin : i < nn
    · have hi0' : (0 : Int) ≤ (i : Int) := by omega
      have hi1' : (i : Int) < (nn : Int) := by omega
      have hid : decide (i < nn) = true := decide_eq_true hin
      go_wp2_with fail
      refine Calls.mono (HSY.out _) ?_
      rintro e w4 ⟨rfl, hg4⟩
      have HG4 : Hid (P.grownBy w4 none) := hg4
      clear hg4 k0 k1 k2 k3 k4
      obtain ⟨k0, k1, k2, k3, k4⟩ := (HPS.out.kept HG4.out).ph.cells
      go_wp2_with (at_make; refine wpList_make_full _ rfl _ _ 30 rfl w4.heap.size 4 i0 (.bool false) 1 Tryd.underlying30 hi0 hz0 hz1 .i64 .i64 _ _ S rfl rfl (by simp) (by simp) (by rw [hz2]; omega) (by unfold maxLen; omega) (by simp) ?_)
      intro w5 hown hgrow
      have hval : ValAt w5 w4.heap.size S 4 (fun _ => .bool false) := made_rowK (B := w4.heap.size) rfl (by simpa [Value.cells] using hown)
      obtain ⟨mb, hmb⟩ : ∃ mb, mb = w4.heap.size := ⟨_, rfl⟩
      rw [← hmb] at hval
      rw [← hmb]
      have HG5 : Hid (P.grownBy w5 none) := grown_trans HG4.out hgrow
      have HLO : Hid (P.heap.size ≤ mb) := by have := HG4.out.size; show _ ≤ _; omega
      have HV5 : Hid (ValAt w5 mb S 4 (fun i => .bool ((fun _ => false : Nat → Bool) i))) := hval
      clear hown hgrow hval hmb k0 k1 k2 k3 k4 HG4
      obtain ⟨k0, k1, k2, k3, k4⟩ := (HPS.out.kept HG5.out).ph.cells
      have HWA0 : Hid (WkAt P (w5.alloc (.cells #[.int .i64 ((tn : Int) + (i : Int))] 3)) mb S (fun _ => false) (some ⟨w5.heap.size, 0, none⟩) 1 [(tn : Int) + (i : Int)]) :=
        ⟨grown_trans HG5.out (World.grownBy_alloc _ _ none), HV5.out.kept (World.grownBy_alloc _ _ none), HLO.out, ⟨Nat.le_refl _, fun _ => ⟨w5.heap.size, 0, _, rfl, HG5.out.size, heap_alloc_last w5 _, Nat.le_refl _, fun j hj => by
          have : j = 0 := by simpa using hj
          subst this; rfl⟩⟩⟩
      have HWP0 : Hid (WkP tn n S L R ((tn : Int) + (i : Int)) (-1) 0 (fun _ => false) [(tn : Int) + (i : Int)]) := WkP.start (by omega) (by have := HSE.out; omega)
      have HUL : Hid (unm S (fun _ => false) ≤ S) := unm_le _ _
      go_wp2_with fail
      clear k0 k1 k2 k3 k4
      go_loopg [10] (unm S (fun _ => false) + 1) (fun gk v10 wr => ∃ (q : Nat) (met : Nat → Bool) (a : Option Addr) (cap : Nat) (xs : List Int), v10 = .slice a q cap ∧ q = xs.length ∧ gk = unm S met + xs.length ∧ unm S met + xs.length ≤ S + 1 ∧ WkP tn n S L R ((tn : Int) + (i : Int)) (-1) 0 met xs ∧ WkAt P wr mb S met a cap xs)
      case atStart => exact ⟨1, fun _ => false, _, 1, [(tn : Int) + (i : Int)], rfl, rfl, rfl, by have := HUL.out; simp; omega, HWP0.out, HWA0.out⟩
      case round =>
        obtain ⟨q, met, a, cap, xs, rfl, hq, hgk, hms, hWP, hWA⟩ := hrel
        have HQ : Hid (q = xs.length) := hq
        have HGK : Hid (gk = unm S met + xs.length) := hgk
        have HMS : Hid (unm S met + xs.length ≤ S + 1) := hms
        have HWP : Hid (WkP tn n S L R ((tn : Int) + (i : Int)) (-1) 0 met xs) := hWP
        have HWA : Hid (WkAt P wr mb S met a cap xs) := hWA
        clear hgk hms hWP hWA HWA0 HWP0
        cases xs with
        | cons z ys =>
          have hzr := HWP.out.rng z (List.mem_cons_self ..)
          obtain ⟨g, off, rfl, hcz⟩ := HWA.out.head
          have hq1 : 1 ≤ q := by rw [hq]; simp
          have hqc : q ≤ cap := by rw [hq]; exact HWA.out.que.1
          have hqb : q ≤ 1000 := by have := HMS.out; rw [hq]; omega
          have hqd : decide (0 < q) = true := decide_eq_true (by omega)
          have hqi : (1 : Int) ≤ (q : Int) := by omega
          obtain ⟨q2, hq2⟩ : ∃ q2, q = q2 + 1 := ⟨q - 1, by omega⟩
          have HQ2 : Hid (q2 = ys.length) := by have := hq; simp at this; show _ = _; omega
          have HWP1 : Hid (WkP tn n S L R ((tn : Int) + (i : Int)) z 0 met ys) := HWP.out.pop
          have HMS1 : Hid (gk = unm S met + ys.length + 1 ∧ unm S met + ys.length ≤ S) := by have h1 := HGK.out; have h2 := HMS.out; simp at h1 h2; exact ⟨by omega, by omega⟩
          obtain ⟨k0, k1, k2, k3, k4⟩ := (HPS.out.kept HWA.out.grown).ph.cells
          obtain ⟨z', rfl⟩ : ∃ z' : Nat, z = (z' : Int) := ⟨z.toNat, by omega⟩
          have hz2 : z' < S := by omega
          clear hq hzr hqd
          subst hq2
          generalize hwr : wr = W0 at *
          clear hwr
          by_cases hzt : z' < tn
          · have hztd : decide (z' < tn) = true := decide_eq_true hzt
            have HSK : Hid (WkP tn n S L R ((tn : Int) + (i : Int)) (-1) 0 met ys) := HWP1.out.skip (by omega)
            by_cases hcp : cap = 1
            case' pos =>
              have HT : Hid (WkAt P W0 mb S met (some ⟨g, off, none⟩) 0 ys) := by
                have := HWA.out.tail (some ⟨g, off, none⟩) (fun h => by omega)
                rwa [hcp] at this
              subst hcp
              obtain rfl : q2 = 0 := by omega
              go_wp2_with fail
            case' neg =>
              have hcp1 : 1 < cap := by have := hqc; omega
              have HT : Hid (WkAt P W0 mb S met (some ⟨g, off + 1, none⟩) (cap - 1) ys) := HWA.out.tail _ (fun _ => rfl)
              have hcd : decide (1 < cap) = true := decide_eq_true hcp1
              go_wp2_with fail
            all_goals
              go_roundg (unm S met + ys.length)
              case measure => have := HMS1.out.1; omega
              case rel => exact ⟨_, met, _, _, ys, rfl, HQ2.out, rfl, by have := HMS1.out.2; omega, HSK.out, HT.out⟩
          · have hztd : decide (z' < tn) = false := decide_eq_false hzt
            by_cases hcp : cap = 1
            case' pos =>
              have HT : Hid (WkAt P W0 mb S met (some ⟨g, off, none⟩) 0 ys) := by
                have := HWA.out.tail (some ⟨g, off, none⟩) (fun h => by omega)
                rwa [hcp] at this
              subst hcp
              obtain rfl : q2 = 0 := by omega
              go_wp2_with fail
            case' neg =>
              have hcp1 : 1 < cap := by have := hqc; omega
              have HT : Hid (WkAt P W0 mb S met (some ⟨g, off + 1, none⟩) (cap - 1) ys) := HWA.out.tail _ (fun _ => rfl)
              have hcd : decide (1 < cap) = true := decide_eq_true hcp1
              go_wp2_with fail
            all_goals
              refine least_mid (P := P) (gb := w.heap.size) (kn := kn) (mb := mb) (S := S) (nn := nn) (tn := tn) (n := n) (tc := tc) (pc := pc) (bp := bp) (op := op) (MM := unm S met + ys.length) (z' := z') (ta := ta) (L := L) (R := R) (ra := ra) (rc := rc) (F := F) (s0 := (tn : Int) + (i : Int)) (met := met) (ys := ys) HSE.out hSz hn97 (by have := HMS1.out.2; omega) (fun X hX => ⟨(HPS.out.kept hX).ph.cells.1, (HPS.out.kept hX).ph.cells.2.2.2.2⟩) (fun X hX s hs => (HPS.out.kept hX).nul.cell s hs) (fun k hk X hX => HPC.out k hk X (HPS.out.kept hX).grown) HRB.out HMR.out HFN.out HNT.out HQ2.out (Nat.le_refl _) HWP1.out HT.out ?_
              intro wz q4 cap4 a4 met4 zs4 u12 u13 u14 u15 u88 u89 u90 u91 u92 u93 u94 u95 u96 u97 u98 u99 u100 u101 u102 u103 u104 u105 u106 u107 u108 u109 u110 u111 u112 u113 u114 u115 u116 u117 u118 u119 u120 u121 u122 u123 u124 u125 u126 u127 u128 u129 u130 u131 u132 u133 u134 u135 u136 u137 u138 u139 u140 u141 u142 u143 u144 u145 u146 u147 u148 u149 u150 u151 u152 u153 u154 u155 u156 u157 u158 u159 hq4 hms4 hWP4 hWA4
              have HQ4 : Hid (q4 = zs4.length) := hq4
              have HMS4 : Hid (unm S met4 + zs4.length ≤ unm S met + ys.length) := hms4
              have HWP4 : Hid (WkP tn n S L R ((tn : Int) + (i : Int)) (-1) 0 met4 zs4) := hWP4
              have HWA4 : Hid (WkAt P wz mb S met4 a4 cap4 zs4) := hWA4
              clear hq4 hms4 hWP4 hWA4 k0 k1 k2 k3 k4 hcz
              go_wp2_with fail
              go_roundg (unm S met4 + zs4.length)
              case measure => have h1 := HMS1.out.1; have h2 := HMS4.out; omega
              case rel => exact ⟨q4, met4, a4, cap4, zs4, rfl, HQ4.out, rfl, by have h1 := HMS1.out.2; have h2 := HMS4.out; omega, HWP4.out, HWA4.out⟩
        | nil =>
          have hq0 : q = 0 := by rw [hq]; rfl
          subst hq0
          have HME : Hid (∀ t ∈ Q i, (0 : Int) ≤ t ∧ t < (tn : Int) ∧ met t.toNat = true) := fun t ht => by
            obtain ⟨h1, h2, h3⟩ := HQB.out i hin t ht
            have e : ((tn + i : Nat) : Int) = (tn : Int) + (i : Int) := by omega
            rw [e] at h3
            exact ⟨h1, h2, HWP.out.fin (by omega) HML.out (fun k hk x hx => (HMR.out k hk x hx).1) h3 (.inl rfl)⟩
          obtain ⟨ql, hql⟩ : ∃ r, r = (Q i).length := ⟨_, rfl⟩
          have HQL : Hid (ql = (Q i).length) := hql
          have hqlb : ql ≤ 1024 := by rw [hql]; exact HQS.out i
          have HGV : Hid (P.grownBy wr none ∧ ValAt wr mb S 4 (fun i => .bool (met i))) := ⟨HWA.out.grown, HWA.out.met⟩
          clear hql hq HWA HGK HMS HWP HQ
          generalize wr = W0 at *
          go_wp2_with fail
          go_loopg [16] ql (fun gk v16 wr => ∃ j : Nat, j ≤ ql ∧ gk = ql - j ∧ v16 = .int .i64 j ∧ P.grownBy wr none ∧ ValAt wr mb S 4 (fun i => .bool (met i)))
          case atStart => exact ⟨0, Nat.zero_le _, rfl, rfl, HGV.out.1, HGV.out.2⟩
          case round =>
            obtain ⟨j, hj, hgj, rfl, hgp, hvm⟩ := hrel
            have HGJ : Hid (gk = ql - j) := hgj
            have HGP : Hid (P.grownBy wr none ∧ ValAt wr mb S 4 (fun i => .bool (met i))) := ⟨hgp, hvm⟩
            clear hgj hgp hvm HGV
            have s0 := (HPS.out.kept HGP.out.1).row.cell i hin
            rw [← HQL.out] at s0
            obtain ⟨k0, k1, k2, k3, k4⟩ := (HPS.out.kept HGP.out.1).ph.cells
            by_cases hjl : j < ql
            · have hjQ : j < (Q i).length := by rw [← HQL.out]; exact hjl
              obtain ⟨h1, h2, h3⟩ := HME.out ((Q i).getD j 0) (by rw [List.getD_eq_getElem?_getD, List.getElem?_eq_getElem hjQ]; exact List.getElem_mem hjQ)
              obtain ⟨t2, ht2⟩ : ∃ t2 : Nat, (Q i).getD j 0 = (t2 : Int) := ⟨((Q i).getD j 0).toNat, by omega⟩
              rw [ht2] at h1 h2 h3
              rw [Int.toNat_natCast] at h3
              obtain ⟨rb, ro, hrk, hrc⟩ : ∃ rb ro, ua i = some ⟨rb, ro, none⟩ ∧ wr.cell? ⟨rb, ro + j, none⟩ = some (.int .i64 (t2 : Int)) := by
                rcases (HPS.out.kept HGP.out.1).rows i hin with h | ⟨b, off, e, h⟩
                · rw [h] at hjQ; cases hjQ
                · exact ⟨b, off, e, by rw [← ht2]; exact h j hjQ⟩
              rw [hrk] at s0
              have htS : t2 < S := by have := HSE.out; omega
              have hmc := HGP.out.2.cell t2 htS
              rw [h3] at hmc
              have d0 : (0 : Int) ≤ (t2 : Int) := by omega
              have d1 : (t2 : Int) < (S : Int) := by omega
              have d2 : decide (tn ≤ t2) = false := decide_eq_false (by omega)
              have d3 : decide ((t2 : Int) < 0) = false := decide_eq_false (by omega)
              have hj0 : (0 : Int) ≤ (j : Int) := by omega
              have hj1 : (j : Int) < (ql : Int) := by omega
              have hjd : decide (j < ql) = true := decide_eq_true hjl
              clear h1 h2 h3 ht2 hjQ hrk
              go_wp2_with fail
              go_quiet (fail)
              go_wp2_with fail
              go_roundg (ql - (j + 1))
              case measure => have := HGJ.out; omega
              case rel => exact ⟨j + 1, by omega, rfl, by go_num, grown_trans HGP.out.1 (grown_drewN _ _), HGP.out.2.kept (grown_drewN _ _)⟩
            · have hjn : ql = j := by omega
              subst hjn
              have hjd : decide (ql < ql) = false := decide_eq_false (by omega)
              go_wp2_with fail
              go_roundg (nn - (i + 1))
              case measure => have := HGI.out; omega
              case rel => exact ⟨i + 1, by omega, rfl, by go_num, HPS.out.kept HGP.out.1⟩
    · have hik : nn = i := by omega
      subst hik
      have hid : decide (nn < nn) = false := decide_eq_false (by omega)
      go_wp2_with fail
      go_ret
      exact ⟨rfl, HPS.out.grown⟩

end Go.Proofs.YtdhojilmgnodeaaDoor

/-
  FirstLeast, of every grammar.
-/
namespace Go.Proofs.YtdhojilmgnodeaaDoor
open Go.RowKit Go.Maps Go.Shelf

theorem least_core (ta na la pa : Option Addr) (tc nc lc pc : Nat) (ts : List (ByteArray × Int)) (ns : List ByteArray) (lv : List Int) (n : Nat) (L : Nat → Int) (R : Nat → List Int) (ra : Nat → Option Addr) (rc : Nat → Nat) (V : Nat → Int) (st : Int) (w : World) (tn nn ln : Nat) (hlen : ts.length = tn ∧ ns.length = nn ∧ lv.length = ln) (hG : GAt w ta na la pa tc nc lc pc ts ns lv n L R ra rc V) (hT : B.Tab w) (h0 : 0 < w.heap.size) : Calls Tryd.prog 6 #[.agg #[.slice ta tn tc, .slice na nn nc, .slice la ln lc, .int .i64 st, .slice pa n pc]] w fun e y => e = .returned (.bool true) ∧ w.grownBy y none := by
  by_cases hok : validOK ts ns lv st n L R V ∨ closedOK ts ns lv st n L R V
  · obtain ⟨rV, hV⟩ := boolOf (validOK ts ns lv st n L R V)
    obtain ⟨rC, hC⟩ := boolOf (closedOK ts ns lv st n L R V)
    have hM : MayOK tn nn n st L R rC := may_of hlen hV hC (by rcases hok with h | h; · rw [hV.2 h]; rfl
                                                               · rw [hC.2 h]; simp)
    exact least_ok ta na la pa tc nc lc pc ts ns lv n L R ra rc V st w tn nn ln hlen hG hT h0 hok hM
  · exact least_bad ta na la pa tc nc lc pc ts ns lv n L R ra rc V st w tn nn ln hlen hG hT h0 (fun h => hok (.inl h)) (fun h => hok (.inr h))

end Go.Proofs.YtdhojilmgnodeaaDoor

/-
  FirstLeast holds: it answers true for every grammar, which reads afterwards as it did before; the library's table of trailing zeros starts as the program's text lays it.
-/
namespace Go.Proofs.YtdhojilmgnodeaaDoor
open Go.ChangeShapes Go.WideShapes Go.ChangeAt Go.RowKit

set_option maxRecDepth 100000 in
theorem least_lifted (os : Os) (started : os.Started) (H : Type) (enc : TypeId × Value → H) :
    ReturnsInHanded {} Tryd.checked os 6 .any (fun w args => (Rows.firstLeastSpec.pre enc Tryd.prog Tryd.f6 [] false w args ∧ laidMetH Tryd.prog laid1 w) ∧ sizedMet enc Tryd.prog Tryd.f6 (OpenSpec.ofChange Rows.firstLeastSpec) false w args)
      (Rows.firstLeastSpec.post enc Tryd.prog Tryd.f6 false true false false) := by
  refine returnsInHanded_of_change_and (C := Tryd.checked) (X := fun w _ => laidMetH Tryd.prog laid1 w) (fun _ _ _ hh h => h.of_heap hh) own started (by kernel_rfl) Tryd.func6
    (ChangeSpec.witness_shaped (enc := enc) (C := Tryd.checked) (os := os) (X := fun w _ => laidMetH Tryd.prog laid1 w) false (World.doorLaid Tryd.prog 14 os) #[.agg #[.slice none 0 0, .slice none 0 0, .slice none 0 0, .int .i64 0, .slice none 0 0]] 8 rfl (World.shaped_of_RefB (by kernel_rfl) (by kernel_rfl)) (by kernel_rfl) (by kernel_rfl) (by kernel_rfl) (door_met os _)) ?_
  intro W base args ds gs before hval0 hW _ hsz0 hL _
  have hval : ∀ (j : Nat) t v, Tryd.f6.params[j]? = some t → args[j]? = some v → Value.okWide Tryd.prog W .any base t v := hval0
  have hsz : (DataW.weightsEach Tryd.prog (Tryd.f6.params.toList ++ Rows.firstLeastSpec.plain.varTypes Tryd.prog) (ds ++ gs)).all (· ≤ reachBytes) = true := hsz0
  have hW' := hW
  obtain ⟨p, q, hA0, hV, rfl, hfz, hnd⟩ := hW
  have hA : DataW.TrodAll enc Tryd.prog W 0 (fun _ => true) true Tryd.f6.params.toList args.toList ds p := hA0
  rw [Tryd.params6] at hA hval hsz
  obtain ⟨v0, vs0, d0, ds0, p0, q0, hargs, rfl, rfl, h0, r0⟩ := trodAll_cons hA
  obtain ⟨rfl, rfl, rfl⟩ := trodAll_nil r0
  obtain rfl : args = #[v0] := by cases args; simp_all
  obtain ⟨rfl, rfl⟩ := trodVars_none hV
  have lt0 : ∀ x ∈ p0, x.block < W.heap.size := by obtain ⟨m, hm⟩ := h0; exact DataW.trod_lt m _ _ _ hm
  have hw0 : ∀ n ∈ d0.weights Tryd.prog 27, n ≤ reachBytes := fun n hn => by
    have := List.all_eq_true.1 hsz n (DataW.weights_mem_each (j := 0) (t := 27) (d := d0) rfl rfl n hn)
    simpa using this
  obtain ⟨ta, na, la, pa, tc, nc, lc, pc, ts, ns, lv, n, L, R, ra, rc, V, st, rfl, hG, hIn⟩ := open_gram (hval 0 27 v0 rfl rfl) h0 hw0
  have hT := tab_of_laid hL
  clear hA0 hval0
  refine (least_core ta na la pa tc nc lc pc ts ns lv n L R ra rc V st W ts.length ns.length lv.length ⟨rfl, rfl, rfl⟩ hG hT (heap_pos hT)).mono fun e W' ⟨he, hg⟩ => ?_
  subst he
  have bel := grown_below0 hg
  exact ⟨_, rfl, _, _, _, [], _, [], hW', trodAll_mk1 (shut_bool Tryd.underlying4 _), trodAll_cons_mk (Below.trod laidOut (by kernel_rfl) (of_decide_eq_true (by kernel_rfl)) h0 bel lt0) trodAll_mk0, rfl, bel.frame _, fun h => by cases h⟩

theorem firstLeast_holds : Rows.FirstLeastSaid :=
  OpenClaim.holds_of_wide 6 Tryd.f6 rfl rfl rfl rfl rfl rfl rfl ⟨rfl, rfl, rfl, rfl, rfl⟩ rfl rfl rfl rfl rfl (by kernel_rfl) Tryd.func6 (by kernel_rfl)
    (of_decide_eq_true (by kernel_rfl)) (by unfold Func.isWrapper; first | (rw [if_pos (by decide +kernel)]; kernel_rfl) | (rw [if_neg (by decide +kernel)]; exact ⟨rfl, rfl⟩))
    (fun os started H enc _ => least_lifted os started H enc)

end Go.Proofs.YtdhojilmgnodeaaDoor
