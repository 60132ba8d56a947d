import Derived.Test.YtljlkmiaemkokaaQjnfhcnnjbogg
import Derived.Test.YtljlkmiaemkokaaQolbafokccean

/-
  reach: the first of useOf's steps.
-/
namespace Go.Proofs.Ytljlkmiaemkokaa
open Go.RowKit Go.Maps Go.Shelf

attribute [local go_sem] Oper.semAt_some

/-- One member more. -/
theorem add_one (b n m bl : Nat) (x : Int) (w : World) (hS : B.SetM w (some ⟨b, 0, none⟩) n m) (hne : bl ≠ b) (hl : w.cell? ⟨bl, 0, none⟩ = some (.int .i64 x)) :
    Calls Try.prog 42 #[.pointer (some ⟨b, 0, none⟩), .slice (some ⟨bl, 0, none⟩) 1 1] w fun e w' => e = .returned (.int .i64 ((B.addS n m [x]).2 : Nat)) ∧ B.SetM w' (some ⟨b, 0, none⟩) n (B.addS n m [x]).1 ∧ w.grownBy w' (some b) := by
  have h1 : ∀ i, i < [x].length → w.cell? ⟨bl, 0 + i, none⟩ = some (.int .i64 ([x].getD i 0)) := fun i hi => by
    have : i = 0 := by simpa using hi
    subst this
    exact hl
  refine Calls.mono (B.add_row b n m bl 0 1 [x] w hS.1 hS.2.1 (SetM_row hS) hne (by simp) h1) ?_
  rintro e w' ⟨he, hr, hlt, hb⟩
  exact ⟨he, B.SetM.of hr hS.1 hlt, hb.os, hb.tape, hb.output, hb.size, fun k hk hne => hb.block k hk (by simpa using hne)⟩

theorem grown_some {w w' : World} (b : Nat) (h : w.grownBy w' none) : w.grownBy w' (some b) := ⟨h.os, h.tape, h.output, h.size, fun k hk _ => h.block k hk (by simp)⟩
theorem grown_then {w w1 w2 : World} {b : Nat} (h : w.grownBy w1 none) (hg : w1.grownBy w2 (some b)) : w.grownBy w2 (some b) :=
  ⟨hg.os.trans h.os, hg.tape.trans h.tape, hg.output.trans h.output, Nat.le_trans h.size hg.size, fun k hk hne => (hg.block k (Nat.lt_of_lt_of_le hk h.size) hne).trans (h.block k hk (by simp))⟩

set_option maxRecDepth 100000 in
set_option maxHeartbeats 1000000 in
theorem step1_any (bu pb ub qb N m s : Nat) (rs : Value) (l v : Int) (ra : Option Addr) (rn rc : Nat) (w : World) (hU : w.heap[bu]? = some (.cells #[rs, .pointer (some ⟨pb, 0, none⟩), .pointer (some ⟨ub, 0, none⟩)] 53 (0, 0))) (hP : B.SetM w (some ⟨pb, 0, none⟩) N m) (hQ : B.SetM w (some ⟨qb, 0, none⟩) N s) (c : Bool) (hc : c = true ↔ ∀ i, s.testBit i = true → m.testBit i = true) :
    Calls Try.prog 44 #[.agg #[.int .i64 l, .slice ra rn rc, .int .i64 v, .pointer (some ⟨qb, 0, none⟩)], .pointer (some ⟨bu, 0, none⟩)] w fun e y => e = .returned (.int .i64 ((if c = true then (B.addS N m [l]).2 else 0 : Nat) : Int)) ∧ B.SetM y (some ⟨pb, 0, none⟩) N (if c = true then (B.addS N m [l]).1 else m) ∧ w.grownBy y (some pb) := by
  have u1 : w.cell? ⟨bu, 1, none⟩ = some (.pointer (some ⟨pb, 0, none⟩)) := by rw [cell_of_row _ _ _ _ _ _ hU]; rfl
  have HU : Hid (w.cell? ⟨bu, 1, none⟩ = some (.pointer (some ⟨pb, 0, none⟩))) := u1
  have HP : Hid (B.SetM w (some ⟨pb, 0, none⟩) N m) := hP
  have HQ : Hid (B.SetM w (some ⟨qb, 0, none⟩) N s) := hQ
  have HCV : Hid (∀ x, w.grownBy x none → Calls Try.prog 45 #[.agg #[.pointer (some ⟨pb, 0, none⟩)], .agg #[.pointer (some ⟨qb, 0, none⟩)]] x fun e w' => e = .returned (.bool c) ∧ x.grownBy w' none) := fun x hx => covers_any pb qb N m s x (SetM_kept hP hx) (SetM_kept hQ hx) c hc
  have HG1 : Hid (w.grownBy (w.alloc (.cells #[.int .i64 l, .slice ra rn rc, .int .i64 v, .pointer (some ⟨qb, 0, none⟩)] 78)) none) := World.grownBy_alloc _ _ none
  have u2 := (World.grownBy_alloc w (.cells #[.int .i64 l, .slice ra rn rc, .int .i64 v, .pointer (some ⟨qb, 0, none⟩)] 78) none).cell u1 (by simp)
  have HBX : Hid ((w.alloc (.cells #[.int .i64 l, .slice ra rn rc, .int .i64 v, .pointer (some ⟨qb, 0, none⟩)] 78)).heap[w.heap.size]? = some (.cells #[.int .i64 l, .slice ra rn rc, .int .i64 v, .pointer (some ⟨qb, 0, none⟩)] 78 (0, 0))) := heap_alloc_last w _
  clear hU hP hQ hc
  go_enter Try.func44, Try.ntmps44
  go_wp2_with fail
  refine Calls.mono (HCV.out _ HG1.out) ?_
  rintro e w2 ⟨rfl, hg2⟩
  have HG2 : Hid (w.grownBy w2 none) := grown_trans HG1.out hg2
  have u3 := HG2.out.cell HU.out (by simp)
  have r0 : w2.cell? ⟨w.heap.size, 0, none⟩ = some (.int .i64 l) := by rw [cell_of_row _ _ _ _ _ _ ((hg2.block _ (Array.getElem?_eq_some_iff.1 HBX.out).1 (by simp)).trans HBX.out)]; rfl
  clear hg2 u1 u2
  cases c with
  | false =>
    go_wp2_with fail
    go_ret
    exact ⟨by first | rfl | simp, by first | exact SetM_kept HP.out HG2.out | (simp; exact SetM_kept HP.out HG2.out), grown_some _ HG2.out⟩
  | true =>
    have HAD : Hid (Calls Try.prog 42 #[.pointer (some ⟨pb, 0, none⟩), .slice (some ⟨w2.heap.size, 0, none⟩) 1 1] (w2.alloc (.cells #[.int .i64 l] 3)) fun e w' => e = .returned (.int .i64 ((B.addS N m [l]).2 : Nat)) ∧ B.SetM w' (some ⟨pb, 0, none⟩) N (B.addS N m [l]).1 ∧ (w2.alloc (.cells #[.int .i64 l] 3)).grownBy w' (some pb)) := by
      have h1 := SetM_kept HP.out HG2.out
      exact add_one pb N m w2.heap.size l _ (SetM_kept h1 (World.grownBy_alloc _ _ none)) (by have := SetM_lt h1; omega) (new_cell w2 _ _)
    go_wp2_with fail
    refine Calls.mono HAD.out ?_
    rintro e w3 ⟨rfl, hS3, hg3⟩
    have HS3 : Hid (B.SetM w3 (some ⟨pb, 0, none⟩) N (B.addS N m [l]).1) := hS3
    have HG3 : Hid (w.grownBy w3 (some pb)) := grown_then (grown_trans HG2.out (World.grownBy_alloc _ _ none)) hg3
    clear hS3 hg3
    go_wp2_with fail
    go_ret
    exact ⟨by first | rfl | simp, by first | exact HS3.out | (simp; exact HS3.out), HG3.out⟩

end Go.Proofs.Ytljlkmiaemkokaa

/-
  reach: stays.
-/
namespace Go.Proofs.Ytljlkmiaemkokaa
open Go.RowKit Go.Maps Go.Shelf

attribute [local go_sem] Oper.semAt_some

set_option maxRecDepth 100000 in
set_option maxHeartbeats 1000000 in
theorem stays_any (pb ub qb N m s u : Nat) (rs : Value) (l v : Int) (ra : Option Addr) (rn rc : Nat) (w : World) (hP : B.SetM w (some ⟨pb, 0, none⟩) N m) (hU : B.SetM w (some ⟨ub, 0, none⟩) N u) (hQ : B.SetM w (some ⟨qb, 0, none⟩) N s) (c : Bool) (hc : c = true ↔ ∀ i, s.testBit i = true → m.testBit i = true) (h : Bool) (hh : h = B.hasB u l) :
    Calls Try.prog 48 #[.agg #[rs, .pointer (some ⟨pb, 0, none⟩), .pointer (some ⟨ub, 0, none⟩)], .agg #[.int .i64 l, .slice ra rn rc, .int .i64 v, .pointer (some ⟨qb, 0, none⟩)]] w fun e y => e = .returned (.bool (h && c)) ∧ w.grownBy y none := by
  have HCV : Hid (∀ x, w.grownBy x none → Calls Try.prog 45 #[.agg #[.pointer (some ⟨pb, 0, none⟩)], .agg #[.pointer (some ⟨qb, 0, none⟩)]] x fun e w' => e = .returned (.bool c) ∧ x.grownBy w' none) := fun x hx => covers_any pb qb N m s x (SetM_kept hP hx) (SetM_kept hQ hx) c hc
  have HHS : Hid (∀ x, w.grownBy x none → Calls Try.prog 33 #[.pointer (some ⟨ub, 0, none⟩), .int .i64 l] x fun e w' => e = .returned (.bool h) ∧ x.grownBy w' none) := fun x hx => (B.has_any _ N u l x (SetM_kept hU hx)).mono fun e w' ⟨he, j, hj⟩ => ⟨by rw [hh]; exact he, by rw [hj]; exact grown_drewN _ _⟩
  have HGY : Hid (w.grownBy ((w.alloc (.cells #[rs, .pointer (some ⟨pb, 0, none⟩), .pointer (some ⟨ub, 0, none⟩)] 53)).alloc (.cells #[.int .i64 l, .slice ra rn rc, .int .i64 v, .pointer (some ⟨qb, 0, none⟩)] 78)) none) := grown_trans (World.grownBy_alloc _ _ none) (World.grownBy_alloc _ _ none)
  have HB0 : Hid (((w.alloc (.cells #[rs, .pointer (some ⟨pb, 0, none⟩), .pointer (some ⟨ub, 0, none⟩)] 53)).alloc (.cells #[.int .i64 l, .slice ra rn rc, .int .i64 v, .pointer (some ⟨qb, 0, none⟩)] 78)).heap[w.heap.size]? = some (.cells #[rs, .pointer (some ⟨pb, 0, none⟩), .pointer (some ⟨ub, 0, none⟩)] 53 (0, 0))) := ((World.grownBy_alloc (w.alloc _) _ none).block _ (by simp) (by simp)).trans (heap_alloc_last w _)
  have HB1 : Hid (((w.alloc (.cells #[rs, .pointer (some ⟨pb, 0, none⟩), .pointer (some ⟨ub, 0, none⟩)] 53)).alloc (.cells #[.int .i64 l, .slice ra rn rc, .int .i64 v, .pointer (some ⟨qb, 0, none⟩)] 78)).heap[w.heap.size + 1]? = some (.cells #[.int .i64 l, .slice ra rn rc, .int .i64 v, .pointer (some ⟨qb, 0, none⟩)] 78 (0, 0))) := by
    have h9 := heap_alloc_last (w.alloc (.cells #[rs, .pointer (some ⟨pb, 0, none⟩), .pointer (some ⟨ub, 0, none⟩)] 53)) (.cells #[.int .i64 l, .slice ra rn rc, .int .i64 v, .pointer (some ⟨qb, 0, none⟩)] 78)
    rw [World.size_alloc] at h9
    exact h9
  clear hP hU hQ hc hh
  go_enter Try.func48, Try.ntmps48
  go_wp2_with fail
  refine Calls.mono (HHS.out _ HGY.out) ?_
  rintro e w2 ⟨rfl, hg2⟩
  have HG2 : Hid (w.grownBy w2 none) := grown_trans HGY.out hg2
  have x1 : w2.cell? ⟨w.heap.size, 1, none⟩ = some (.pointer (some ⟨pb, 0, none⟩)) := by rw [cell_of_row _ _ _ _ _ _ ((hg2.block _ (Array.getElem?_eq_some_iff.1 HB0.out).1 (by simp)).trans HB0.out)]; rfl
  have x2 : w2.cell? ⟨w.heap.size + 1, 3, none⟩ = some (.pointer (some ⟨qb, 0, none⟩)) := by rw [cell_of_row _ _ _ _ _ _ ((hg2.block _ (Array.getElem?_eq_some_iff.1 HB1.out).1 (by simp)).trans HB1.out)]; rfl
  clear hg2
  cases h with
  | false =>
    go_wp2_with fail
    go_ret
    exact ⟨by first | rfl | simp, HG2.out⟩
  | true =>
    go_wp2_with fail
    refine Calls.mono (HCV.out _ HG2.out) ?_
    rintro e w3 ⟨rfl, hg3⟩
    have HG3 : Hid (w.grownBy w3 none) := grown_trans HG2.out hg3
    clear hg3
    go_wp2_with fail
    go_ret
    exact ⟨by first | rfl | simp, HG3.out⟩

end Go.Proofs.Ytljlkmiaemkokaa

/-
  reach: the second of useOf's steps.
-/
namespace Go.Proofs.Ytljlkmiaemkokaa
open Go.RowKit Go.Maps Go.Shelf

attribute [local go_sem] Oper.semAt_some

set_option maxRecDepth 100000 in
set_option maxHeartbeats 1000000 in
theorem step2_any (bu pb ub qb N m s u kb n cap : Nat) (l v : Int) (ra : Option Addr) (rn rc : Nat) (w : World) (hB : w.heap[bu]? = some (.cells #[.slice (some ⟨kb, 0, none⟩) n cap, .pointer (some ⟨pb, 0, none⟩), .pointer (some ⟨ub, 0, none⟩)] 53 (0, 0))) (hP : B.SetM w (some ⟨pb, 0, none⟩) N m) (hU : B.SetM w (some ⟨ub, 0, none⟩) N u) (hQ : B.SetM w (some ⟨qb, 0, none⟩) N s) (hne : qb ≠ ub) (c : Bool) (hc : c = true ↔ ∀ i, s.testBit i = true → m.testBit i = true) (t : Bool) (ht : t = (B.hasB u l && c)) (z : Int) (hz : z = ((B.cnt (u ||| (s &&& (2 ^ N - 1))) : Nat) : Int) - (B.cnt u : Nat)) (u2 : Nat) (hu2 : u2 = u ||| (s &&& (2 ^ N - 1))) :
    Calls Try.prog 47 #[.agg #[.int .i64 l, .slice ra rn rc, .int .i64 v, .pointer (some ⟨qb, 0, none⟩)], .pointer (some ⟨bu, 0, none⟩)] w fun e y => e = .returned (.int .i64 (if t = true then z else 0)) ∧ B.SetM y (some ⟨ub, 0, none⟩) N (if t = true then u2 else u) ∧ w.grownBy y (some ub) := by
  have HST : Hid (∀ x, w.grownBy x none → Calls Try.prog 48 #[.agg #[.slice (some ⟨kb, 0, none⟩) n cap, .pointer (some ⟨pb, 0, none⟩), .pointer (some ⟨ub, 0, none⟩)], .agg #[.int .i64 l, .slice ra rn rc, .int .i64 v, .pointer (some ⟨qb, 0, none⟩)]] x fun e y => e = .returned (.bool t) ∧ x.grownBy y none) := fun x hx => by
    rw [ht]; exact stays_any pb ub qb N m s u _ l v ra rn rc x (SetM_kept hP hx) (SetM_kept hU hx) (SetM_kept hQ hx) c hc _ rfl
  have HUN : Hid (∀ x, w.grownBy x none → Calls Try.prog 49 #[.pointer (some ⟨ub, 0, none⟩), .slice (some ⟨x.heap.size, 0, none⟩) 1 1] (x.alloc (.cells #[.pointer (some ⟨qb, 0, none⟩)] 49)) fun e y => e = .returned (.int .i64 z) ∧ B.SetM y (some ⟨ub, 0, none⟩) N u2 ∧ (x.alloc (.cells #[.pointer (some ⟨qb, 0, none⟩)] 49)).grownBy y (some ub)) := fun x hx =>
    have hg := grown_trans hx (World.grownBy_alloc x (.cells #[.pointer (some ⟨qb, 0, none⟩)] 49) none)
    union_one ub qb N u s x.heap.size _ (SetM_kept hU hg) (SetM_kept hQ hg) hne (by have := SetM_lt (SetM_kept hU hx); omega) (new_cell x _ _) z hz u2 hu2
  have HUS : Hid (B.SetM w (some ⟨ub, 0, none⟩) N u) := hU
  have HBX : Hid (w.heap[bu]? = some (.cells #[.slice (some ⟨kb, 0, none⟩) n cap, .pointer (some ⟨pb, 0, none⟩), .pointer (some ⟨ub, 0, none⟩)] 53 (0, 0))) := hB
  have HG1 : Hid (w.grownBy (w.alloc (.cells #[.int .i64 l, .slice ra rn rc, .int .i64 v, .pointer (some ⟨qb, 0, none⟩)] 78)) none) := World.grownBy_alloc _ _ none
  have HRB : Hid ((w.alloc (.cells #[.int .i64 l, .slice ra rn rc, .int .i64 v, .pointer (some ⟨qb, 0, none⟩)] 78)).heap[w.heap.size]? = some (.cells #[.int .i64 l, .slice ra rn rc, .int .i64 v, .pointer (some ⟨qb, 0, none⟩)] 78 (0, 0))) := heap_alloc_last w _
  have HKB : Hid (∀ x, w.grownBy x none → x.heap[bu]? = some (.cells #[.slice (some ⟨kb, 0, none⟩) n cap, .pointer (some ⟨pb, 0, none⟩), .pointer (some ⟨ub, 0, none⟩)] 53 (0, 0))) := fun x hx => (hx.block _ (Array.getElem?_eq_some_iff.1 hB).1 (by simp)).trans hB
  have u0 : (w.alloc (.cells #[.int .i64 l, .slice ra rn rc, .int .i64 v, .pointer (some ⟨qb, 0, none⟩)] 78)).cell? ⟨bu, 0, none⟩ = some (.slice (some ⟨kb, 0, none⟩) n cap) := by rw [cell_of_row _ _ _ _ _ _ (HKB.out _ HG1.out)]; rfl
  have u1 : (w.alloc (.cells #[.int .i64 l, .slice ra rn rc, .int .i64 v, .pointer (some ⟨qb, 0, none⟩)] 78)).cell? ⟨bu, 1, none⟩ = some (.pointer (some ⟨pb, 0, none⟩)) := by rw [cell_of_row _ _ _ _ _ _ (HKB.out _ HG1.out)]; rfl
  have u9 : (w.alloc (.cells #[.int .i64 l, .slice ra rn rc, .int .i64 v, .pointer (some ⟨qb, 0, none⟩)] 78)).cell? ⟨bu, 2, none⟩ = some (.pointer (some ⟨ub, 0, none⟩)) := by rw [cell_of_row _ _ _ _ _ _ (HKB.out _ HG1.out)]; rfl
  clear hB hP hU hQ hc ht hz hu2 hne
  go_enter Try.func47, Try.ntmps47
  go_wp2_with fail
  refine Calls.mono (HST.out _ HG1.out) ?_
  rintro e w2 ⟨rfl, hg2⟩
  have HG2 : Hid (w.grownBy w2 none) := grown_trans HG1.out hg2
  have x1 : w2.cell? ⟨bu, 2, none⟩ = some (.pointer (some ⟨ub, 0, none⟩)) := by rw [cell_of_row _ _ _ _ _ _ (HKB.out _ HG2.out)]; rfl
  have x2 : w2.cell? ⟨w.heap.size, 3, none⟩ = some (.pointer (some ⟨qb, 0, none⟩)) := by rw [cell_of_row _ _ _ _ _ _ ((hg2.block _ (Array.getElem?_eq_some_iff.1 HRB.out).1 (by simp)).trans HRB.out)]; rfl
  clear hg2 u0 u1 u9
  cases t with
  | false =>
    go_wp2_with fail
    go_ret
    exact ⟨by first | rfl | simp, by first | exact SetM_kept HUS.out HG2.out | (simp; exact SetM_kept HUS.out HG2.out), grown_some _ HG2.out⟩
  | true =>
    go_wp2_with fail
    refine Calls.mono (HUN.out _ HG2.out) ?_
    rintro e w3 ⟨rfl, hS3, hg3⟩
    have HS3 : Hid (B.SetM w3 (some ⟨ub, 0, none⟩) N u2) := hS3
    have HG3 : Hid (w.grownBy w3 (some ub)) := grown_then (grown_trans HG2.out (World.grownBy_alloc _ _ none)) hg3
    clear hS3 hg3
    go_wp2_with fail
    go_ret
    exact ⟨by first | rfl | simp, by first | exact HS3.out | (simp; exact HS3.out), HG3.out⟩

end Go.Proofs.Ytljlkmiaemkokaa

/-
  reach: mayBe, root.
-/
namespace Go.Proofs.Ytljlkmiaemkokaa
open Go.RowKit Go.Maps Go.Shelf

attribute [local go_sem] Oper.semAt_some

set_option maxRecDepth 100000 in
theorem emayBe_any (ta na la pa : Option Addr) (tc nc lc pc : Nat) (ts : List (ByteArray × Int)) (ns : List ByteArray) (lv : List Int) (n : Nat) (L : Nat → Int) (R : Nat → List Int) (ra : Nat → Option Addr) (rc : Nat → Nat) (V : Nat → Int) (st : Int) (w : World) (tn nn ln : Nat) (hlen : ts.length = tn ∧ ns.length = nn ∧ lv.length = ln) (hG : GAt w ta na la pa tc nc lc pc ts ns lv n L R ra rc V) (r : Bool) (hr : r = true ↔ validOK ts ns lv st n L R V ∨ closedOK ts ns lv st n L R V) :
    Calls Try.prog 28 #[.agg #[.slice ta tn tc, .slice na nn nc, .slice la ln lc, .int .i64 st, .slice pa n pc]] w fun e w' => e = .returned (.bool r) ∧ w.grownBy w' none := by
  obtain ⟨rV, hrV⟩ := boolOf (validOK ts ns lv st n L R V)
  obtain ⟨rC, hrC⟩ := boolOf (closedOK ts ns lv st n L R V)
  have HV : Hid (∀ Y, w.grownBy Y none → Calls Try.prog 32 #[.agg #[.slice ta tn tc, .slice na nn nc, .slice la ln lc, .int .i64 st, .slice pa n pc]] Y fun e w' => e = .returned (.bool rV) ∧ Y.grownBy w' none) := fun Y hY => by
    have := valid_any ta na la pa tc nc lc pc ts ns lv n L R ra rc V st Y (hG.kept hY) rV hrV
    rwa [hlen.1, hlen.2.1, hlen.2.2] at this
  have HC : Hid (∀ Y, w.grownBy Y none → Calls Try.prog 39 #[.agg #[.slice ta tn tc, .slice na nn nc, .slice la ln lc, .int .i64 st, .slice pa n pc]] Y fun e w' => e = .returned (.bool rC) ∧ Y.grownBy w' none) := fun Y hY => by
    have := closed_any ta na la pa tc nc lc pc ts ns lv n L R ra rc V st Y (hG.kept hY) rC hrC
    rwa [hlen.1, hlen.2.1, hlen.2.2] at this
  have hre : r = (rV || rC) := by
    rw [Bool.eq_iff_iff, hr, Bool.or_eq_true, hrV, hrC]
  have HX0 : Hid (PhAt w (w.alloc (.cells #[.slice ta tn tc, .slice na nn nc, .slice la ln lc, .int .i64 st, .slice pa n pc] 27)) w.heap.size #[.slice ta tn tc, .slice na nn nc, .slice la ln lc, .int .i64 st, .slice pa n pc]) := ⟨World.grownBy_alloc _ _ none, heap_alloc_last w _⟩
  clear hG hlen hr hrV hrC
  subst hre
  cases rV
  · go_enter Try.func28, Try.ntmps28
    go_wp2_with fail
    refine Calls.mono (HV.out _ HX0.out.grown) ?_
    rintro e w1 ⟨rfl, hg1⟩
    have HX1 : Hid (PhAt w w1 w.heap.size #[.slice ta tn tc, .slice na nn nc, .slice la ln lc, .int .i64 st, .slice pa n pc]) := HX0.out.kept hg1
    obtain ⟨k0, k1, k2, k3, k4⟩ := HX1.out.cells
    clear hg1 HX0
    go_wp2_with fail
    refine Calls.mono (HC.out w1 HX1.out.grown) ?_
    rintro e w2 ⟨rfl, hg2⟩
    have HG2 : Hid (w.grownBy w2 none) := grown_trans HX1.out.grown hg2
    clear hg2 HX1 HC HV
    go_wp2_with fail
    go_ret
    exact ⟨by simp, HG2.out⟩
  · go_enter Try.func28, Try.ntmps28
    go_wp2_with fail
    refine Calls.mono (HV.out _ HX0.out.grown) ?_
    rintro e w1 ⟨rfl, hg1⟩
    have HX1 : Hid (PhAt w w1 w.heap.size #[.slice ta tn tc, .slice na nn nc, .slice la ln lc, .int .i64 st, .slice pa n pc]) := HX0.out.kept hg1
    obtain ⟨k0, k1, k2, k3, k4⟩ := HX1.out.cells
    clear hg1 HX0
    go_wp2_with fail
    go_ret
    exact ⟨by simp, HX1.out.grown⟩

set_option maxRecDepth 100000 in
theorem root_any (ta na la pa : Option Addr) (tc nc lc pc : Nat) (ts : List (ByteArray × Int)) (ns : List ByteArray) (lv : List Int) (n : Nat) (L : Nat → Int) (R : Nat → List Int) (ra : Nat → Option Addr) (rc : Nat → Nat) (V : Nat → Int) (st : Int) (w : World) (tn nn ln : Nat) (hlen : ts.length = tn ∧ ns.length = nn ∧ lv.length = ln) (hG : GAt w ta na la pa tc nc lc pc ts ns lv n L R ra rc V) (r : Bool) (hr : r = true ↔ closedOK ts ns lv st n L R V) :
    Calls Try.prog 46 #[.agg #[.slice ta tn tc, .slice na nn nc, .slice la ln lc, .int .i64 st, .slice pa n pc]] w fun e w' => e = .returned (.int .i64 (if r = true then (tn : Int) else st)) ∧ w.grownBy w' none := by
  have HC : Hid (∀ Y, w.grownBy Y none → Calls Try.prog 39 #[.agg #[.slice ta tn tc, .slice na nn nc, .slice la ln lc, .int .i64 st, .slice pa n pc]] Y fun e w' => e = .returned (.bool r) ∧ Y.grownBy w' none) := fun Y hY => by
    have := closed_any ta na la pa tc nc lc pc ts ns lv n L R ra rc V st Y (hG.kept hY) r hr
    rwa [hlen.1, hlen.2.1, hlen.2.2] at this
  have HX0 : Hid (PhAt w (w.alloc (.cells #[.slice ta tn tc, .slice na nn nc, .slice la ln lc, .int .i64 st, .slice pa n pc] 27)) w.heap.size #[.slice ta tn tc, .slice na nn nc, .slice la ln lc, .int .i64 st, .slice pa n pc]) := ⟨World.grownBy_alloc _ _ none, heap_alloc_last w _⟩
  clear hG hlen hr
  go_enter Try.func46, Try.ntmps46
  go_wp2_with fail
  refine Calls.mono (HC.out _ HX0.out.grown) ?_
  rintro e w1 ⟨rfl, hg1⟩
  have HX1 : Hid (PhAt w w1 w.heap.size #[.slice ta tn tc, .slice na nn nc, .slice la ln lc, .int .i64 st, .slice pa n pc]) := HX0.out.kept hg1
  obtain ⟨k0, k1, k2, k3, k4⟩ := HX1.out.cells
  clear hg1 HX0 HC
  cases r with
  | true =>
    go_wp2_with fail
    go_ret
    exact ⟨by first | rfl | simp, HX1.out.grown⟩
  | false =>
    go_wp2_with fail
    go_ret
    exact ⟨by first | rfl | simp, HX1.out.grown⟩

end Go.Proofs.Ytljlkmiaemkokaa

/-
  reach, pure: what rounds come to, as least sets; sets of bits against marks of nonterminals.
-/
namespace Go.Proofs.Ytljlkmiaemkokaa

section
variable {σ : Type} {step : Nat → σ → σ} {chg : Nat → σ → Bool}
theorem rnd_inv {n : Nat} (P : σ → Prop) (hP : ∀ k s, k < n → P s → P (step k s)) (s : σ) (h : P s) : ∀ j, j ≤ n → P (rnd step j s)
  | 0, _ => h
  | j + 1, hj => hP j _ (by omega) (rnd_inv P hP s h j (by omega))
theorem itr_inv {n : Nat} (P : σ → Prop) (hP : ∀ k s, k < n → P s → P (step k s)) (s : σ) (h : P s) : ∀ t, P (itr step n t s)
  | 0 => h
  | t + 1 => rnd_inv P hP _ (itr_inv P hP s h t) n (Nat.le_refl _)
theorem Fix.inv {n : Nat} {s0 F : σ} (hF : Fix step chg n s0 F) (P : σ → Prop) (hP : ∀ k s, k < n → P s → P (step k s)) (h : P s0) : P F := by
  obtain ⟨t, rfl, _⟩ := hF
  exact itr_inv P hP s0 h t
theorem rchg_each (h : ∀ k s, chg k s = false → step k s = s) (s : σ) : ∀ n, rchg step chg n s = false → ∀ k, k < n → chg k s = false
  | 0, _, k, hk => by omega
  | n + 1, hn, k, hk => by
    simp only [rchg, Bool.or_eq_false_iff] at hn
    by_cases e : k = n
    · subst e
      have := hn.2
      rwa [rnd_same step chg h s k hn.1] at this
    · exact rchg_each h s n hn.1 k (by omega)
theorem Fix.stay {n : Nat} {s0 F : σ} (hF : Fix step chg n s0 F) (h : ∀ k s, chg k s = false → step k s = s) (k : Nat) (hk : k < n) : chg k F = false := by
  obtain ⟨t, rfl, hc⟩ := hF
  exact rchg_each h _ n hc k hk
end

/-- A set of bits: all terminals, and the marked nonterminals. -/
def bitsN (tn nn m : Nat) (f : Nat → Bool) : Prop := ∀ i, m.testBit i = (decide (i < tn) || (decide (i < tn + nn) && f (i - tn)))

/-- The bits of a row. -/
def rowB (N : Nat) (l : List Int) : Nat := (B.addS N 0 l).1
theorem rowB_bit (N : Nat) (l : List Int) (i : Nat) : (rowB N l).testBit i = (decide (i < N) && l.contains (i : Int)) := by
  unfold rowB
  rw [addS_bit]
  simp

theorem cov_fits {tn nn m : Nat} {f : Nat → Bool} (hm : bitsN tn nn m f) (l : List Int) (hl : ∀ x ∈ l, (0 : Int) ≤ x ∧ x < ((tn + nn : Nat) : Int)) :
    fitsB tn f l = true ↔ ∀ i, (rowB (tn + nn) l).testBit i = true → m.testBit i = true := by
  rw [fitsB_iff]
  constructor
  · intro h i hi
    rw [rowB_bit] at hi
    simp at hi
    rw [hm i]
    by_cases ht : i < tn
    · simp [ht]
    · have := h i hi.2 (by omega)
      have e : ((i : Int) - (tn : Int)).toNat = i - tn := by omega
      rw [e] at this
      simp [ht, hi.1, this]
  · intro h x hx hxt
    obtain ⟨h0, h1⟩ := hl x hx
    obtain ⟨y, rfl⟩ := Int.eq_ofNat_of_zero_le h0
    have := h y (by rw [rowB_bit]; simp [hx]; omega)
    rw [hm y] at this
    have e : ((y : Int) - (tn : Int)).toNat = y - tn := by omega
    rw [e]
    have ht : ¬ y < tn := by omega
    simp [ht] at this
    exact this.2

theorem addS_one2 (N m : Nat) (x : Int) : (B.addS N m [x]).2 = if (B.inB N x && !B.hasB m x) = true then 1 else 0 := by
  unfold B.addS
  simp only [List.foldl_cons, List.foldl_nil]
  unfold B.addStep
  by_cases h : (B.inB N x && !B.hasB m x) = true
  · rw [if_pos h, if_pos h]
  · rw [if_neg h, if_neg h]

/-- A nonterminal more. -/
theorem add_bits {tn nn m : Nat} {f : Nat → Bool} (hm : bitsN tn nn m f) (v : Nat) (hv : v < nn) : bitsN tn nn (B.addS (tn + nn) m [((tn + v : Nat) : Int)]).1 (mark f v true) ∧ (B.addS (tn + nn) m [((tn + v : Nat) : Int)]).2 = (!f v).toNat := by
  constructor
  · intro i
    rw [addS_bit, hm i]
    by_cases e : i = tn + v
    · subst e
      simp [mark, hv]
    · have e2 : ¬ (i : Int) = ((tn + v : Nat) : Int) := by omega
      by_cases ht : i < tn
      · simp [ht]
      · have e3 : ¬ i - tn = v := by omega
        simp [mark, e3, ht]
        intro _ h4; omega
  · rw [addS_one2]
    have h1 : B.inB (tn + nn) ((tn + v : Nat) : Int) = true := by simp [B.inB]; omega
    have h2 : B.hasB m ((tn + v : Nat) : Int) = f v := by
      unfold B.hasB
      have e : (((tn + v : Nat) : Int)).toNat = tn + v := by omega
      have a1 : decide ((0 : Int) ≤ ((tn + v : Nat) : Int)) = true := decide_eq_true (by omega)
      have a2 : decide (tn + v < tn) = false := decide_eq_false (by omega)
      have a3 : decide (tn + v < tn + nn) = true := decide_eq_true (by omega)
      have a4 : tn + v - tn = v := by omega
      rw [e, hm (tn + v), a1, a2, a3, a4]
      simp
    rw [h1, h2]
    cases f v <;> rfl

end Go.Proofs.Ytljlkmiaemkokaa

/-
  reach, pure: a grammar that may be; what is useful, by the program's rounds and by the document's.
-/
namespace Go.Proofs.Ytljlkmiaemkokaa

/-- What the marks lean on of a grammar that may be. -/
structure MayOK (tn nn n : Nat) (st : Int) (L : Nat → Int) (R : Nat → List Int) (cl : Bool) : Prop where
  t0 : 0 < tn
  tmax : tn ≤ 65
  n0 : 0 < nn
  nmax : nn ≤ 65
  pmax : n ≤ 97
  p0 : 0 < n
  left : ∀ k, k < n → (tn : Int) ≤ L k ∧ L k < ((tn + nn : Nat) : Int)
  right : ∀ k, k < n → ∀ x ∈ R k, (0 : Int) < x ∧ x < ((tn + nn : Nat) : Int)
  start : (tn : Int) ≤ st ∧ st < ((tn + nn : Nat) : Int)
  added : cl = true → L 0 = tn ∧ R 0 = [st]

theorem mayOK_valid {ts : List (ByteArray × Int)} {ns : List ByteArray} {lv : List Int} {st : Int} {n : Nat} {L : Nat → Int} {R : Nat → List Int} {V : Nat → Int} (h : validOK ts ns lv st n L R V) : MayOK ts.length ns.length n st L R false := by
  have hf := (fits_holds ts ns lv st n L R V).2 h.1
  have hs := hf.start
  unfold isNonI at hs
  refine ⟨hf.terms.1.1, hf.tn, by omega, by have := hf.nn; omega, by have := hf.pn; omega, by have := hf.p1; omega, fun k hk => ?_, fun k hk x hx => ?_, by omega, by simp⟩
  · have := (hf.prods k (Nat.zero_le _) hk).1
    unfold isNonI at this
    omega
  · have := (hf.prods k (Nat.zero_le _) hk).2.2 x hx
    unfold isSymI isNonI at this
    have := hf.terms.1.1
    omega

theorem mayOK_closed {ts : List (ByteArray × Int)} {ns : List ByteArray} {lv : List Int} {st : Int} {n : Nat} {L : Nat → Int} {R : Nat → List Int} {V : Nat → Int} (h : closedOK ts ns lv st n L R V) : MayOK ts.length ns.length n st L R true := by
  obtain ⟨ha, hf⟩ := h
  have hs := hf.start
  unfold isNonI at hs
  refine ⟨hf.terms.1.1, hf.tn, ha.nn, by have := hf.nn; omega, by have := hf.pn; omega, ha.pn, fun k hk => ?_, fun k hk x hx => ?_, by omega, fun _ => ⟨ha.left, ha.right⟩⟩
  · by_cases h0 : k = 0
    · subst h0
      have := ha.left
      have := ha.nn
      omega
    · have := (hf.prods k (by omega) hk).1
      unfold isNonI at this
      omega
  · by_cases h0 : k = 0
    · subst h0
      rw [ha.right] at hx
      simp at hx
      have := hf.terms.1.1
      omega
    · have := (hf.prods k (by omega) hk).2.2 x hx
      unfold isSymI isNonI at this
      have := hf.terms.1.1
      omega

theorem name_ne {s : ByteArray} (h : isNameB s = true) : s ≠ ⟨#[]⟩ := by
  rintro rfl
  exact absurd h (by decide)

/-- A grammar isn't both; the first name says which. -/
theorem valid_name {ts : List (ByteArray × Int)} {ns : List ByteArray} {lv : List Int} {st : Int} {n : Nat} {L : Nat → Int} {R : Nat → List Int} {V : Nat → Int} (h : validOK ts ns lv st n L R V) : ns.getD 0 ⟨#[]⟩ ≠ ⟨#[]⟩ := by
  have hf := (fits_holds ts ns lv st n L R V).2 h.1
  have hm := mayOK_valid h
  exact name_ne (hf.nons 0 (Nat.le_refl _) hm.n0).1

section
variable (tn nn : Nat) (L : Nat → Int) (R : Nat → List Int) (may : Nat → Bool)

/-- The document's step: what stands in a useful one's row is useful. -/
def goD (k : Nat) (f : Nat → Bool) : Bool := f (L k - tn).toNat && fitsB tn may (R k)
def stD (k : Nat) (f : Nat → Bool) : Nat → Bool := if goD tn L R may k f = true then (fun i => f i || (R k).contains ((tn + i : Nat) : Int)) else f
def chD (k : Nat) (f : Nat → Bool) : Bool := goD tn L R may k f && (R k).any fun x => decide ((tn : Int) ≤ x) && !f (x - tn).toNat

/-- The program's step, over the bits of symbols. -/
def goU (k : Nat) (u : Nat) : Bool := B.hasB u (L k) && fitsB tn may (R k)
def stU (k : Nat) (u : Nat) : Nat := if goU tn L R may k u = true then u ||| (rowB (tn + nn) (R k) &&& (2 ^ (tn + nn) - 1)) else u
def adU (k : Nat) (u : Nat) : Nat := if goU tn L R may k u = true then B.cnt (u ||| (rowB (tn + nn) (R k) &&& (2 ^ (tn + nn) - 1))) - B.cnt u else 0
end

section
variable {tn nn : Nat} {L : Nat → Int} {R : Nat → List Int} {may : Nat → Bool}
theorem rowB_and (N : Nat) (l : List Int) : rowB N l &&& (2 ^ N - 1) = rowB N l := by
  apply Nat.eq_of_testBit_eq
  intro i
  rw [Nat.testBit_and, Nat.testBit_two_pow_sub_one, rowB_bit]
  cases decide (i < N) <;> simp

theorem stD_same (k : Nat) (f : Nat → Bool) (h : chD tn L R may k f = false) : stD tn L R may k f = f := by
  unfold stD
  by_cases hg : goD tn L R may k f = true
  · rw [if_pos hg]
    unfold chD at h
    rw [hg, Bool.true_and, List.any_eq_false] at h
    funext i
    by_cases hc : (R k).contains ((tn + i : Nat) : Int) = true
    · have hm : ((tn + i : Nat) : Int) ∈ R k := by simpa using hc
      have h1 := h _ hm
      have e : (((tn + i : Nat) : Int) - (tn : Int)).toNat = i := by omega
      rw [e] at h1
      simp at h1
      have := h1 (by omega)
      rw [this]; simp
    · rw [Bool.not_eq_true] at hc
      rw [hc, Bool.or_false]
  · rw [if_neg hg]

theorem cnt_or_le (a b : Nat) : B.cnt a ≤ B.cnt (a ||| b) := (pc_or 1024 a b).1
theorem adU_same {N : Nat} (hN : tn + nn = N) (h1 : N ≤ 1024) (k : Nat) (u : Nat) (h : adU tn nn L R may k u = 0) : stU tn nn L R may k u = u := by
  unfold adU at h
  unfold stU
  by_cases hg : goU tn L R may k u = true
  · rw [if_pos hg] at h ⊢
    rw [rowB_and] at h ⊢
    have hle := cnt_or_le u (rowB (tn + nn) (R k))
    have he := (pc_or 1024 u (rowB (tn + nn) (R k))).2.1 (show B.pc 1024 _ = B.pc 1024 u by unfold B.cnt at h hle; omega)
    apply Nat.eq_of_testBit_eq
    intro i
    rw [Nat.testBit_or]
    by_cases hi : (rowB (tn + nn) (R k)).testBit i = true
    · have hlt : i < 1024 := by
        rw [rowB_bit] at hi
        simp at hi
        omega
      rw [he i hlt hi, hi]; rfl
    · rw [Bool.not_eq_true] at hi
      rw [hi, Bool.or_false]
  · rw [if_neg hg]
theorem stU_mu (k : Nat) (u : Nat) : (1024 - B.cnt (stU tn nn L R may k u)) + adU tn nn L R may k u ≤ 1024 - B.cnt u := by
  unfold adU stU
  by_cases hg : goU tn L R may k u = true
  · rw [if_pos hg, if_pos hg]
    have h1 := cnt_or_le u (rowB (tn + nn) (R k) &&& (2 ^ (tn + nn) - 1))
    have h2 := cnt_le (u ||| (rowB (tn + nn) (R k) &&& (2 ^ (tn + nn) - 1)))
    omega
  · rw [if_neg hg, if_neg hg]; omega
theorem stU_bit (k u i : Nat) : (stU tn nn L R may k u).testBit i = (u.testBit i || (goU tn L R may k u && (decide (i < tn + nn) && (R k).contains (i : Int)))) := by
  unfold stU
  by_cases hg : goU tn L R may k u = true
  · rw [if_pos hg, hg, rowB_and, Nat.testBit_or, rowB_bit, Bool.true_and]
  · rw [if_neg hg]
    rw [Bool.not_eq_true] at hg
    rw [hg, Bool.false_and, Bool.or_false]

/-- Where the rounds begin. -/
def startU (root : Nat) (p : Bool) : Nat := if p = true then 2 ^ root else 0
def startD (s : Nat) (cl p : Bool) : Nat → Bool := fun i => p && (decide (i = s) || (cl && decide (i = 0)))

theorem used_same {n : Nat} {st : Int} {cl : Bool} (hM : MayOK tn nn n st L R cl) {F : Nat → Bool} {U root : Nat} {p : Bool} (hp : p = may (st - tn).toNat) (hroot : (root : Int) = if cl = true then (tn : Int) else st)
    (hF : Fix (stD tn L R may) (chD tn L R may) n (startD (st - tn).toNat cl p) F) (hU : Fix (stU tn nn L R may) (fun k u => decide (0 < adU tn nn L R may k u)) n (startU root p) U) :
    ∀ i, i < nn → U.testBit (tn + i) = F i := by
  have h1024 : tn + nn ≤ 1024 := by have := hM.tmax; have := hM.nmax; omega
  have hFs := fun k hk => hF.stay (fun k s => stD_same k s) k hk
  have hUs := fun k hk => hU.stay (fun k s h => adU_same rfl h1024 k s (by have := of_decide_eq_false h; omega)) k hk
  have hF0 : ∀ i, startD (st - tn).toNat cl p i = true → F i = true := by
    refine hF.inv (fun f => ∀ i, startD (st - tn).toNat cl p i = true → f i = true) (fun k f _ hf i hi => ?_) (fun i hi => hi)
    unfold stD
    split
    · show (f i || _) = true
      rw [hf i hi]; rfl
    · exact hf i hi
  have hU0 : ∀ i, (startU root p).testBit i = true → U.testBit i = true := by
    refine hU.inv (fun u => ∀ i, (startU root p).testBit i = true → u.testBit i = true) (fun k u _ hu i hi => ?_) (fun i hi => hi)
    rw [stU_bit, hu i hi]; rfl
  have hUr : p = true → U.testBit root = true := fun h => hU0 root (by unfold startU; rw [if_pos h, Nat.testBit_two_pow]; simp)
  have hUst : ∀ k, k < n → goU tn L R may k U = true → ∀ x ∈ R k, U.testBit x.toNat = true := by
    intro k hk hg x hx
    have h0 : adU tn nn L R may k U = 0 := by have := of_decide_eq_false (hUs k hk); omega
    have he := adU_same rfl h1024 k U h0
    obtain ⟨h1, h2⟩ := hM.right k hk x hx
    have hb := stU_bit (tn := tn) (nn := nn) (L := L) (R := R) (may := may) k U x.toNat
    rw [he, hg, Bool.true_and] at hb
    have e : ((x.toNat : Nat) : Int) = x := by omega
    rw [e] at hb
    have hlt : x.toNat < tn + nn := by omega
    rw [hb]
    simp [hlt, hx]
  have hA : ∀ i, U.testBit i = true → i < tn ∨ F (i - tn) = true := by
    refine hU.inv (fun u => ∀ i, u.testBit i = true → i < tn ∨ F (i - tn) = true) (fun k u hk hu i hi => ?_) (fun i hi => ?_)
    · rw [stU_bit, Bool.or_eq_true] at hi
      rcases hi with hi | hi
      · exact hu i hi
      · rw [Bool.and_eq_true, Bool.and_eq_true] at hi
        obtain ⟨hg, _, hc⟩ := hi
        unfold goU at hg
        rw [Bool.and_eq_true] at hg
        obtain ⟨hl1, hl2⟩ := hM.left k hk
        have hlb : u.testBit (L k).toNat = true := by
          have := hg.1
          unfold B.hasB at this
          rw [Bool.and_eq_true] at this
          exact this.2
        have hl : F (L k - tn).toNat = true := by
          rcases hu _ hlb with h | h
          · omega
          · have e : (L k).toNat - tn = (L k - tn).toNat := by omega
            rwa [e] at h
        by_cases ht : i < tn
        · exact .inl ht
        · right
          have hs := hFs k hk
          unfold chD goD at hs
          rw [hl, hg.2, Bool.true_and, Bool.true_and, List.any_eq_false] at hs
          have hx : (i : Int) ∈ R k := by simpa using hc
          have h3 := hs _ hx
          have e : ((i : Int) - (tn : Int)).toNat = i - tn := by omega
          rw [e] at h3
          simp at h3
          exact h3 (by omega)
    · unfold startU at hi
      split at hi
      · rename_i hpt
        rw [Nat.testBit_two_pow] at hi
        have e : root = i := by simpa using hi
        subst e
        right
        refine hF0 _ ?_
        unfold startD
        rw [hpt, Bool.true_and]
        by_cases hc : cl = true
        · rw [if_pos hc] at hroot
          have : root - tn = 0 := by omega
          simp [hc, this]
        · rw [if_neg hc] at hroot
          have : root - tn = (st - tn).toNat := by omega
          simp [this]
      · simp at hi
  have hB : ∀ i, F i = true → i < nn → U.testBit (tn + i) = true := by
    refine hF.inv (fun f => ∀ i, f i = true → i < nn → U.testBit (tn + i) = true) (fun k f hk hf i hi hin => ?_) (fun i hi hin => ?_)
    · unfold stD at hi
      split at hi
      · rename_i hg
        rw [Bool.or_eq_true] at hi
        rcases hi with hi | hi
        · exact hf i hi hin
        · unfold goD at hg
          rw [Bool.and_eq_true] at hg
          obtain ⟨hl1, hl2⟩ := hM.left k hk
          have hl := hf _ hg.1 (by omega)
          have hgu : goU tn L R may k U = true := by
            unfold goU B.hasB
            have e : tn + (L k - tn).toNat = (L k).toNat := by omega
            rw [e] at hl
            rw [hl, hg.2]
            simp; omega
          have hx : ((tn + i : Nat) : Int) ∈ R k := by simpa using hi
          have := hUst k hk hgu _ hx
          have e9 : (((tn + i : Nat) : Int)).toNat = tn + i := by omega
          rwa [e9] at this
      · exact hf i hi hin
    · unfold startD at hi
      rw [Bool.and_eq_true] at hi
      obtain ⟨hpt, hi⟩ := hi
      have hr := hUr hpt
      obtain ⟨hs1, hs2⟩ := hM.start
      by_cases hc : cl = true
      · rw [if_pos hc] at hroot
        have e : root = tn := by omega
        subst e
        obtain ⟨ha1, ha2⟩ := hM.added hc
        have hgu : goU root L R may 0 U = true := by
          unfold goU B.hasB
          rw [ha1]
          have e : ((root : Nat) : Int).toNat = root := by omega
          rw [e, hr, ha2]
          have : fitsB root may [st] = true := by
            rw [fitsB_iff]
            intro x hx _
            have : x = st := by simpa using hx
            rw [this, ← hp]; exact hpt
          rw [this]; simp
        have hst := hUst 0 hM.p0 hgu st (by rw [ha2]; simp)
        simp [hc] at hi
        rcases hi with hi | hi
        · have e2 : root + i = st.toNat := by omega
          rw [e2]; exact hst
        · rw [hi]; exact hr
      · rw [if_neg hc] at hroot
        simp [hc] at hi
        have e2 : tn + i = root := by omega
        rw [e2]; exact hr
  intro i hi
  rw [Bool.eq_iff_iff]
  constructor
  · intro h
    rcases hA _ h with h1 | h1
    · omega
    · have e : tn + i - tn = i := by omega
      rwa [e] at h1
  · exact fun h => hB i h hi
end

end Go.Proofs.Ytljlkmiaemkokaa

/-
  reach, pure: the document's rounds of Used.
-/
namespace Go.Proofs.Ytljlkmiaemkokaa
open Go.RowKit Go.Maps Go.Shelf

theorem un_mono {f g : Nat → Bool} : ∀ n, (∀ i, i < n → f i = true → g i = true) → un n g ≤ un n f
  | 0, _ => Nat.le_refl _
  | n + 1, h => by
    have ih := un_mono n fun i hi => h i (by omega)
    have := h n (by omega)
    simp only [un]
    cases hf : f n with
    | true => rw [this hf]; simpa using ih
    | false => cases g n <;> simp <;> omega
theorem un_lt {f g : Nat → Bool} {x : Nat} : ∀ n, (∀ i, i < n → f i = true → g i = true) → x < n → f x = false → g x = true → un n g + 1 ≤ un n f
  | 0, _, hx, _, _ => by omega
  | n + 1, h, hx, h1, h2 => by
    by_cases e : x = n
    · subst e
      have ih := un_mono x fun i hi => h i (by omega)
      simp only [un, h1, h2]
      simp; omega
    · have ih := un_lt n (fun i hi => h i (by omega)) (by omega) h1 h2
      have h3 := h n (by omega)
      simp only [un]
      cases hf : f n with
      | true => rw [h3 hf]; simpa using ih
      | false => cases g n <;> simp <;> omega

section
variable (tn : Nat)
/-- While a row's nonterminals are marked: after j symbols. -/
def inJ (f : Nat → Bool) (l : List Int) (j : Nat) : Nat → Bool := fun i => f i || (l.take j).contains ((tn + i : Nat) : Int)
def chJ (f : Nat → Bool) (l : List Int) (j : Nat) : Bool := (l.take j).any fun x => decide ((tn : Int) ≤ x) && !f (x - tn).toNat
end
section
variable {tn : Nat} {f : Nat → Bool} {l : List Int} {j : Nat}
theorem inJ_zero : inJ tn f l 0 = f := by funext i; simp [inJ]
theorem chJ_zero : chJ tn f l 0 = false := rfl
theorem take_succ' (hj : j < l.length) : l.take (j + 1) = l.take j ++ [l.getD j 0] := by
  rw [List.take_add_one, List.getElem?_eq_getElem hj]
  simp [List.getD, hj]
theorem inJ_term (hj : j < l.length) (h : l.getD j 0 < (tn : Int)) : inJ tn f l (j + 1) = inJ tn f l j ∧ chJ tn f l (j + 1) = chJ tn f l j := by
  constructor
  · funext i
    unfold inJ
    rw [take_succ' hj]
    have e : ¬ ((tn + i : Nat) : Int) = l.getD j 0 := by omega
    have e2 : (((tn + i : Nat) : Int) == l.getD j 0) = false := by simpa using e
    rw [List.contains_eq_any_beq, List.contains_eq_any_beq, List.any_append]
    simp only [List.any_cons, List.any_nil, e2, Bool.or_false]
  · unfold chJ
    rw [take_succ' hj, List.any_append]
    have e : decide ((tn : Int) ≤ l.getD j 0) = false := decide_eq_false (by omega)
    simp only [List.any_cons, List.any_nil, e, Bool.false_and, Bool.or_false]
theorem inJ_had (hj : j < l.length) {v : Nat} (hv : l.getD j 0 = ((tn + v : Nat) : Int)) (h : inJ tn f l j v = true) : inJ tn f l (j + 1) = inJ tn f l j ∧ chJ tn f l (j + 1) = chJ tn f l j := by
  constructor
  · funext i
    by_cases e : i = v
    · subst e
      rw [h]
      unfold inJ at h ⊢
      rw [take_succ' hj]
      rw [List.contains_eq_any_beq, List.any_append, ← List.contains_eq_any_beq]
      rcases (Bool.or_eq_true _ _).mp h with h | h
      · rw [h]; rfl
      · rw [h]; simp
    · unfold inJ
      rw [take_succ' hj, hv]
      have e2 : (((tn + i : Nat) : Int) == ((tn + v : Nat) : Int)) = false := by simp; omega
      rw [List.contains_eq_any_beq, List.contains_eq_any_beq, List.any_append]
      simp only [List.any_cons, List.any_nil, e2, Bool.or_false]
  · unfold chJ
    rw [take_succ' hj, List.any_append, hv]
    have e1 : (((tn + v : Nat) : Int) - (tn : Int)).toNat = v := by omega
    simp only [List.any_cons, List.any_nil, Bool.or_false, e1]
    cases hf : f v with
    | true => simp
    | false =>
      have hc : (l.take j).contains ((tn + v : Nat) : Int) = true := by
        unfold inJ at h; rw [hf, Bool.false_or] at h; exact h
      have hm : ((tn + v : Nat) : Int) ∈ l.take j := by simpa using hc
      have : ((l.take j).any fun x => decide ((tn : Int) ≤ x) && !f (x - tn).toNat) = true := List.any_eq_true.2 ⟨_, hm, by rw [e1, hf]; simp; omega⟩
      rw [this]; rfl
theorem inJ_new (hj : j < l.length) {v : Nat} (hv : l.getD j 0 = ((tn + v : Nat) : Int)) (h : inJ tn f l j v = false) : inJ tn f l (j + 1) = mark (inJ tn f l j) v true ∧ chJ tn f l (j + 1) = true := by
  constructor
  · funext i
    unfold mark
    by_cases e : i = v
    · subst e
      rw [if_pos rfl]
      unfold inJ
      rw [take_succ' hj, hv, List.contains_eq_any_beq, List.any_append]
      simp
    · rw [if_neg e]
      unfold inJ
      rw [take_succ' hj, hv]
      have e2 : (((tn + i : Nat) : Int) == ((tn + v : Nat) : Int)) = false := by simp; omega
      rw [List.contains_eq_any_beq, List.contains_eq_any_beq, List.any_append]
      simp only [List.any_cons, List.any_nil, e2, Bool.or_false]
  · unfold chJ
    rw [take_succ' hj, List.any_append, hv]
    have e1 : (((tn + v : Nat) : Int) - (tn : Int)).toNat = v := by omega
    have hf : f v = false := by
      unfold inJ at h
      exact (Bool.or_eq_false_iff.1 h).1
    have e3 : decide ((tn : Int) ≤ ((tn + v : Nat) : Int)) = true := decide_eq_true (by omega)
    simp only [List.any_cons, List.any_nil, e1, hf, e3, Bool.not_false, Bool.and_true, Bool.or_false, Bool.or_true]
theorem inJ_all : inJ tn f l l.length = fun i => f i || l.contains ((tn + i : Nat) : Int) := by funext i; simp [inJ]
theorem chJ_all : chJ tn f l l.length = l.any fun x => decide ((tn : Int) ≤ x) && !f (x - tn).toNat := by simp [chJ]
end

theorem un_stD (tn nn : Nat) (L : Nat → Int) (R : Nat → List Int) (may : Nat → Bool) (f : Nat → Bool) (k : Nat) (hR : ∀ x ∈ R k, (0 : Int) < x ∧ x < ((tn + nn : Nat) : Int)) : un nn (stD tn L R may k f) + (chD tn L R may k f).toNat ≤ un nn f := by
  cases hc : chD tn L R may k f with
  | false => rw [stD_same k f hc]; simp
  | true =>
    unfold chD at hc
    rw [Bool.and_eq_true, List.any_eq_true] at hc
    obtain ⟨hg, x, hx, hx2⟩ := hc
    rw [Bool.and_eq_true, decide_eq_true_eq, Bool.not_eq_true'] at hx2
    have hb := hR x hx
    have e : stD tn L R may k f = fun i => f i || (R k).contains ((tn + i : Nat) : Int) := by unfold stD; rw [if_pos hg]
    rw [e]
    refine un_lt (x := (x - tn).toNat) nn (fun i _ hi => by rw [hi]; rfl) (by omega) hx2.2 ?_
    have e2 : ((tn + (x - tn).toNat : Nat) : Int) = x := by omega
    rw [e2]
    simp [hx]
theorem un_rndD (tn nn : Nat) (L : Nat → Int) (R : Nat → List Int) (may : Nat → Bool) (f : Nat → Bool) : ∀ n, (∀ k, k < n → ∀ x ∈ R k, (0 : Int) < x ∧ x < ((tn + nn : Nat) : Int)) → un nn (rnd (stD tn L R may) n f) + (rchg (stD tn L R may) (chD tn L R may) n f).toNat ≤ un nn f
  | 0, _ => by simp [rnd, rchg]
  | n + 1, h => by
    have ih := un_rndD tn nn L R may f n fun k hk => h k (by omega)
    have h2 := un_stD tn nn L R may (rnd (stD tn L R may) n f) n (h n (by omega))
    simp only [rnd, rchg]
    cases hc : chD tn L R may n (rnd (stD tn L R may) n f) with
    | false => rw [Bool.or_false]; rw [hc] at h2; simp at h2; omega
    | true => rw [Bool.or_true]; rw [hc] at h2; simp at h2 ⊢; omega

end Go.Proofs.Ytljlkmiaemkokaa
