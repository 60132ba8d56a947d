/-
  The document's Closed, of any grammar.
-/
import Derived.Test.YtkbpnafahimeiaaClosedM
namespace Go.Proofs.Ytkbpnafahimeiaa
open Go.RowKit Go.Maps Go.Shelf

attribute [local go_sem] Oper.semAt_some

set_option maxRecDepth 100000 in
set_option maxHeartbeats 1000000 in
theorem rclosed_look (bn on bp op : Nat) (ta la ra : Option Addr) (tn nn ln pn tc nc lc pc rc : Nat) (st L0 V0 : Int) (R0 : List Int) (w : World) (hn : w.cell? ⟨bn, on, none⟩ = some (.string ⟨#[]⟩)) (h0 : 2 ≤ nn) (hp : 2 ≤ pn)
    (p0 : w.cell? ⟨bp, op, none⟩ = some (.int .i64 L0)) (p1 : w.cell? ⟨bp, op + 1, none⟩ = some (.slice ra R0.length rc)) (p2 : w.cell? ⟨bp, op + 2, none⟩ = some (.int .i64 V0)) (hR : IntsAt w ra R0) (hRl : R0.length ≤ 17592186044416) (rF : Bool)
    (hF : ∀ W, w.grownBy W none → Calls Try.prog 42 #[.agg #[.slice ta tn tc, .slice (some ⟨bn, on, none⟩) nn nc, .slice la ln lc, .int .i64 st, .slice (some ⟨bp, op, none⟩) pn pc], .int .i64 1] W fun e w' => e = .returned (.bool rF) ∧ W.grownBy w' none) (r : Bool) (hr : r = true ↔ (L0 = tn ∧ R0 = [st] ∧ V0 = 0) ∧ rF = true) :
    Calls Try.prog 18 #[.agg #[.slice ta tn tc, .slice (some ⟨bn, on, none⟩) nn nc, .slice la ln lc, .int .i64 st, .slice (some ⟨bp, op, none⟩) pn pc]] w fun e w' => e = .returned (.bool r) ∧ w.grownBy w' none := by
  have HF := show Hid _ from hF
  have HRR := show Hid _ from hr
  have hd : decide ((nn : Int) < 2) = false := decide_eq_false (by omega)
  have hd' : decide (nn < 2) = false := decide_eq_false (by omega)
  have hd2 : decide ((pn : Int) < 2) = false := decide_eq_false (by omega)
  have hd2' : decide (pn < 2) = false := decide_eq_false (by omega)
  have HR1 : Hid (R0.length = 1 → ∃ br ofr, ra = some ⟨br, ofr, none⟩ ∧ ∀ W, w.grownBy W none → W.cell? ⟨br, ofr, none⟩ = some (.int .i64 (R0.getD 0 0))) := fun hl => by
    rcases hR with h | ⟨b, off, e, hc⟩
    · rw [h] at hl; simp at hl
    · exact ⟨b, off, e, fun W hW => hW.cell (hc 0 (by omega)) (by simp)⟩
  have HRS : Hid (R0 = [st] ↔ R0.length = 1 ∧ R0.getD 0 0 = st) := by
    show _ ↔ _
    match R0 with
    | [] => simp
    | [x] => simp
    | x :: y :: l => simp
  have n0 : ∀ o, (w.alloc o).cell? ⟨bn, on, none⟩ = some (.string ⟨#[]⟩) := fun o => (World.grownBy_alloc w o none).cell hn (by simp)
  have q0 : ∀ o, (w.alloc o).cell? ⟨bp, op, none⟩ = some (.int .i64 L0) := fun o => (World.grownBy_alloc w o none).cell p0 (by simp)
  have q1 : ∀ o, (w.alloc o).cell? ⟨bp, op + 1, none⟩ = some (.slice ra R0.length rc) := fun o => (World.grownBy_alloc w o none).cell p1 (by simp)
  have q2 : ∀ o, (w.alloc o).cell? ⟨bp, op + 2, none⟩ = some (.int .i64 V0) := fun o => (World.grownBy_alloc w o none).cell p2 (by simp)
  obtain ⟨rn, hrn⟩ : ∃ rn, rn = R0.length := ⟨_, rfl⟩
  have HRN : Hid (R0.length = rn) := hrn.symm
  rw [← hrn] at q1 hRl HR1 HRS
  obtain ⟨z, hz⟩ : ∃ z, z = R0.getD 0 0 := ⟨_, rfl⟩
  rw [← hz] at HR1 HRS
  have HNO : Hid (¬ ((L0 = tn ∧ R0 = [st] ∧ V0 = 0) ∧ rF = true) → r = false) := fun h => Bool.eq_false_iff.2 fun hh => h (hr.1 hh)
  clear hn p0 p1 p2 hR hr hF hrn hz
  by_cases hL : L0 = tn
  · by_cases hl : rn = 1
    · obtain ⟨br, ofr, rfl, hc0⟩ := HR1.out hl
      have hc1 : ∀ o, (w.alloc o).cell? ⟨br, ofr, none⟩ = some (.int .i64 z) := fun o => hc0 _ (World.grownBy_alloc w o none)
      have hc2 : ∀ o o2, ((w.alloc o).alloc o2).cell? ⟨br, ofr, none⟩ = some (.int .i64 z) := fun o o2 => hc0 _ (grown_trans (World.grownBy_alloc w o none) (World.grownBy_alloc _ o2 none))
      have e1 : (L0 != (tn : Int)) = false := by rw [hL]; simp
      have e2 : ((rn : Int) != 1) = false := by rw [hl]; rfl
      have e2' : (rn != 1) = false := by rw [hl]; rfl
      have hrp : 0 < rn := by omega
      by_cases hz : z = st
      · have e3 : (z != st) = false := by rw [hz]; simp
        by_cases hV : V0 = 0
        · have e4 : (V0 != 0) = false := by rw [hV]; rfl
          have HE : Hid (rF = r) := by
            show rF = r
            rw [Bool.eq_iff_iff, HRR.out]
            exact ⟨fun h => ⟨⟨hL, HRS.out.2 ⟨hl, hz⟩, hV⟩, h⟩, fun h => h.2⟩
          have HB : Hid (∀ o2 q, PhAt w ((((w.alloc (.cells #[.slice ta tn tc, .slice (some ⟨bn, on, none⟩) nn nc, .slice la ln lc, .int .i64 st, .slice (some ⟨bp, op, none⟩) pn pc] 42)).alloc o2)).drewN q) w.heap.size #[.slice ta tn tc, .slice (some ⟨bn, on, none⟩) nn nc, .slice la ln lc, .int .i64 st, .slice (some ⟨bp, op, none⟩) pn pc]) := fun o2 q => ((PhAt.mk (World.grownBy_alloc _ _ none) (heap_alloc_last w _)).kept (World.grownBy_alloc _ o2 none)).kept (grown_drewN _ q)
          clear hL hl hz hV HRR HRS HNO HR1
          go_enter Try.func18, Try.ntmps18
          go_wp2_with fail
          go_quiet (fail)
          have HX := HB.out (.cells #[.int .i64 L0, .slice (some ⟨br, ofr, none⟩) rn rc, .int .i64 V0] 52) nq
          generalize (((w.alloc (.cells #[.slice ta tn tc, .slice (some ⟨bn, on, none⟩) nn nc, .slice la ln lc, .int .i64 st, .slice (some ⟨bp, op, none⟩) pn pc] 42)).alloc (.cells #[.int .i64 L0, .slice (some ⟨br, ofr, none⟩) rn rc, .int .i64 V0] 52))).drewN nq = W at *
          obtain ⟨m0, m1, m2, m3, m4⟩ := HX.cells
          have HXH := show Hid _ from HX.grown
          clear HX HB
          go_wp2_with fail
          refine Calls.mono (HF.out W HXH.out) ?_
          rintro e w3 ⟨rfl, hg3⟩
          have HG3 := show Hid _ from grown_trans HXH.out hg3
          clear hg3 m0 m1 m2 m3 m4
          go_wp2_with fail
          go_ret
          exact ⟨by rw [HE.out]; rfl, HG3.out⟩
        · have e4 : (V0 != 0) = true := by simp [hV]
          have hf : r = false := HNO.out fun h => hV h.1.2.2
          clear hL hl hz hV HRR HRS HNO HR1
          go_enter Try.func18, Try.ntmps18
          go_wp2_with fail
          go_quiet (fail)
          go_wp2_with fail
          go_ret
          exact ⟨by first | rfl | (rw [hf]; rfl), grown_trans (grown_trans (World.grownBy_alloc _ _ none) (World.grownBy_alloc _ _ none)) (grown_drewN _ _)⟩
      · have e3 : (z != st) = true := by simp [hz]
        have hf : r = false := HNO.out fun h => hz (HRS.out.1 h.1.2.1).2
        clear hL hl hz HRR HRS HNO HR1
        go_enter Try.func18, Try.ntmps18
        go_wp2_with fail
        go_quiet (fail)
        go_wp2_with fail
        go_ret
        exact ⟨by first | rfl | (rw [hf]; rfl), grown_trans (grown_trans (World.grownBy_alloc _ _ none) (World.grownBy_alloc _ _ none)) (grown_drewN _ _)⟩
    · have e1 : (L0 != (tn : Int)) = false := by rw [hL]; simp
      have e2 : ((rn : Int) != 1) = true := by simp; omega
      have e2' : (rn != 1) = true := by simp [hl]
      have hf : r = false := HNO.out fun h => hl (HRS.out.1 h.1.2.1).1
      clear hL hl HRR HRS HNO HR1
      go_enter Try.func18, Try.ntmps18
      go_wp2_with fail
      go_quiet (fail)
      go_wp2_with fail
      go_ret
      exact ⟨by first | rfl | (rw [hf]; rfl), grown_trans (grown_trans (World.grownBy_alloc _ _ none) (World.grownBy_alloc _ _ none)) (grown_drewN _ _)⟩
  · have e1 : (L0 != (tn : Int)) = true := by simp [hL]
    have hf : r = false := HNO.out fun h => hL h.1.1
    clear hL HRR HRS HNO HR1
    go_enter Try.func18, Try.ntmps18
    go_wp2_with fail
    go_quiet (fail)
    go_wp2_with fail
    go_ret
    exact ⟨by first | rfl | (rw [hf]; rfl), grown_trans (grown_trans (World.grownBy_alloc _ _ none) (World.grownBy_alloc _ _ none)) (grown_drewN _ _)⟩

theorem rclosed_few (ta na la pa : Option Addr) (tn nn ln pn tc nc lc pc : Nat) (st : Int) (w : World) (h : nn < 2) :
    Calls Try.prog 18 #[.agg #[.slice ta tn tc, .slice na nn nc, .slice la ln lc, .int .i64 st, .slice pa pn pc]] w fun e w' => e = .returned (.bool false) ∧ w.grownBy w' none := by
  have hd : decide ((nn : Int) < 2) = true := decide_eq_true (by omega)
  have hd' : decide (nn < 2) = true := decide_eq_true h
  go_enter Try.func18, Try.ntmps18
  go_wp2_with fail
  go_ret
  exact ⟨rfl, World.grownBy_alloc _ _ none⟩

theorem rclosed_name (bn on : Nat) (ta la pa : Option Addr) (tn nn ln pn tc nc lc pc : Nat) (st : Int) (s : ByteArray) (w : World) (h : 2 ≤ nn) (hn : w.cell? ⟨bn, on, none⟩ = some (.string s)) (hs : s ≠ ⟨#[]⟩) :
    Calls Try.prog 18 #[.agg #[.slice ta tn tc, .slice (some ⟨bn, on, none⟩) nn nc, .slice la ln lc, .int .i64 st, .slice pa pn pc]] w fun e w' => e = .returned (.bool false) ∧ w.grownBy w' none := by
  have hd : decide ((nn : Int) < 2) = false := decide_eq_false (by omega)
  have hd' : decide (nn < 2) = false := decide_eq_false (by omega)
  have n0 : ∀ o, (w.alloc o).cell? ⟨bn, on, none⟩ = some (.string s) := fun o => (World.grownBy_alloc w o none).cell hn (by simp)
  have hne2 := isEmpty_false hs
  have hne : (s.toList == (ByteArray.mk #[]).toList) = false := strEq_false hs
  clear hn hs
  go_enter Try.func18, Try.ntmps18
  go_wp2_with fail
  go_ret
  exact ⟨rfl, World.grownBy_alloc _ _ none⟩

theorem rclosed_prods (bn on : Nat) (ta la pa : Option Addr) (tn nn ln pn tc nc lc pc : Nat) (st : Int) (w : World) (h : 2 ≤ nn) (hn : w.cell? ⟨bn, on, none⟩ = some (.string ⟨#[]⟩)) (hp : pn < 2) :
    Calls Try.prog 18 #[.agg #[.slice ta tn tc, .slice (some ⟨bn, on, none⟩) nn nc, .slice la ln lc, .int .i64 st, .slice pa pn pc]] w fun e w' => e = .returned (.bool false) ∧ w.grownBy w' none := by
  have hd : decide ((nn : Int) < 2) = false := decide_eq_false (by omega)
  have hd' : decide (nn < 2) = false := decide_eq_false (by omega)
  have hd2 : decide ((pn : Int) < 2) = true := decide_eq_true (by omega)
  have hd2' : decide (pn < 2) = true := decide_eq_true hp
  have n0 : ∀ o, (w.alloc o).cell? ⟨bn, on, none⟩ = some (.string ⟨#[]⟩) := fun o => (World.grownBy_alloc w o none).cell hn (by simp)
  clear hn
  go_enter Try.func18, Try.ntmps18
  go_wp2_with fail
  go_ret
  exact ⟨rfl, World.grownBy_alloc _ _ none⟩

/-- The document's Closed: is a grammar closed? -/
theorem rclosed_any (ta na la pa : Option Addr) (tc nc lc pc : Nat) (st : Int) (ts : List (ByteArray × Int)) (ns : List ByteArray) (lv : List Int) (n : Nat) (L : Nat → Int) (R : Nat → List Int) (ra : Nat → Option Addr) (rc : Nat → Nat) (V : Nat → Int) (w : World)
    (hG : GAt w ta na la pa tc nc lc pc ts ns lv n L R ra rc V) (hts : ∀ t ∈ ts, t.1.size ≤ 140737488355328) (hns : ∀ s ∈ ns, s.size ≤ 140737488355328) (r : Bool) (hr : r = true ↔ closedOK ts ns lv st n L R V) :
    Calls Try.prog 18 #[.agg #[.slice ta ts.length tc, .slice na ns.length nc, .slice la lv.length lc, .int .i64 st, .slice pa n pc]] w fun e w' => e = .returned (.bool r) ∧ w.grownBy w' none := by
  have no : ¬ closedOK ts ns lv st n L R V → r = false := fun h => Bool.eq_false_iff.2 fun hh => h (hr.1 hh)
  by_cases h2 : ns.length < 2
  · rw [no (fun h => by have h4 := h.2.start; unfold isNonI at h4; omega)]
    exact rclosed_few ta na la pa _ _ _ _ _ _ _ _ st w h2
  · obtain ⟨bn, on, rfl, hnc⟩ : ∃ b off, na = some ⟨b, off, none⟩ ∧ ∀ i, i < ns.length → w.cell? ⟨b, off + i, none⟩ = some (.string (ns.getD i ⟨#[]⟩)) := by
      rcases hG.nons with h | h
      · rw [h] at h2; simp at h2
      · exact h
    have hc := hnc 0 (by omega)
    by_cases hs : ns.getD 0 ⟨#[]⟩ = ⟨#[]⟩
    · rw [hs] at hc
      by_cases hp : n < 2
      · rw [no (fun h => by have := h.2.p1; omega)]
        exact rclosed_prods bn on ta la pa _ _ _ _ _ _ _ _ st w (by omega) hc hp
      · obtain ⟨bp, op, rfl, hps⟩ : ∃ b off, pa = some ⟨b, off, none⟩ ∧ ∀ k, k < n → w.cell? ⟨b, off + k * 3, none⟩ = some (.int .i64 (L k)) ∧ w.cell? ⟨b, off + k * 3 + 1, none⟩ = some (.slice (ra k) (R k).length (rc k)) ∧ w.cell? ⟨b, off + k * 3 + 2, none⟩ = some (.int .i64 (V k)) ∧ IntsAt w (ra k) (R k) ∧ (ra k = none → rc k = 0) ∧ (R k).length ≤ 17592186044416 := by
          rcases hG.prods with h | h
          · omega
          · exact h
        obtain ⟨p0, p1, p2, p3, _, p5⟩ := hps 0 (by omega)
        simp only [Nat.zero_mul, Nat.add_zero] at p0 p1 p2
        obtain ⟨rF, hrF⟩ := boolOf (fitsOK 1 ts ns lv st n L R V)
        refine rclosed_look bn on bp op ta la (ra 0) ts.length ns.length lv.length n tc nc lc pc (rc 0) st (L 0) (V 0) (R 0) w hc (by omega) (by omega) p0 p1 p2 p3 p5 rF (fun W hW => fits_any ta _ la _ ts.length ns.length lv.length n tc nc lc pc 1 st ts ns lv L R ra rc V W (hG.kept hW) ⟨rfl, rfl, rfl⟩ (by omega) (by omega) hts hns rF hrF) r ?_
        rw [hr, hrF]
        exact ⟨fun h => ⟨⟨h.1.left, h.1.right, h.1.level⟩, h.2⟩, fun ⟨⟨h1, h3, h4⟩, h5⟩ => ⟨⟨by omega, hs, by omega, h1, h3, h4⟩, h5⟩⟩
    · rw [no (fun h => hs h.1.name)]
      exact rclosed_name bn on ta la pa _ _ _ _ _ _ _ _ st _ w (by omega) hc hs

end Go.Proofs.Ytkbpnafahimeiaa
