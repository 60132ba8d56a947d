/-
  Grammar of the document's builder, walked.
-/
import Derived.Test.YtkbpnafahimeiaaRbGramE
namespace Go.Proofs.Ytkbpnafahimeiaa
open Go.RowKit Go.Maps Go.Shelf

attribute [local go_sem] Oper.semAt_some

theorem results_rgram (tmps : Array Value) (w : World) (g : Nat) (cs : Array Value) (x : Value) (h2 : tmps.getD 2 undef = .pointer (some ⟨g, 0, none⟩)) (h3 : tmps.getD 3 undef = x) (hg : w.heap[g]? = some (.cells cs 42 (0, 0))) (hs : cs.size = 5) :
    (results Try.f28 tmps).run Try.prog w = .ok (.tuple #[.agg cs, x]) w := by
  have h2' : tmps[2]?.getD undef = .pointer (some ⟨g, 0, none⟩) := by simpa using h2
  have h3' : tmps[3]?.getD undef = x := by simpa using h3
  have hl := run_loadVar_row (P := Try.prog) w g 42 42 cs (0, 0) _ hg Try.underlying42 rfl (by rw [infoG, hs])
  simp [results, Try.results28, h2', h3', asAddr, hl]

set_option maxRecDepth 100000 in
set_option maxHeartbeats 8000000 in
theorem rgrammar_core (r : Nat) (S : BS) (w : World) (Q : Nat → Prop) (hok : S.OK) (hR : RAt w r S Q) (R : Ending → World → Prop)
    (hY : ∀ w' vt vn vl vp, S.tells = true → GramNew w' w.heap.size S.gram vt vn vl vp → w.grownBy w' none → R (.returned (.tuple #[.agg #[vt, vn, vl, .int .i64 S.gram.start, vp], .int .i64 0])) w')
    (hN : ∀ w', S.tells = false → w.grownBy w' none → R (.returned (.tuple #[.agg #[.slice none 0 0, .slice none 0 0, .slice none 0 0, .int .i64 0, .slice none 0 0], .int .i64 1])) w') :
    Calls Try.prog 28 #[.pointer (some ⟨r, 0, none⟩)] w R := by
  have HY : Hid (∀ w' vt vn vl vp, S.tells = true → GramNew w' w.heap.size S.gram vt vn vl vp → w.grownBy w' none → R (.returned (.tuple #[.agg #[vt, vn, vl, .int .i64 S.gram.start, vp], .int .i64 0])) w') := hY
  have HN : Hid (∀ w', S.tells = false → w.grownBy w' none → R (.returned (.tuple #[.agg #[.slice none 0 0, .slice none 0 0, .slice none 0 0, .int .i64 0, .slice none 0 0], .int .i64 1])) w') := hN
  have HOK : Hid S.OK := hok
  have hsy := hok.syms
  have hp96 := hok.prods
  have hs64 := hok.sides
  obtain ⟨hup, hQr, vt, vn, vl, vr, hrow, hc⟩ := hR
  obtain ⟨ta, tc, e0⟩ := owns_slice hc.tl
  obtain ⟨na, nc, e1⟩ := owns_slice hc.nl
  obtain ⟨la, lc, e2⟩ := owns_slice hc.ll
  obtain ⟨rs, hrs1, hrs2, hrs3⟩ := hc.rl
  obtain ⟨pa, pc, e3⟩ := owns_slice hrs2
  subst e0 e1 e2 e3
  have HTA : Hid (TermsAt w ta (rts S)) := (owns_termsAt hc.tl (rts_length S).symm).1
  have HTB : Hid (ta = none → S.terms.length = 0 ∧ tc = 0) := (owns_bounds hc.tl).2
  have HTCE : Hid (∀ ad, ta = some ad → ∀ j u, (tmsL (rts S))[j]? = some u → w.cell? (ad.add j) = some u) := fun ad hta j u hu => by
    have h9 := hc.tl
    rcases h9.2 with ⟨hv, h0⟩ | ⟨g, cap, cur, hv, _⟩
    · rw [hta] at hv; cases hv
    · simp only [Value.slice.injEq, true_and] at hv
      rw [hta] at hv
      have : ad = ⟨g, 0, none⟩ := by simpa using hv.1
      subst this
      exact World.ownsRow.cells h9 (by rw [hta]; rfl) j u hu
  have HTL0 : Hid ((tmsL (rts S)).length = S.terms.length * 2) := hc.tl.1
  have HLCE : Hid (∀ ad, la = some ad → ∀ j u, (S.sides.map (Value.int .i64))[j]? = some u → w.cell? (ad.add j) = some u) := fun ad hla j u hu => by
    have h9 := hc.ll
    rcases h9.2 with ⟨hv, h0⟩ | ⟨g, cap, cur, hv, _⟩
    · rw [hla] at hv; cases hv
    · simp only [Value.slice.injEq, true_and] at hv
      rw [hla] at hv
      have : ad = ⟨g, 0, none⟩ := by simpa using hv.1
      subst this
      exact World.ownsRow.cells h9 (by rw [hla]; rfl) j u hu
  have HNA : Hid (StrsAt w na S.nons) := StrsIn.strsAt (v := .slice na S.nons.length nc) hc.nl rfl
  have HLA : Hid (IntsAt w la S.sides) := owns_intsAt hc.ll rfl
  have HLB : Hid (la = none → S.sides.length = 0 ∧ lc = 0) := (owns_bounds hc.ll).2
  obtain ⟨tn, htn⟩ : ∃ tn, tn = S.terms.length := ⟨_, rfl⟩
  obtain ⟨nn, hnn⟩ : ∃ nn, nn = S.nons.length := ⟨_, rfl⟩
  obtain ⟨ln, hln⟩ : ∃ ln, ln = S.sides.length := ⟨_, rfl⟩
  obtain ⟨pn, hpn⟩ : ∃ pn, pn = S.prods.length := ⟨_, rfl⟩
  have HLS : Hid (S.terms.length = tn ∧ S.nons.length = nn ∧ S.sides.length = ln ∧ S.prods.length = pn) := ⟨htn.symm, hnn.symm, hln.symm, hpn.symm⟩
  have HROW : Hid (∀ W, w.grownBy W none → W.cell? ⟨r, 0, none⟩ = some (.slice ta tn tc) ∧ W.cell? ⟨r, 1, none⟩ = some (.slice na nn nc) ∧ W.cell? ⟨r, 2, none⟩ = some (.slice la ln lc) ∧ W.cell? ⟨r, 3, none⟩ = some (.slice pa pn pc) ∧ W.cell? ⟨r, 4, none⟩ = some (.int .i64 S.start)) := fun W hW => by
    have h := (hrow.keptOff hW (by simp)).cells
    rw [htn, hnn, hln, hpn]
    exact h
  have HRL : Hid (∀ k, k < pn → ∃ g a c, pa = some ⟨g, 0, none⟩ ∧ ∀ W, w.grownBy W none → W.cell? ⟨g, k * 3, none⟩ = some (.int .i64 (S.prods.getD k ⟨0, [], 0⟩).left) ∧ W.cell? ⟨g, k * 3 + 1, none⟩ = some (.slice a (S.prods.getD k ⟨0, [], 0⟩).right.length c) ∧ W.cell? ⟨g, k * 3 + 2, none⟩ = some (.int .i64 (S.prods.getD k ⟨0, [], 0⟩).level) ∧ IntsAt W a (S.prods.getD k ⟨0, [], 0⟩).right) := fun k hk => by
    have hk' : k < S.prods.length := by omega
    obtain ⟨a, c, hv, hI, _, _⟩ := (hrs3 k hk').1.at
    rcases hrs2.2 with ⟨_, h0⟩ | ⟨g, cap, cur, hv2, _⟩
    · omega
    · simp only [Value.slice.injEq, true_and] at hv2
      obtain ⟨rfl, rfl⟩ := hv2
      refine ⟨g, a, c, rfl, fun W hW => ?_⟩
      have cell : ∀ i, i < 3 → ∀ u, (prL (S.prods.getD k ⟨0, [], 0⟩) (rs.getD k undef))[i]? = some u → W.cell? ⟨g, k * 3 + i, none⟩ = some u := fun i hi u hu => by
        have h5 := World.ownsRow.cells hrs2 (g := g) rfl (k * 3 + i) u (by rw [flat_at S.prods rs k hrs1 hk' i hi]; exact hu)
        rw [Addr.add_mid, Nat.zero_add] at h5
        exact hW.cell h5 (by simp)
      rw [hv] at cell
      exact ⟨cell 0 (by omega) _ rfl, cell 1 (by omega) _ rfl, cell 2 (by omega) _ rfl, hI.kept hW⟩
  rw [← htn] at hsy
  rw [← hnn] at hsy
  rw [← hpn] at hp96
  rw [← hln] at hs64
  clear hc hrow hup hQr hrs1 hrs2 hrs3 hok hY hN htn hnn hln hpn
  obtain ⟨_, _, _, q3, _⟩ := HROW.out _ (World.grownBy_alloc w (.cells #[.slice none 0 0, .slice none 0 0, .slice none 0 0, .int .i64 0, .slice none 0 0] 42) none)
  by_cases hp0 : pn = 0
  · have d0 : ((pn : Int) == 0) = true := beq_iff_eq.2 (by omega)
    have HNT : Hid (S.tells = false) := by show _ = _; unfold BS.tells; rw [HLS.out.2.2.2, hp0]; rfl
    clear hp0
    go_enter Try.func28, Try.ntmps28
    go_wp2_with fail
    refine bodyPost_ret (v := .tuple #[.agg #[.slice none 0 0, .slice none 0 0, .slice none 0 0, .int .i64 0, .slice none 0 0], .int .i64 1]) (by simp [results, Try.results28, go_sem]) rfl (HN.out _ HNT.out (World.grownBy_alloc w _ none))
  · have d0 : ((pn : Int) == 0) = false := beq_eq_false_iff_ne.2 (by omega)
    obtain ⟨i0, hi, hz0, hz1, hz2⟩ := info_parts infoInt
    obtain ⟨j0, hj, hy0, hy1, hy2⟩ := info_parts infoTerm
    have hnn0 : 0 < nn := by
      obtain ⟨p, hp⟩ : ∃ p, p ∈ S.prods := ⟨S.prods[0]'(by rw [HLS.out.2.2.2]; omega), List.getElem_mem _⟩
      have := HOK.out.pl p hp
      rw [HLS.out.2.1] at this
      omega
    obtain ⟨_, q1, _, _, _⟩ := HROW.out _ (World.grownBy_alloc w (.cells #[.slice none 0 0, .slice none 0 0, .slice none 0 0, .int .i64 0, .slice none 0 0] 42) none)
    go_enter Try.func28, Try.ntmps28
    go_wp2_with (at_make; refine wpList_make_full _ rfl _ _ 30 rfl (w.heap.size + 1) 3 i0 (.int .i64 0) 1 Try.underlying30 hi hz0 hz1 .i64 .i64 _ _ nn rfl rfl (by simp) (by simp) (by rw [hz2]; omega) (by unfold maxLen; omega) (by simp) ?_)
    intro w1 hown hgrow
    have hrow1 : w1.heap[w.heap.size + 1]? = some (.cells (List.replicate nn (Value.int .i64 0)).toArray 3 (0, 0)) := by
      have h9 := made_ints (w := w.alloc (.cells #[.slice none 0 0, .slice none 0 0, .slice none 0 0, .int .i64 0, .slice none 0 0] 42)) (w1 := w1) (B := w.heap.size + 1) (n := nn) (by simpa [Value.cells] using hown)
      simpa using h9
    have hbx1 : w1.heap[w.heap.size]? = some (.cells #[.slice none 0 0, .slice none 0 0, .slice none 0 0, .int .i64 0, .slice none 0 0] 42 (0, 0)) := (hgrow.block _ (by simp) (by simp)).trans (heap_alloc_last w _)
    have hG1 : w.grownBy w1 none := grown_trans (World.grownBy_alloc w _ none) hgrow
    have hszw : w.heap.size + 2 ≤ w1.heap.size := (Array.getElem?_eq_some_iff.1 hrow1).1
    have HGB : Hid (GbAt w w1.heap.size ((w1.alloc (.cells #[.string ⟨#[]⟩, .int .i64 0] 74)).alloc (.cells #[.slice (some ⟨w1.heap.size, 0, none⟩) 1 1, .slice none 0 0, .slice none 0 0, .int .i64 0, .slice none 0 0] 42)) (.slice (some ⟨w1.heap.size, 0, none⟩) 1 1) (.slice none 0 0) (.slice none 0 0) (.slice none 0 0) 0 [(⟨#[]⟩, 0)] [] [] nn (fun _ => 0) []) := by
      have a1 := World.grownBy_alloc w1 (.cells #[.string ⟨#[]⟩, .int .i64 0] 74) none
      have a2 := World.grownBy_alloc (w1.alloc (.cells #[.string ⟨#[]⟩, .int .i64 0] 74)) (.cells #[.slice (some ⟨w1.heap.size, 0, none⟩) 1 1, .slice none 0 0, .slice none 0 0, .int .i64 0, .slice none 0 0] 42) none
      have a3 := grown_trans a1 a2
      refine ⟨hszw, grown_trans hG1 a3, (a3.block _ (by omega) (by simp)).trans hbx1, ?_, ?_, ?_, World.ownsRow_nil _ _ _ _, World.ownsRow_nil _ _ _ _, [], rfl, World.ownsRow_nil _ _ _ _, fun i hi => by simp at hi⟩
      · rw [a3.block _ (by omega) (by simp), hrow1]
        congr 3
        apply List.ext_getElem
        · simp
        · intro i h1 h2; simp
      · have := heap_alloc_last (w1.alloc (.cells #[.string ⟨#[]⟩, .int .i64 0] 74)) (.cells #[.slice (some ⟨w1.heap.size, 0, none⟩) 1 1, .slice none 0 0, .slice none 0 0, .int .i64 0, .slice none 0 0] 42)
        rw [World.size_alloc] at this
        exact this
      · refine World.ownsRow.kept ?_ a2 (none_ne rfl)
        exact ⟨rfl, .inr ⟨w1.heap.size, 1, _, rfl, Nat.le_refl _, heap_alloc_last w1 _, Nat.le_refl _, by unfold maxLen; omega, rfl, rfl⟩⟩
    go_wp2_with fail
    generalize hX0 : (w1.alloc (.cells #[.string ⟨#[]⟩, .int .i64 0] 74)).alloc (.cells #[.slice (some ⟨w1.heap.size, 0, none⟩) 1 1, .slice none 0 0, .slice none 0 0, .int .i64 0, .slice none 0 0] 42) = X0 at *
    clear hX0 hgrow hown hrow1 hbx1 hG1 hszw q1 q3
    generalize w1.heap.size = H at *
    -- region 5: the terminals
    have HGD : Hid (GbAt w H X0.drew (.slice (some ⟨H, 0, none⟩) 1 1) (.slice none 0 0) (.slice none 0 0) (.slice none 0 0) 0 [(⟨#[]⟩, 0)] [] [] nn (fun _ => 0) []) := HGB.out.kept (grown_drewN X0 1)
    obtain ⟨b0, b1, b2, b3, b4⟩ := HGD.out.cells
    obtain ⟨q0, q1, q2, q3, q4⟩ := HROW.out _ HGD.out.grown
    have HSET : Hid (∀ v' w', w'.ownsRow H 74 2 v' (1 + tn) (tmsL [(⟨#[]⟩, 0)] ++ tmsL (rts S)) → X0.drew.grownBy w' (Value.slice (some ⟨H, 0, none⟩) 1 1).ownBlock →
        GbAt w H (w'.setCell ⟨H + 1, 0, none⟩ v') v' (.slice none 0 0) (.slice none 0 0) (.slice none 0 0) 0 ((⟨#[]⟩, 0) :: rts S) [] [] nn (fun _ => 0) [] ∧ w'.cell? ⟨H + 1, 0, none⟩ = some (.slice (some ⟨H, 0, none⟩) 1 1) ∧ w'.frozen? ⟨H + 1, 0, none⟩ = false) := fun v' w' h1 h2 => by
      have hb := (HGD.out.grew HGD.out.tr (Nat.le_refl _) (by decide) h2).2.2.2
      refine ⟨HGD.out.setT h2 ?_, by rw [cell_of_row _ _ _ _ _ _ hb]; rfl, frozen_of_row _ _ 0 _ _ hb⟩
      have e1 : ((⟨#[]⟩, 0) :: rts S : List (ByteArray × Int)).length = 1 + tn := by rw [List.length_cons, rts_length, HLS.out.1]; omega
      have e2 : tmsL ((⟨#[]⟩, 0) :: rts S) = tmsL [(⟨#[]⟩, 0)] ++ tmsL (rts S) := by simp [tmsL]
      rw [e1, e2]
      exact h1
    have HTC : Hid (∀ ad, ta = some ad → ∀ j u, (tmsL (rts S))[j]? = some u → X0.drew.cell? (ad.add j) = some u) := fun ad hta j u hu => by
      have h1 := HTCE.out ad hta j u hu
      exact HGD.out.grown.cell h1 (by simp)
    have HTL : Hid ((tmsL (rts S)).length = tn * 2) := by have := HTL0.out; rw [HLS.out.1] at this; exact this
    have HT1 : Hid (∀ u ∈ tmsL (rts S), u.oneCell' = true) := by
      intro u hu
      obtain ⟨t, _, hu⟩ := List.mem_flatMap.1 hu
      exact tmL_oneCell _ _ u hu
    have HTN' : Hid (ta = none → tn = 0 ∧ tc = 0) := fun h => by have := HTB.out h; rw [HLS.out.1] at this; exact this
    have hHsz : H + 1 < X0.heap.size := HGB.out.lt
    clear HGB
    go_cut [] from 30 to 37 (fun wx => ∃ v', GbAt w H wx v' (.slice none 0 0) (.slice none 0 0) (.slice none 0 0) 0 ((⟨#[]⟩, 0) :: rts S) [] [] nn (fun _ => 0) [])
    case first =>
      go_region_law (first
        | (refine step_append_src rfl (.tmp 31) (.tmp 35) 28 rfl H 74 j0 (.agg #[.string ⟨#[]⟩, .int .i64 0]) 2 24 Try.underlying28 hj hy0 hy1 hy2 rfl (by decide) _ _ _ (by simp [Act.eval]) HGD.out.tr ta tn tc (tmsL (rts S)) (by simp [Act.eval]) HTN'.out HTL.out HTC.out HT1.out (by unfold maxLen; simp; omega) (by simp; omega) (by simp; omega) ?_; intro v5 w5 hown5 hg5; obtain ⟨a5, c5, hv5⟩ := owns_slice hown5; subst hv5; obtain ⟨z0, z1, z2⟩ := HSET.out _ _ hown5 hg5))
      all_goals go_wp2_with fail
      all_goals go_meet
      all_goals exact ⟨_, z0⟩
    case rest =>
      obtain ⟨vT, hgb⟩ := hcut
      clear HSET HTC HTL HT1 HTN' HGD hHsz b0 b1 b2 b3 b4 q0 q1 q2 q3 q4 HTCE HTL0 HTB
      have HGB : Hid (GbAt w H wc vT (.slice none 0 0) (.slice none 0 0) (.slice none 0 0) 0 ((⟨#[]⟩, 0) :: rts S) [] [] nn (fun _ => 0) []) := hgb
      have HGD : Hid (GbAt w H wc.drew vT (.slice none 0 0) (.slice none 0 0) (.slice none 0 0) 0 ((⟨#[]⟩, 0) :: rts S) [] [] nn (fun _ => 0) []) := HGB.out.kept (grown_drewN wc 1)
      obtain ⟨b0, b1, b2, b3, b4⟩ := HGD.out.cells
      obtain ⟨q0, q1, q2, q3, q4⟩ := HROW.out _ HGD.out.grown
      have HSET : Hid (∀ v' w', w'.ownsRow (H + 2) 3 1 v' (0 + ln) ([] ++ S.sides.map (Value.int .i64)) → wc.drew.grownBy w' (Value.slice none 0 0).ownBlock →
          GbAt w H (w'.setCell ⟨H + 1, 2, none⟩ v') vT (.slice none 0 0) v' (.slice none 0 0) 0 ((⟨#[]⟩, 0) :: rts S) [] S.sides nn (fun _ => 0) [] ∧ w'.cell? ⟨H + 1, 2, none⟩ = some (.slice none 0 0) ∧ w'.frozen? ⟨H + 1, 2, none⟩ = false) := fun v' w' h1 h2 => by
        have hb := (HGD.out.grew HGD.out.lr (by omega) (by decide) h2).2.2.2
        refine ⟨HGD.out.setL h2 ?_, by rw [cell_of_row _ _ _ _ _ _ hb]; rfl, frozen_of_row _ _ 2 _ _ hb⟩
        rw [HLS.out.2.2.1]
        simpa using h1
      have HTC : Hid (∀ ad, la = some ad → ∀ j u, (S.sides.map (Value.int .i64))[j]? = some u → wc.drew.cell? (ad.add j) = some u) := fun ad hla j u hu => HGD.out.grown.cell (HLCE.out ad hla j u hu) (by simp)
      have HTL : Hid ((S.sides.map (Value.int .i64)).length = ln * 1) := by show _ = _; rw [List.length_map, HLS.out.2.2.1, Nat.mul_one]
      have HTN' : Hid (la = none → ln = 0 ∧ lc = 0) := fun h => by have := HLB.out h; rw [HLS.out.2.2.1] at this; exact this
      have hHsz : H + 1 < wc.heap.size := HGB.out.lt
      have HLR : Hid (wc.drew.ownsRow (H + 2) 3 1 (.slice none 0 0) 0 []) := World.ownsRow_nil _ _ _ _
      clear HGB hgb
      go_wp2_with fail
      go_cut [] from 38 to 45 (fun wx => ∃ v', GbAt w H wx vT (.slice none 0 0) v' (.slice none 0 0) 0 ((⟨#[]⟩, 0) :: rts S) [] S.sides nn (fun _ => 0) [])
      case first =>
        go_region_law (first
          | (refine step_append_src rfl (.tmp 39) (.tmp 43) 30 rfl (H + 2) 3 i0 (.int .i64 0) 1 8 Try.underlying30 hi hz0 hz1 hz2 rfl (by decide) _ _ _ (by simp [Act.eval]) HLR.out la ln lc (S.sides.map (Value.int .i64)) (by simp [Act.eval]) HTN'.out HTL.out HTC.out (ints_oneCell' _) (by unfold maxLen; simp; omega) (by simp; omega) (by simp; omega) ?_; intro v5 w5 hown5 hg5; obtain ⟨a5, c5, hv5⟩ := owns_slice hown5; subst hv5; obtain ⟨z0, z1, z2⟩ := HSET.out _ _ hown5 hg5))
        all_goals go_wp2_with fail
        all_goals go_meet
        all_goals (rw [Nat.zero_add] at z0; exact ⟨_, z0⟩)
      case rest =>
        obtain ⟨vL, hgb⟩ := hcut
        clear HSET HTC HTL HTN' HGD hHsz b0 b1 b2 b3 b4 q0 q1 q2 q3 q4 HLCE HLB HLR
        have HGB : Hid (GbAt w H wc vT (.slice none 0 0) vL (.slice none 0 0) 0 ((⟨#[]⟩, 0) :: rts S) [] S.sides nn (fun _ => 0) []) := hgb
        clear hgb
        have HORD : Hid (∀ k, k ≤ pn → (ordOf (S.prods.take k)).Nodup ∧ (∀ i ∈ ordOf (S.prods.take k), 1 ≤ i ∧ i ≤ nn)) := fun k hk => by
          have := ord_props HOK.out k (by rw [HLS.out.2.2.2]; exact hk)
          rw [HLS.out.2.1] at this
          exact this
        have HGB0 : Hid (GbAt w H wc vT (.slice none 0 0) vL (.slice none 0 0) 0 ((⟨#[]⟩, 0) :: rts S) ((ordOf (S.prods.take 0)).map fun i => S.nons.getD (i - 1) ⟨#[]⟩) S.sides nn (fun i => symOf 1 (ordOf (S.prods.take 0)) (i + 1)) []) := by
          have e : (fun i => symOf 1 (ordOf (S.prods.take 0)) (i + 1)) = fun _ => (0 : Int) := by funext i; simp [symOf, ordOf]
          rw [e]
          exact HGB.out
        clear HGB
        go_wp2_with fail
        go_loopw [6] (fun i wz => ∃ (k : Nat) (vN : Value), k ≤ pn ∧ i = .int .i64 k ∧ GbAt w H wz vT vN vL (.slice none 0 0) 0 ((⟨#[]⟩, 0) :: rts S) ((ordOf (S.prods.take k)).map fun i => S.nons.getD (i - 1) ⟨#[]⟩) S.sides nn (fun i => symOf 1 (ordOf (S.prods.take k)) (i + 1)) []) (fun i _ => pn - (intOf i).toNat)
        case atStart => exact ⟨0, _, Nat.zero_le _, rfl, HGB0.out⟩
        case round =>
          obtain ⟨k, vN, hk, rfl, hgb⟩ := hrel
          clear HGB0
          by_cases hlt : k < pn
          · have hkl : k < S.prods.length := by rw [HLS.out.2.2.2]; exact hlt
            obtain ⟨hnd, hrg⟩ := HORD.out k hk
            have hstep := ordOf_succ S.prods k hkl
            obtain ⟨gp, ap, cp, rfl, hcells⟩ := HRL.out k hlt
            obtain ⟨u0, u1, u2, _⟩ := hcells wr hgb.grown
            have hpl := HOK.out.pl (S.prods.getD k ⟨0, [], 0⟩) (by
              have : S.prods.getD k ⟨0, [], 0⟩ = S.prods[k] := by simp [List.getD, hkl]
              rw [this]; exact List.getElem_mem _)
            rw [HLS.out.2.1] at hpl
            have hst2 : ordOf (S.prods.take (k + 1)) = if (-(S.prods.getD k ⟨0, [], 0⟩).left).toNat ∈ ordOf (S.prods.take k) then ordOf (S.prods.take k) else ordOf (S.prods.take k) ++ [(-(S.prods.getD k ⟨0, [], 0⟩).left).toNat] := hstep
            have HST : Hid (ordOf (S.prods.take (k + 1)) = if (-(S.prods.getD k ⟨0, [], 0⟩).left).toNat ∈ ordOf (S.prods.take k) then ordOf (S.prods.take k) else ordOf (S.prods.take k) ++ [(-(S.prods.getD k ⟨0, [], 0⟩).left).toNat]) := hst2
            have hml := nodup_le nn _ hnd hrg
            clear hcells hstep hst2 u1 u2
            generalize (S.prods.getD k ⟨0, [], 0⟩).left = pl at *
            obtain ⟨m, rfl⟩ : ∃ m : Nat, pl = -((m : Int) + 1) := ⟨(-pl - 1).toNat, by omega⟩
            have hmn : m < nn := by omega
            have em : (-(-((m : Int) + 1))).toNat = m + 1 := by omega
            rw [em] at HST
            have e1 : (-1 : Int) - (-((m : Int) + 1)) = (m : Int) := by omega
            obtain ⟨q0, q1, q2, q3, q4⟩ := HROW.out _ hgb.grown
            obtain ⟨pc0, pf0⟩ := hgb.placeAt hmn
            have HGB : Hid (GbAt w H wr vT vN vL (.slice none 0 0) 0 ((⟨#[]⟩, 0) :: rts S) ((ordOf (S.prods.take k)).map fun i => S.nons.getD (i - 1) ⟨#[]⟩) S.sides nn (fun i => symOf 1 (ordOf (S.prods.take k)) (i + 1)) []) := hgb
            clear hgb hnd hkl em pf0 hpl
            generalize ordOf (S.prods.take k) = out at *
            by_cases hm : (m + 1) ∈ out
            · have hs2 : ordOf (S.prods.take (k + 1)) = out := by rw [HST.out, if_pos hm]
              have hsy2 : symOf 1 out (m + 1) ≠ 0 := by unfold symOf; rw [if_pos hm]; omega
              have HS2 : Hid (ordOf (S.prods.take (k + 1)) = out) := hs2
              generalize symOf 1 out (m + 1) = sx at *
              have d1 : (sx == 0) = false := beq_eq_false_iff_ne.2 hsy2
              clear hs2 hsy2 hm HST hrg
              go_wp2_with fail
              go_roundw
              case rel => exact ⟨k + 1, vN, by omega, by go_num, by rw [HS2.out]; exact HGB.out⟩
              case measure => simp [intOf]; omega
            · have hs2 : ordOf (S.prods.take (k + 1)) = out ++ [m + 1] := by rw [HST.out, if_neg hm]
              have hsy2 : symOf 1 out (m + 1) = 0 := by unfold symOf; rw [if_neg hm]
              have HS2 : Hid (ordOf (S.prods.take (k + 1)) = out ++ [m + 1]) := hs2
              rw [hsy2] at pc0
              have hol := HGB.out.nr.1
              obtain ⟨aN, cN, hvN⟩ := owns_slice HGB.out.nr
              rw [List.length_map] at hvN
              subst hvN
              obtain ⟨on, hon⟩ : ∃ on, on = out.length := ⟨_, rfl⟩
              have HON : Hid (out.length = on) := hon.symm
              rw [← hon] at HGB hml
              have hmS : m < S.nons.length := by rw [HLS.out.2.1]; exact hmn
              obtain ⟨nb, nof, rfl, hcs⟩ : ∃ b off, na = some ⟨b, off, none⟩ ∧ ∀ i, i < S.nons.length → w.cell? ⟨b, off + i, none⟩ = some (.string (S.nons.getD i ⟨#[]⟩)) := by
                rcases HNA.out with h | h
                · rw [h] at hmS; simp at hmS
                · exact h
              have n0 : wr.drew.cell? ⟨nb, nof + m, none⟩ = some (.string (S.nons.getD m ⟨#[]⟩)) := HGB.out.grown.cell (hcs m hmS) (by simp)
              have b1 : wr.drew.cell? ⟨H + 1, 1, none⟩ = some (.slice aN on cN) := HGB.out.cells.2.1
              have b1' : ∀ o, (wr.alloc o).drew.cell? ⟨H + 1, 1, none⟩ = some (.slice aN on cN) := fun o => (World.grownBy_alloc wr o none).cell HGB.out.cells.2.1 (by simp)
              have q1d : wr.drew.cell? ⟨r, 1, none⟩ = some (.slice (some ⟨nb, nof, none⟩) nn nc) := q1
              have HNR : Hid (∀ o, ((wr.alloc o).drew).ownsRow (H + 2) 9 1 (.slice aN on cN) on ((out.map fun i => S.nons.getD (i - 1) ⟨#[]⟩).map Value.string)) := fun o => by
                have h9 := HGB.out.nr
                rw [List.length_map, HON.out] at h9
                exact h9.alloc _
              have HPUSH : Hid (∀ o w4 g2 c2, ((wr.alloc o).drew).grownBy w4 (Value.slice aN on cN).ownBlock → w4.ownsRow (H + 2) 9 1 (.slice (some ⟨g2, 0, none⟩) (on + 1) c2) (on + 1) (((out.map fun i => S.nons.getD (i - 1) ⟨#[]⟩).map Value.string) ++ [.string (S.nons.getD m ⟨#[]⟩)]) →
                  GbAt w H (w4.setCell ⟨H + 1, 1, none⟩ (.slice (some ⟨g2, 0, none⟩) (on + 1) c2)) vT (.slice (some ⟨g2, 0, none⟩) (on + 1) c2) vL (.slice none 0 0) 0 ((⟨#[]⟩, 0) :: rts S) ((out ++ [m + 1]).map fun i => S.nons.getD (i - 1) ⟨#[]⟩) S.sides nn (fun i => symOf 1 out (i + 1)) [] ∧ w4.cell? ⟨H + 1, 1, none⟩ = some (.slice aN on cN) ∧ w4.frozen? ⟨H + 1, 1, none⟩ = false) := fun o w4 g2 c2 h1 h2 => by
                have hA : GbAt w H (wr.alloc o).drew vT (.slice aN on cN) vL (.slice none 0 0) 0 ((⟨#[]⟩, 0) :: rts S) (out.map fun i => S.nons.getD (i - 1) ⟨#[]⟩) S.sides nn (fun i => symOf 1 out (i + 1)) [] := (HGB.out.kept (World.grownBy_alloc wr o none)).kept (grown_drewN _ 1)
                have hb := (hA.grew hA.nr (by omega) (by decide) h1).2.2.2
                refine ⟨hA.pushN h1 ?_, by rw [cell_of_row _ _ _ _ _ _ hb]; rfl, frozen_of_row _ _ 1 _ _ hb⟩
                have e2 : ((out ++ [m + 1]).map fun i => S.nons.getD (i - 1) ⟨#[]⟩).map Value.string = (out.map fun i => S.nons.getD (i - 1) ⟨#[]⟩).map Value.string ++ [.string (S.nons.getD m ⟨#[]⟩)] := by simp
                rw [e2, List.length_map, List.length_append, HON.out]
                exact h2
              have HUPD : Hid (updL (fun i => symOf 1 out (i + 1)) m ((on : Int) + 1) = fun i => symOf 1 (out ++ [m + 1]) (i + 1)) := by
                show _ = _
                funext i
                unfold updL
                by_cases e : i = m
                · rw [if_pos e, e, symOf_snoc_same 1 hm, HON.out]; omega
                · rw [if_neg e, symOf_snoc_other 1 (show i + 1 ≠ m + 1 by omega)]
              obtain ⟨k0, hk0', hy0', hy1', hy2'⟩ := info_parts infoStr
              have hHsz : H + 1 < wr.heap.size := HGB.out.lt
              clear hs2 hsy2 hm HST hrg hol hon hcs hmS HGB
              generalize S.nons.getD m ⟨#[]⟩ = nmx at *
              generalize ((out.map fun i => S.nons.getD (i - 1) ⟨#[]⟩).map Value.string) = xs at *
              go_wp2_with fail
              go_region_law (first
                | (refine step_append_lies _ rfl (.tmp 70) (.tmp 78) 29 rfl (H + 2) 9 k0 (.string ByteArray.empty) 1 16 Try.underlying29 hk0' hy0' hy1' hy2' rfl (by decide) _ _ _ (by simp [Act.eval]) (HNR.out _) ⟨wr.heap.size, 0, none⟩ 1 1 [.string nmx] (by simp [Act.eval]) rfl (cell_one_new _ _ _) (str_oneCell nmx) (by omega) (by unfold maxLen; omega) (by omega) (by simp; omega) _ rfl ?_; intro g2 c2 w4 hown4 hgrow4 hloc4 hlt4; obtain ⟨z0, z1, z2⟩ := HPUSH.out _ _ _ _ hgrow4 hown4))
              all_goals
                have HZ : Hid (GbAt w H (w4.setCell ⟨H + 1, 1, none⟩ (.slice (some ⟨g2, 0, none⟩) (on + 1) c2)) vT (.slice (some ⟨g2, 0, none⟩) (on + 1) c2) vL (.slice none 0 0) 0 ((⟨#[]⟩, 0) :: rts S) ((out ++ [m + 1]).map fun i => S.nons.getD (i - 1) ⟨#[]⟩) S.sides nn (fun i => symOf 1 out (i + 1)) []) := z0
                generalize w4.setCell ⟨H + 1, 1, none⟩ (.slice (some ⟨g2, 0, none⟩) (on + 1) c2) = W4 at *
                obtain ⟨pc1, pf1⟩ := HZ.out.placeAt hmn
                have bb1 := HZ.out.cells.2.1
                have HF : Hid (GbAt w H (W4.setCell ⟨w.heap.size + 1, m, none⟩ (.int .i64 ((on : Int) + 1))) vT (.slice (some ⟨g2, 0, none⟩) (on + 1) c2) vL (.slice none 0 0) 0 ((⟨#[]⟩, 0) :: rts S) ((out ++ [m + 1]).map fun i => S.nons.getD (i - 1) ⟨#[]⟩) S.sides nn (fun i => symOf 1 (out ++ [m + 1]) (i + 1)) []) := by
                  have h9 := HZ.out.setPlace (i := m) (x := (on : Int) + 1)
                  rw [HUPD.out] at h9
                  exact h9
                clear z0 z1 z2 hown4 hgrow4 hloc4 hlt4 HPUSH HNR HZ HUPD b1 b1' n0 q1d
                go_wp2_with fail
                go_roundw
                all_goals first
                  | exact ⟨k + 1, _, by omega, by go_num, by rw [HS2.out]; exact HF.out⟩
                  | (simp [intOf]; omega)
          · obtain rfl : pn = k := by omega
            have htk : S.prods.take pn = S.prods := List.take_of_length_le (by rw [HLS.out.2.2.2]; exact Nat.le_refl _)
            rw [htk] at hgb
            obtain ⟨hnd, hrg⟩ := HORD.out pn (Nat.le_refl _)
            rw [htk] at hnd hrg
            have hml := nodup_le nn _ hnd hrg
            have HGB : Hid (GbAt w H wr vT vN vL (.slice none 0 0) 0 ((⟨#[]⟩, 0) :: rts S) ((ordOf S.prods).map fun i => S.nons.getD (i - 1) ⟨#[]⟩) S.sides nn (fun i => symOf 1 (ordOf S.prods) (i + 1)) []) := hgb
            have HOUT : Hid ((ordOf S.prods).Nodup ∧ ∀ i ∈ ordOf S.prods, 1 ≤ i ∧ i ≤ nn) := ⟨hnd, hrg⟩
            obtain ⟨aN, cN, hvN⟩ := owns_slice HGB.out.nr
            rw [List.length_map] at hvN
            subst hvN
            obtain ⟨on, hon⟩ : ∃ on, on = (ordOf S.prods).length := ⟨_, rfl⟩
            have HON : Hid ((ordOf S.prods).length = on) := hon.symm
            rw [← hon] at HGB hml
            obtain ⟨q0, q1, q2, q3, q4⟩ := HROW.out _ HGB.out.grown
            obtain ⟨b0, b1, b2, b3, b4⟩ := HGB.out.cells
            clear hgb hnd hrg htk hlt hk hon HORD
            by_cases hfew : on < nn
            · have d1 : decide ((on : Int) < nn) = true := decide_eq_true (by omega)
              have d1' : decide (on < nn) = true := decide_eq_true hfew
              have HNT : Hid (S.tells = false) := by
                show _ = _
                unfold BS.tells
                rw [HON.out, HLS.out.2.1, decide_eq_false (show ¬ nn ≤ on by omega), Bool.and_false]
              go_wp2_with fail
              go_quiet (fail)
              have HGQ : Hid (GbAt w H (wr.drewN nq) vT (.slice aN on cN) vL (.slice none 0 0) 0 ((⟨#[]⟩, 0) :: rts S) ((ordOf S.prods).map fun i => S.nons.getD (i - 1) ⟨#[]⟩) S.sides nn (fun i => symOf 1 (ordOf S.prods) (i + 1)) []) := HGB.out.kept (grown_drewN _ _)
              clear q0 q1 q2 q3 q4 b0 b1 b2 b3 b4 HGB
              generalize wr.drewN nq = W at *
              obtain ⟨r0, r1, r2, r3, r4⟩ := HGQ.out.resAt
              have rf := HGQ.out.resFree
              go_wp2_with fail
              refine bodyPost_ret (v := .tuple #[.agg #[.slice none 0 0, .slice none 0 0, .slice none 0 0, .int .i64 0, .slice none 0 0], .int .i64 1]) ?_ rfl ?_
              · exact results_rgram _ _ w.heap.size _ _ rfl rfl (set5_heap HGQ.out.res _ _ _ _ _) rfl
              · exact HN.out _ HNT.out (grown_new HGQ.out.grown (set5_grown _ _ _ _ _ _ _) (Nat.le_refl _))
            · have d1 : decide ((on : Int) < nn) = false := decide_eq_false (by omega)
              have d1' : decide (on < nn) = false := decide_eq_false hfew
              have HT : Hid (S.tells = true) := by
                show _ = _
                unfold BS.tells
                rw [HON.out, HLS.out.2.1, HLS.out.2.2.2, decide_eq_true (show nn ≤ on by omega), decide_eq_true (show 0 < pn by omega)]
                rfl
              have HMEM : Hid (∀ i, 1 ≤ i → i ≤ nn → i ∈ ordOf S.prods) := fun i h1 h2 => all_in HOUT.out.1 HOUT.out.2 (by rw [HON.out]; omega) h1 h2
              obtain ⟨j, hj1, hj2, hj3⟩ := first_ok HOK.out (by rw [HLS.out.2.2.2]; omega)
              rw [HLS.out.2.1] at hj3
              obtain ⟨f, rfl⟩ : ∃ f, j = f + 1 := ⟨j - 1, by omega⟩
              have hfn : f < nn := by omega
              have HFI : Hid (S.first = -((f : Int) + 1)) := by show _ = _; rw [hj1]; omega
              have HSTA : Hid ((tn : Int) + symOf 1 (ordOf S.prods) (f + 1) = S.gram.start) := by
                show _ = S.sym (-S.first).toNat
                rw [HFI.out, show (-(-((f : Int) + 1))).toNat = f + 1 by omega, ← HLS.out.1]
                exact sym_place (HMEM.out (f + 1) (by omega) (by omega))
              clear hj1 hj2 hj3
              have HSB : Hid (symOf 1 (ordOf S.prods) (f + 1) ≤ 65 ∧ 0 ≤ symOf 1 (ordOf S.prods) (f + 1)) := by
                unfold symOf
                rw [if_pos (HMEM.out (f + 1) (by omega) (by omega))]
                have := List.idxOf_lt_length_of_mem (HMEM.out (f + 1) (by omega) (by omega))
                rw [HON.out] at this
                exact ⟨by omega, by omega⟩
              go_wp2_with fail
              go_quiet (fail)
              have HGQ : Hid (GbAt w H (wr.drewN nq) vT (.slice aN on cN) vL (.slice none 0 0) 0 ((⟨#[]⟩, 0) :: rts S) ((ordOf S.prods).map fun i => S.nons.getD (i - 1) ⟨#[]⟩) S.sides nn (fun i => symOf 1 (ordOf S.prods) (i + 1)) []) := HGB.out.kept (grown_drewN _ _)
              clear q0 q1 q2 q3 q4 b0 b1 b2 b3 b4 HGB
              generalize wr.drewN nq = W at *
              obtain ⟨q0, q1, q2, q3, q4⟩ := HROW.out _ HGQ.out.grown
              obtain ⟨gp, ap, cp, rfl, hcells⟩ := HRL.out 0 (by omega)
              have u0 := (hcells W HGQ.out.grown).1
              rw [Nat.zero_mul] at u0
              have hs : (S.start = 0 ∧ (S.prods.getD 0 ⟨0, [], 0⟩).left = -((f : Int) + 1)) ∨ S.start = -((f : Int) + 1) := by
                have h9 := HFI.out
                unfold BS.first at h9
                by_cases hs0 : S.start = 0
                · rw [if_pos hs0] at h9; exact .inl ⟨hs0, h9⟩
                · rw [if_neg hs0] at h9; exact .inr h9
              clear hcells
              have e1 : (-1 : Int) - (-((f : Int) + 1)) = (f : Int) := by omega
              have d8 : (-((f : Int) + 1) == 0) = false := beq_eq_false_iff_ne.2 (by omega)
              have q0d : W.drew.cell? ⟨r, 0, none⟩ = some (.slice ta tn tc) := q0
              obtain ⟨pc0, _⟩ := HGQ.out.placeAt hfn
              have pc0d : W.drew.cell? ⟨w.heap.size + 1, f, none⟩ = some (.int .i64 (symOf 1 (ordOf S.prods) (f + 1))) := pc0
              have b3d : W.drew.cell? ⟨H + 1, 3, none⟩ = some (.int .i64 0) := HGQ.out.cells.2.2.2.1
              have f3d : W.drew.frozen? ⟨H + 1, 3, none⟩ = false := HGQ.out.free 3
              have HGS : Hid (GbAt w H (W.setCell ⟨H + 1, 3, none⟩ (.int .i64 ((tn : Int) + symOf 1 (ordOf S.prods) (f + 1)))).drew vT (.slice aN on cN) vL (.slice none 0 0) S.gram.start ((⟨#[]⟩, 0) :: rts S) ((ordOf S.prods).map fun i => S.nons.getD (i - 1) ⟨#[]⟩) S.sides nn (fun i => symOf 1 (ordOf S.prods) (i + 1)) []) := by
                rw [← HSTA.out]
                exact (HGQ.out.setStart (x := (tn : Int) + symOf 1 (ordOf S.prods) (f + 1))).kept (grown_drewN _ 1)
              have HPLA : Hid (∀ y : Nat, y < nn → (tn : Int) + symOf 1 (ordOf S.prods) (y + 1) = S.sym (y + 1) ∧ 0 ≤ symOf 1 (ordOf S.prods) (y + 1) ∧ symOf 1 (ordOf S.prods) (y + 1) ≤ 65) := fun y hy => by
                have hm := HMEM.out (y + 1) (by omega) (by omega)
                refine ⟨by rw [← HLS.out.1]; exact sym_place hm, ?_⟩
                unfold symOf
                rw [if_pos hm]
                have := List.idxOf_lt_length_of_mem hm
                rw [HON.out] at this
                exact ⟨by omega, by omega⟩
              obtain ⟨sx, hsx⟩ : ∃ sx, sx = symOf 1 (ordOf S.prods) (f + 1) := ⟨_, rfl⟩
              rw [← hsx] at pc0 pc0d HGS HSTA HSB
              have hsb := HSB.out
              clear hsx HSB HFI HGQ
              rcases hs with ⟨hs0, e9⟩ | e9
              · rw [hs0] at q4
                rw [e9] at u0
                clear hs0 e9
                go_wp2_with fail
                go_region
                go_wp2_with fail
                generalize (W.setCell ⟨H + 1, 3, none⟩ (.int .i64 ((tn : Int) + sx))).drew = X0 at *
                clear q0 q1 q2 q3 q4 u0 q0d pc0 pc0d b3d f3d d1 d1' d8 e1 hsb
                refine rg_loop (w := w) (H := H) (r := r) (gp := gp) (nn := nn) (tn := tn) (ln := ln) (pn := pn) (S := S) (vT := vT) (vN := .slice aN on cN) (vL := vL) (st := S.gram.start) (ts := (⟨#[]⟩, 0) :: rts S) (ns := (ordOf S.prods).map fun i => S.nons.getD (i - 1) ⟨#[]⟩) (lv := S.sides) (pl := fun i => symOf 1 (ordOf S.prods) (i + 1)) HOK.out HLS.out (fun Z hZ => ⟨(HROW.out Z hZ).1, (HROW.out Z hZ).2.2.2.1⟩) HRL.out HPLA.out HGS.out ?_
                clear HGS
                intro wz v u9 u10 u11 u12 u13 u122 u123 u124 u125 u126 u127 u128 u129 u130 u131 u132 u133 u134 u135 u136 u137 u138 u139 u140 u141 u142 u143 u144 u145 u146 u147 u148 u149 u150 u151 u152 u153 u154 u155 u156 u157 u158 u159 u160 u161 u162 u163 u164 u165 u166 u167 u168 u169 u170 u171 u172 u173 u174 u175 u176 u177 u178 u179 u180 u181 u182 u183 u184 u185 u186 u187 u188 u189 hG
                obtain ⟨aT, cT, ev⟩ := owns_slice hG.tr
                generalize ((⟨#[]⟩, 0) :: rts S : List (ByteArray × Int)).length = nT at ev
                subst ev
                obtain ⟨aL, cL, ev⟩ := owns_slice hG.lr
                generalize S.sides.length = nL at ev
                subst ev
                obtain ⟨_, _, pr2, _⟩ := hG.pr
                obtain ⟨aP, cP, ev⟩ := owns_slice pr2
                generalize S.gram.prods.length = nP at ev
                subst ev
                clear pr2
                obtain ⟨y0, y1, y2, y3, y4⟩ := hG.cells
                obtain ⟨r0, r1, r2, r3, r4⟩ := hG.resAt
                have rf := hG.resFree
                have HG := show Hid _ from hG
                clear hG
                go_wp2_with fail
                refine bodyPost_ret (v := .tuple #[.agg #[.slice aT nT cT, .slice aN on cN, .slice aL nL cL, .int .i64 S.gram.start, .slice aP nP cP], .int .i64 0]) ?_ rfl ?_
                · exact results_rgram _ _ w.heap.size _ _ rfl rfl (set5_heap HG.out.res _ _ _ _ _) rfl
                · exact HY.out _ _ _ _ _ HT.out (gb_new HG.out (set5_grown _ _ _ _ _ _ _)) (grown_new HG.out.grown (set5_grown _ _ _ _ _ _ _) (Nat.le_refl _))
              · rw [e9] at q4
                clear e9
                go_wp2_with fail
                go_region
                go_wp2_with fail
                generalize (W.setCell ⟨H + 1, 3, none⟩ (.int .i64 ((tn : Int) + sx))).drew = X0 at *
                clear q0 q1 q2 q3 q4 u0 q0d pc0 pc0d b3d f3d d1 d1' d8 e1 hsb
                refine rg_loop (w := w) (H := H) (r := r) (gp := gp) (nn := nn) (tn := tn) (ln := ln) (pn := pn) (S := S) (vT := vT) (vN := .slice aN on cN) (vL := vL) (st := S.gram.start) (ts := (⟨#[]⟩, 0) :: rts S) (ns := (ordOf S.prods).map fun i => S.nons.getD (i - 1) ⟨#[]⟩) (lv := S.sides) (pl := fun i => symOf 1 (ordOf S.prods) (i + 1)) HOK.out HLS.out (fun Z hZ => ⟨(HROW.out Z hZ).1, (HROW.out Z hZ).2.2.2.1⟩) HRL.out HPLA.out HGS.out ?_
                clear HGS
                intro wz v u9 u10 u11 u12 u13 u122 u123 u124 u125 u126 u127 u128 u129 u130 u131 u132 u133 u134 u135 u136 u137 u138 u139 u140 u141 u142 u143 u144 u145 u146 u147 u148 u149 u150 u151 u152 u153 u154 u155 u156 u157 u158 u159 u160 u161 u162 u163 u164 u165 u166 u167 u168 u169 u170 u171 u172 u173 u174 u175 u176 u177 u178 u179 u180 u181 u182 u183 u184 u185 u186 u187 u188 u189 hG
                obtain ⟨aT, cT, ev⟩ := owns_slice hG.tr
                generalize ((⟨#[]⟩, 0) :: rts S : List (ByteArray × Int)).length = nT at ev
                subst ev
                obtain ⟨aL, cL, ev⟩ := owns_slice hG.lr
                generalize S.sides.length = nL at ev
                subst ev
                obtain ⟨_, _, pr2, _⟩ := hG.pr
                obtain ⟨aP, cP, ev⟩ := owns_slice pr2
                generalize S.gram.prods.length = nP at ev
                subst ev
                clear pr2
                obtain ⟨y0, y1, y2, y3, y4⟩ := hG.cells
                obtain ⟨r0, r1, r2, r3, r4⟩ := hG.resAt
                have rf := hG.resFree
                have HG := show Hid _ from hG
                clear hG
                go_wp2_with fail
                refine bodyPost_ret (v := .tuple #[.agg #[.slice aT nT cT, .slice aN on cN, .slice aL nL cL, .int .i64 S.gram.start, .slice aP nP cP], .int .i64 0]) ?_ rfl ?_
                · exact results_rgram _ _ w.heap.size _ _ rfl rfl (set5_heap HG.out.res _ _ _ _ _) rfl
                · exact HY.out _ _ _ _ _ HT.out (gb_new HG.out (set5_grown _ _ _ _ _ _ _)) (grown_new HG.out.grown (set5_grown _ _ _ _ _ _ _) (Nat.le_refl _))

end Go.Proofs.Ytkbpnafahimeiaa
