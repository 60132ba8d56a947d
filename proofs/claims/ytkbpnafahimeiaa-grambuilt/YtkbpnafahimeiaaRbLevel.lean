/-
  Level of the document's builder, walked.
-/
import Derived.Test.YtkbpnafahimeiaaRbLevelM
namespace Go.Proofs.Ytkbpnafahimeiaa
open Go.RowKit

attribute [local go_sem] Oper.semAt_some

set_option maxRecDepth 100000 in
set_option maxHeartbeats 4000000 in
theorem rlevel_good (r : Nat) (S : BS) (side : Int) (a : Option Addr) (cap : Nat) (hs : List Int) (w : World) (Q : Nat → Prop) (hok : S.OK) (hR : RAt w r S Q) (hsd : 1 ≤ side ∧ side ≤ 3) (hne : hs ≠ []) (ha : ∀ W, GrownOff w W Q → IntsAt W a hs) (hlen : hs.length ≤ 17592186044416) (A : Int × Int × BS) (hA : A = S.level side hs) :
    Calls Try.prog 58 #[.pointer (some ⟨r, 0, none⟩), .int .i64 side, .slice a hs.length cap] w fun e w' => e = .returned (.tuple #[.int .i64 A.1, .int .i64 A.2.1]) ∧ RAt w' r A.2.2 Q ∧ GrownOff w w' Q := by
  have HRA : Hid (RAt w r S Q) := hR
  have HI : Hid (∀ W, GrownOff w W Q → IntsAt W a hs) := ha
  have HNOT : Hid (∀ j, j < hs.length → ¬ levAsk S hs j → A = (0, 1, S)) := fun j hj hb => by rw [hA]; exact level_not fun h => hb (h j hj)
  have HDONE : Hid ((∀ j, j < hs.length → levAsk S hs j) → A = ((S.sides.length : Int) + 1, 0, S.tolds side ((S.sides.length : Int) + 1) hs hs.length)) := fun h => by rw [hA]; exact level_done hsd hne h
  have hsy := hok.syms
  have hs64 := hok.sides
  have hpos : 0 < hs.length := List.length_pos_iff.2 hne
  obtain ⟨hup, hQr, vt, vn, vl, vr, hrow, hc⟩ := hR
  obtain ⟨m0, _, m2, _, _⟩ := hrow.cells
  obtain ⟨ta, tc, e0⟩ := owns_slice hc.tl
  obtain ⟨la, lc, e2⟩ := owns_slice hc.ll
  have HTA : Hid (TermsAt w ta (rts S)) := (owns_termsAt (by rw [← e0]; exact hc.tl) (rts_length S).symm).1
  rw [e0] at m0
  rw [e2] at m2
  obtain ⟨tn, htn⟩ : ∃ tn, tn = S.terms.length := ⟨_, rfl⟩
  obtain ⟨ln, hln⟩ : ∃ ln, ln = S.sides.length := ⟨_, rfl⟩
  obtain ⟨n, hn⟩ : ∃ n, n = hs.length := ⟨_, rfl⟩
  have HTN : Hid (S.terms.length = tn) := htn.symm
  have HLN : Hid (S.sides.length = ln) := hln.symm
  have HN : Hid (hs.length = n) := hn.symm
  rw [← htn] at m0 hsy
  rw [← hln] at m2 hs64
  rw [← hn] at hlen hpos ⊢
  have d1 : decide (side < 1) = false := decide_eq_false (by omega)
  have d2 : decide (3 < side) = false := decide_eq_false (by omega)
  have d3 : ((n : Int) == 0) = false := beq_eq_false_iff_ne.2 (by omega)
  have HHH : Hid (RRow w r vt vn vl vr S.start ∧ RCells w Q S vt vn vl vr ∧ (∀ g, w.heap.size ≤ g → Q g) ∧ Q r) := ⟨hrow, hc, hup, hQr⟩
  clear hc hrow hok hup hQr ha hA e0 e2 htn hln hn hsd hne
  go_enter Try.func58, Try.ntmps58
  go_wp2_with fail
  go_loopg [8] n (fun gk i wr => ∃ k : Nat, k ≤ n ∧ gk = n - k ∧ i = .int .i64 k ∧ w.grownBy wr none ∧ ∀ j, j < k → levAsk S hs j)
  case atStart => exact ⟨0, Nat.zero_le _, rfl, rfl, grown_refl _ _, fun j hj => by omega⟩
  case round =>
    obtain ⟨k, hk, hgk, rfl, hg, hall⟩ := hrel
    have HG : Hid (w.grownBy wr none) := hg
    have HAL : Hid (∀ j, j < k → levAsk S hs j) := hall
    have HGK : Hid (gk = n - k) := hgk
    clear hg hall hgk
    by_cases hlt : k < n
    · have hkl : k < hs.length := by rw [HN.out]; exact hlt
      have HBAD : Hid (¬ levAsk S hs k → A = (0, 1, S)) := HNOT.out k hkl
      obtain ⟨lb, lo, rfl, hcs⟩ : ∃ b off, a = some ⟨b, off, none⟩ ∧ ∀ i, i < hs.length → w.cell? ⟨b, off + i, none⟩ = some (.int .i64 (hs.getD i 0)) := by
        rcases HI.out w (GrownOff.refl _ _) with h | h
        · rw [h] at hkl; simp at hkl
        · exact h
      have HCS : Hid (∀ i, i < n → ∀ W, w.grownBy W none → W.cell? ⟨lb, lo + i, none⟩ = some (.int .i64 (hs.getD i 0))) := fun i hi W hW => hW.cell (hcs i (by rw [HN.out]; exact hi)) (by simp)
      clear hcs
      have c0 := HCS.out k hlt wr HG.out
      have HT := RAt.isT (HRA.out.kept0 HG.out) (hs.getD k 0)
      have HASK : Hid (levAsk S hs k ↔ S.isT (hs.getD k 0) = true ∧ S.lev (hs.getD k 0).toNat = 0 ∧ ∀ m, m < k → hs.getD m 0 ≠ hs.getD k 0) := Iff.rfl
      have HUP : Hid (levAsk S hs k → ∀ j, j < k + 1 → levAsk S hs j) := fun h j hj => by
        by_cases e : j = k
        · rw [e]; exact h
        · exact HAL.out j (by omega)
      obtain ⟨h, hh⟩ : ∃ h, h = hs.getD k 0 := ⟨_, rfl⟩
      have HHK : Hid (hs.getD k 0 = h) := hh.symm
      rw [← hh] at c0 HT HASK
      clear hh hkl
      cases hb : S.isT h with
      | false =>
        rw [hb] at HT
        have hA3 := HBAD.out (fun h1 => by have h2 := (HASK.out.1 h1).1; rw [hb] at h2; cases h2)
        subst hA3
        clear hb HASK
        go_wp2_with (go_at_call 88; refine HT.mono ?_; rintro e w' ⟨rfl, rfl⟩)
        go_ret2
        exact ⟨rfl, HRA.out.kept0 HG.out, GrownOff.of_none HG.out⟩
      | true =>
        rw [hb] at HT
        have hbt := isT_iff.1 hb
        rw [HTN.out] at hbt
        obtain ⟨i, rfl⟩ : ∃ i : Nat, h = (i : Int) + 1 := ⟨(h - 1).toNat, by omega⟩
        have hitn : i < tn := by omega
        have his : i < S.terms.length := by rw [HTN.out]; exact hitn
        obtain ⟨tb, tof, rfl, hts⟩ : ∃ b off, ta = some ⟨b, off, none⟩ ∧ ∀ i, i < (rts S).length → wr.cell? ⟨b, off + i * 2, none⟩ = some (.string ((rts S).getD i (⟨#[]⟩, 0)).1) ∧ wr.cell? ⟨b, off + i * 2 + 1, none⟩ = some (.int .i64 ((rts S).getD i (⟨#[]⟩, 0)).2) := by
          rcases HTA.out.kept HG.out with h | h
          · have := rts_length S; rw [h] at this; simp at this; omega
          · exact h
        have c1 := (hts i (by rw [rts_length]; exact his)).2
        rw [rts_at S his] at c1
        have HLV : Hid (S.lev ((i : Int) + 1).toNat = S.lev (i + 1)) := by show _ = _; congr 1
        have q0 := HG.out.cell m0 (by simp)
        have HBT : Hid (S.isT ((i : Int) + 1) = true) := hb
        have e1 : ((i : Int) + 1) - 1 = (i : Int) := by omega
        clear hts his hb hbt
        generalize hlev : S.lev (i + 1) = lx at *
        clear hlev
        by_cases hl0 : lx = 0
        · have b1 : (lx == 0) = true := beq_iff_eq.2 hl0
          have b2 : (lx != 0) = false := by rw [bne, b1]; rfl
          have HL0 : Hid (S.lev ((i : Int) + 1).toNat = 0) := by show _ = _; rw [HLV.out]; exact hl0
          clear hl0 HLV
          go_wp2_with (go_at_call 88; refine HT.mono ?_; rintro e w' ⟨rfl, rfl⟩)
          go_quiet (fail)
          have HG2 : Hid (w.grownBy (w'.drewN nq) none) := grown_trans HG.out (grown_drewN _ _)
          clear c0 c1 q0 HG HT
          generalize w'.drewN nq = W at *
          go_wp2_with fail
          go_loopg [10] k (fun gx i2 wz => ∃ x : Nat, x ≤ k ∧ gx = k - x ∧ i2 = .int .i64 x ∧ w.grownBy wz none ∧ ∀ m, m < x → hs.getD m 0 ≠ (i : Int) + 1)
          case atStart => exact ⟨0, Nat.zero_le _, rfl, rfl, HG2.out, fun m hm => by omega⟩
          case round =>
            obtain ⟨x, hx, hgx, rfl, hg, hall⟩ := hrel
            have HG : Hid (w.grownBy wr none) := hg
            have HY : Hid (∀ m, m < x → hs.getD m 0 ≠ (i : Int) + 1) := hall
            have HGX : Hid (gk = k - x) := hgx
            clear hg hall hgx HG2
            by_cases hlx : x < k
            · have c0 := HCS.out x (by omega) wr HG.out
              have c1 := HCS.out k hlt wr HG.out
              rw [HHK.out] at c1
              have HNO : Hid (hs.getD x 0 = (i : Int) + 1 → A = (0, 1, S)) := fun e => HBAD.out fun h1 => (HASK.out.1 h1).2.2 x hlx e
              have HST : Hid (hs.getD x 0 ≠ (i : Int) + 1 → ∀ m, m < x + 1 → hs.getD m 0 ≠ (i : Int) + 1) := fun hne m hm => by
                by_cases e : m = x
                · rw [e]; exact hne
                · exact HY.out m (by omega)
              generalize hs.getD x 0 = y at *
              by_cases he : y = (i : Int) + 1
              · have b3 : (y == (i : Int) + 1) = true := beq_iff_eq.2 he
                have hA3 := HNO.out he
                subst hA3
                clear he HNO HST HASK
                go_wp2_with fail
                go_quiet (fail)
                go_wp2_with fail
                go_ret2
                exact ⟨rfl, HRA.out.kept0 (grown_trans HG.out (grown_drewN _ _)), GrownOff.of_none (grown_trans HG.out (grown_drewN _ _))⟩
              · have b3 : (y == (i : Int) + 1) = false := beq_eq_false_iff_ne.2 he
                have HS2 : Hid (∀ m, m < x + 1 → hs.getD m 0 ≠ (i : Int) + 1) := HST.out he
                clear he HNO HST
                go_wp2_with fail
                go_quiet (fail)
                have HG3 : Hid (w.grownBy (wr.drewN nq) none) := grown_trans HG.out (grown_drewN _ _)
                clear c0 c1 HG
                generalize wr.drewN nq = W2 at *
                go_wp2_with fail
                go_roundg (k - (x + 1))
                case measure => have := HGX.out; omega
                case rel => exact ⟨x + 1, by omega, rfl, by go_num, HG3.out, HS2.out⟩
            · obtain rfl : k = x := by omega
              have HAL2 : Hid (∀ j, j < k + 1 → levAsk S hs j) := HUP.out (HASK.out.2 ⟨HBT.out, HL0.out, HY.out⟩)
              go_wp2_with fail
              go_roundg (n - (k + 1))
              case measure => have := HGK.out; omega
              case rel => exact ⟨k + 1, by omega, rfl, by go_num, HG.out, HAL2.out⟩
        · have b1 : (lx == 0) = false := beq_eq_false_iff_ne.2 hl0
          have b2 : (lx != 0) = true := by rw [bne, b1]; rfl
          have hA3 := HBAD.out (fun h1 => hl0 (by have h2 := (HASK.out.1 h1).2.1; rw [HLV.out] at h2; exact h2))
          subst hA3
          clear hl0 HASK HLV
          go_wp2_with (go_at_call 88; refine HT.mono ?_; rintro e w' ⟨rfl, rfl⟩)
          go_quiet (fail)
          go_wp2_with fail
          go_ret2
          exact ⟨rfl, HRA.out.kept0 (grown_trans HG.out (grown_drewN _ _)), GrownOff.of_none (grown_trans HG.out (grown_drewN _ _))⟩
    · obtain rfl : n = k := by omega
      have HALL : Hid (∀ j, j < hs.length → levAsk S hs j) := by show ∀ j, _; rw [HN.out]; exact HAL.out
      have hA3 := HDONE.out HALL.out
      rw [HLN.out] at hA3
      subst hA3
      obtain ⟨i0, hi, hz0, hz1, hz2⟩ := info_parts infoInt
      have HR2 : Hid (RRow wr r vt vn vl vr S.start) := HHH.out.1.keptOff HG.out (by simp)
      have HC2 : Hid (RCells wr Q S vt vn vl vr) := HHH.out.2.1.kept0 HG.out
      have HUP2 : Hid (∀ g, wr.heap.size ≤ g → Q g) := fun g hg => HHH.out.2.2.1 g (Nat.le_trans HG.out.size hg)
      have q2 := HG.out.cell m2 (by simp)
      have HE2 : Hid (vl = .slice la ln lc) := by
        have h1 := HR2.out.cells.2.2.1
        rw [q2] at h1
        exact (Option.some.inj h1).symm
      clear HNOT HDONE HAL HTA m0 m2 d1 d2
      go_wp2_with (at_builtin; refine wpList_append_lies _ rfl _ _ 30 rfl 0 3 i0 (.int .i64 0) 1 8 Try.underlying30 hi hz0 hz1 hz2 rfl (by decide) (.slice la ln lc) ln (S.sides.map (Value.int .i64)) rfl (by have h9 := HC2.out.ll; rw [HE2.out, HLN.out] at h9; exact h9.alloc _) ⟨wr.heap.size, 0, none⟩ 1 1 [.int .i64 side] rfl rfl (cell_one_new _ _ _) (ints_oneCell' [side]) (by omega) (by unfold maxLen; omega) (by omega) (Nat.zero_le _) _ rfl ?_)
      intro g4 c4 w4 hown4 hg4 hloc4 hlt4
      have hA := World.grownBy_alloc wr (.cells #[.int .i64 side] 3) none
      have hRA := HR2.out.keptOff hA (by simp)
      have hCA := HC2.out.kept0 hA
      have hg4' : (wr.alloc (.cells #[.int .i64 side] 3)).grownBy w4 vl.ownBlock := by rw [HE2.out]; exact hg4
      have hR4 : RRow w4 r vt vn vl vr S.start := hRA.keptOff hg4' (hRA.ne hCA.ll (by decide))
      have HFIN : Hid (RAt (w4.setCell ⟨r, 2, none⟩ (.slice (some ⟨g4, 0, none⟩) (ln + 1) c4)) r (S.tolds side ((ln : Int) + 1) hs 0) Q ∧ GrownOff w (w4.setCell ⟨r, 2, none⟩ (.slice (some ⟨g4, 0, none⟩) (ln + 1) c4)) Q) := by
        have := RCells.addL (side := side) (g4 := g4) (c4 := c4) hCA hRA (fun g hg => HUP2.out g (Nat.le_trans hA.size hg)) HHH.out.2.2.2 hg4' (by rw [HLN.out]; exact hown4) (by
          rcases hloc4 with h | h
          · left; rw [HE2.out]; exact h
          · right; rw [h]; simp)
        rw [HLN.out] at this
        rw [tolds_zero]
        exact ⟨this.1, (GrownOff.of_none HG.out).trans ((GrownOff.of_none hA).trans this.2)⟩
      have p0 := hR4.cells.2.2.1
      have p1 := hR4.free 2
      clear hA hRA hCA hg4' hR4 hown4 hg4 hloc4 hlt4 HC2 HR2 HUP2 q2 HG HE2 HRA HHH
      go_wp2_with fail
      generalize w4.setCell ⟨r, 2, none⟩ (.slice (some ⟨g4, 0, none⟩) (ln + 1) c4) = W0 at *
      clear p0 p1
      go_loopw [11] (fun i wz => ∃ k : Nat, k ≤ n ∧ i = .int .i64 k ∧ RAt wz r (S.tolds side ((ln : Int) + 1) hs k) Q ∧ GrownOff w wz Q) (fun i _ => n - (intOf i).toNat)
      case atStart => exact ⟨0, Nat.zero_le _, rfl, HFIN.out.1, HFIN.out.2⟩
      case round =>
        obtain ⟨k, hk2, rfl, hR, hG⟩ := hrel
        have HR : Hid (RAt wr r (S.tolds side ((ln : Int) + 1) hs k) Q) := hR
        have HG : Hid (GrownOff w wr Q) := hG
        clear hR hG HFIN
        by_cases hltk : k < n
        · have hkl : k < hs.length := by rw [HN.out]; exact hltk
          obtain ⟨lb, lo, rfl, hcs⟩ : ∃ b off, a = some ⟨b, off, none⟩ ∧ ∀ i, i < hs.length → wr.cell? ⟨b, off + i, none⟩ = some (.int .i64 (hs.getD i 0)) := by
            rcases HI.out wr HG.out with h | h
            · rw [h] at hkl; simp at hkl
            · exact h
          have c0 : wr.drew.cell? ⟨lb, lo + k, none⟩ = some (.int .i64 (hs.getD k 0)) := hcs k hkl
          have hbt := isT_iff.1 (HALL.out k hkl).1
          rw [HTN.out] at hbt
          have HSUCC : Hid (0 ≤ hs.getD k 0 → S.tolds side ((ln : Int) + 1) hs (k + 1) = { S.tolds side ((ln : Int) + 1) hs k with lev := updL (S.tolds side ((ln : Int) + 1) hs k).lev (hs.getD k 0).toNat ((ln : Int) + 1) }) := fun h0 => by
            show ({ S with lev := levTold S ((ln : Int) + 1) hs (k + 1), sides := S.sides ++ [side] } : BS) = _
            rw [levTold_succ hkl h0]
            rfl
          clear hcs hkl
          generalize hs.getD k 0 = h at *
          obtain ⟨i, rfl⟩ : ∃ i : Nat, h = (i : Int) + 1 := ⟨(h - 1).toNat, by omega⟩
          have hitn : i < tn := by omega
          have e1 : ((i : Int) + 1) - 1 = (i : Int) := by omega
          have hRd : RAt wr.drew r (S.tolds side ((ln : Int) + 1) hs k) Q := HR.out.kept0 (grown_drewN wr 1)
          obtain ⟨hup, hQr, vt', vn', vl', vr', hrow, hcc⟩ := hRd
          have htl : (S.tolds side ((ln : Int) + 1) hs k).terms.length = tn := HTN.out
          have hsl : (S.tolds side ((ln : Int) + 1) hs k).sides.length = ln + 1 := by show (S.sides ++ [side]).length = ln + 1; rw [List.length_append, HLN.out]; rfl
          obtain ⟨gt, ct, hvt⟩ : ∃ gt ct, vt' = .slice (some ⟨gt, 0, none⟩) (S.tolds side ((ln : Int) + 1) hs k).terms.length ct := by
            rcases hcc.tl.2 with ⟨_, h0⟩ | ⟨g, cap', _, hv, _⟩
            · omega
            · exact ⟨g, cap', hv⟩
          obtain ⟨la', lc', hvl⟩ := owns_slice hcc.ll
          subst hvt hvl
          obtain ⟨m0, _, m2, _, _⟩ := hrow.cells
          have HLEV := RCells.levT (i := i) (K := (ln : Int) + 1) hcc hrow hup hQr (by rw [htl]; exact hitn)
          have HFIN : Hid (RAt (wr.drew.setCell ⟨gt, i * 2 + 1, none⟩ (.int .i64 ((ln : Int) + 1))) r (S.tolds side ((ln : Int) + 1) hs (k + 1)) Q ∧ GrownOff w (wr.drew.setCell ⟨gt, i * 2 + 1, none⟩ (.int .i64 ((ln : Int) + 1))) Q) := by
            rw [HSUCC.out (by omega)]
            have e3 : ((i : Int) + 1).toNat = i + 1 := by omega
            rw [e3]
            exact ⟨HLEV.1, HG.out.trans ((GrownOff.of_none (grown_drewN wr 1)).trans HLEV.2)⟩
          obtain ⟨u, hcu⟩ : ∃ v, wr.drew.cell? ⟨gt, i * 2 + 1, none⟩ = some v := by
            have hlen2 := hcc.tl.1
            have hcs := World.ownsRow.cells hcc.tl (g := gt) rfl (i * 2 + 1) _ (List.getElem?_eq_getElem (by rw [hlen2, htl]; omega))
            rw [Addr.add_mid, Nat.zero_add] at hcs
            exact ⟨_, hcs⟩
          have hfz : wr.drew.frozen? ⟨gt, i * 2 + 1, none⟩ = false := by
            rcases hcc.tl.2 with ⟨hv, _⟩ | ⟨g, cap', cur, hv, _, hgb, _⟩
            · cases hv
            · simp only [Value.slice.injEq, Option.some.injEq, Addr.mk.injEq, and_true, true_and] at hv
              rw [hv.1]
              exact frozen_of_row wr.drew g _ _ _ hgb
          rw [htl] at m0
          rw [hsl] at m2
          clear hrow hcc HLEV HR HG hup hQr hbt HSUCC htl hsl
          go_wp2_with fail
          go_region
          all_goals go_wp2_with fail
          all_goals go_roundw
          all_goals first
            | exact ⟨k + 1, by omega, by go_num, HFIN.out.1, HFIN.out.2⟩
            | (simp [intOf]; omega)
        · obtain rfl : n = k := by omega
          have hRL : (S.tolds side ((ln : Int) + 1) hs n).sides.length = ln + 1 := by show (S.sides ++ [side]).length = ln + 1; rw [List.length_append, HLN.out]; rfl
          have hR0 := HR.out
          obtain ⟨hup, hQr, vt', vn', vl', vr', hrow, hcc⟩ := hR0
          obtain ⟨la', lc', hvl⟩ := owns_slice hcc.ll
          rw [hRL] at hvl
          have m2 := hrow.cells.2.2.1
          rw [hvl] at m2
          clear hrow hcc hup hQr hvl hRL
          go_wp2_with fail
          go_ret2
          exact ⟨by first | rfl | go_num, by rw [HN.out]; exact HR.out, HG.out⟩

set_option maxRecDepth 100000 in
theorem rlevel_bad (r : Nat) (side : Int) (a : Option Addr) (cap n : Nat) (w : World) (h : ¬ (1 ≤ side ∧ side ≤ 3) ∨ n = 0) :
    Calls Try.prog 58 #[.pointer (some ⟨r, 0, none⟩), .int .i64 side, .slice a n cap] w fun e w' => e = .returned (.tuple #[.int .i64 0, .int .i64 1]) ∧ w' = w := by
  by_cases h1 : side < 1
  · have d1 : decide (side < 1) = true := decide_eq_true h1
    clear h h1
    go_enter Try.func58, Try.ntmps58
    go_wp2_with fail
    go_ret2
    exact ⟨rfl, rfl⟩
  · have d1 : decide (side < 1) = false := decide_eq_false h1
    by_cases h3 : 3 < side
    · have d3 : decide (3 < side) = true := decide_eq_true h3
      clear h h1 h3
      go_enter Try.func58, Try.ntmps58
      go_wp2_with fail
      go_ret2
      exact ⟨rfl, rfl⟩
    · have d3 : decide (3 < side) = false := decide_eq_false h3
      have d4 : ((n : Int) == 0) = true := beq_iff_eq.2 (by omega)
      clear h h1 h3
      go_enter Try.func58, Try.ntmps58
      go_wp2_with fail
      go_ret2
      exact ⟨rfl, rfl⟩
theorem rlevel_any (r : Nat) (S : BS) (side : Int) (a : Option Addr) (cap : Nat) (hs : List Int) (w : World) (Q : Nat → Prop) (hok : S.OK) (hR : RAt w r S Q) (ha : ∀ W, GrownOff w W Q → IntsAt W a hs) (hlen : hs.length ≤ 17592186044416) :
    Calls Try.prog 58 #[.pointer (some ⟨r, 0, none⟩), .int .i64 side, .slice a hs.length cap] w fun e w' => e = .returned (.tuple #[.int .i64 (S.level side hs).1, .int .i64 (S.level side hs).2.1]) ∧ RAt w' r (S.level side hs).2.2 Q ∧ GrownOff w w' Q := by
  by_cases h : (1 ≤ side ∧ side ≤ 3) ∧ hs ≠ []
  · exact rlevel_good r S side a cap hs w Q hok hR h.1 h.2 ha hlen _ rfl
  · have e : S.level side hs = (0, 1, S) := by unfold BS.level; rw [if_neg h]
    rw [e]
    refine (rlevel_bad r side a cap hs.length w ?_).mono ?_
    · by_cases h1 : 1 ≤ side ∧ side ≤ 3
      · right
        have : hs = [] := by
          by_cases h2 : hs = []
          · exact h2
          · exact absurd ⟨h1, h2⟩ h
        rw [this]; rfl
      · exact .inl h1
    · rintro e w' ⟨he, rfl⟩
      exact ⟨he, hR, GrownOff.refl _ _⟩

end Go.Proofs.Ytkbpnafahimeiaa
