/-
  Grade of the document's builder.
-/
import Derived.Test.YtkbpnafahimeiaaRbTerm
namespace Go.Proofs.Ytkbpnafahimeiaa
open Go.RowKit

attribute [local go_sem] Oper.semAt_some

theorem gradeGo_some {l : Int} : ∀ (hs : List Int) (ps : List PR), (∀ h ∈ hs, 0 ≤ h ∧ h < ps.length) → ∃ ps', gradeGo l ps hs = some ps' ∧ ps'.length = ps.length
  | [], ps, _ => ⟨ps, rfl, rfl⟩
  | a :: r, ps, h => by
    have hl : (setLev ps a.toNat l).length = ps.length := by simp [setLev]
    obtain ⟨ps', h1, h2⟩ := gradeGo_some (l := l) r (setLev ps a.toNat l) (fun x hx => by rw [hl]; exact h x (by simp [hx]))
    refine ⟨ps', ?_, by rw [h2, hl]⟩
    unfold gradeGo
    rw [if_pos (h a (by simp))]
    exact h1
theorem gradeGo_none {l : Int} : ∀ (hs : List Int) (ps : List PR), (∃ h ∈ hs, ¬ (0 ≤ h ∧ h < ps.length)) → gradeGo l ps hs = none
  | [], ps, h => by simp at h
  | a :: r, ps, h => by
    unfold gradeGo
    by_cases ha : 0 ≤ a ∧ a < ps.length
    · rw [if_pos ha]
      refine gradeGo_none r _ ?_
      obtain ⟨x, hx, hn⟩ := h
      rcases List.mem_cons.1 hx with e | hx
      · rw [e] at hn; exact absurd ha hn
      · exact ⟨x, hx, by rw [show (setLev ps a.toNat l).length = ps.length by simp [setLev]]; exact hn⟩
    · rw [if_neg ha]

/-- A rule's level, in its place. -/
theorem RCells.lev {w : World} {Q : Nat → Prop} {S : BS} {vt vn vl : Value} {r gr c i : Nat} {l : Int} (h : RCells w Q S vt vn vl (.slice (some ⟨gr, 0, none⟩) S.prods.length c)) (hr : RRow w r vt vn vl (.slice (some ⟨gr, 0, none⟩) S.prods.length c) S.start) (hup : ∀ g, w.heap.size ≤ g → Q g) (hQr : Q r) (hi : i < S.prods.length) :
    RAt (w.setCell ⟨gr, i * 3 + 2, none⟩ (.int .i64 l)) r { S with prods := setLev S.prods i l } Q ∧ GrownOff w (w.setCell ⟨gr, i * 3 + 2, none⟩ (.int .i64 l)) Q := by
  obtain ⟨rs, e1, e2, e3⟩ := h.rl
  have hst := grown_setCell (w := w) gr (i * 3 + 2) (.int .i64 l)
  have hst' : w.grownBy (w.setCell ⟨gr, i * 3 + 2, none⟩ (.int .i64 l)) (Value.slice (some ⟨gr, 0, none⟩) S.prods.length c).ownBlock := hst
  have hlen : (setLev S.prods i l).length = S.prods.length := by simp [setLev]
  refine ⟨⟨fun g hg => hup g (Nat.le_trans hst.size hg), hQr, vt, vn, vl, _, hr.keptOff hst' (hr.ne e2 (by decide)), ?_⟩, GrownOff.of_row hst' e2 (by decide) h.qr⟩
  refine ⟨h.tl.kept hst' (owns_ne h.tl e2 (by decide)), h.nl.kept hst' (owns_ne h.nl e2 (by decide)), h.ll.kept hst' (owns_ne h.ll e2 (by decide)), ⟨rs, by rw [hlen]; exact e1, ?_, fun j hj => ?_⟩, h.qt, h.qn, h.ql, h.qr⟩
  · show (w.setCell ⟨gr, i * 3 + 2, none⟩ (.int .i64 l)).ownsRow 0 100 3 (.slice (some ⟨gr, 0, none⟩) S.prods.length c) (setLev S.prods i l).length (((setLev S.prods i l).zip rs).flatMap fun x => prL x.1 x.2)
    rw [hlen, ← flat_set l S.prods rs i e1 hi]
    exact owns_set e2 _
  · have hj' : j < S.prods.length := by rw [← hlen]; exact hj
    have hri : ((setLev S.prods i l).getD j ⟨0, [], 0⟩).right = (S.prods.getD j ⟨0, [], 0⟩).right := by
      by_cases e : j = i
      · subst e; simp [setLev, List.getD, hj']
      · simp [setLev, List.getD, show ¬ i = j from fun x => e x.symm]
    show IntsIn _ (rs.getD j undef) ((setLev S.prods i l).getD j ⟨0, [], 0⟩).right ∧ _
    rw [hri]
    exact ⟨World.ownsRow.kept (e3 j hj').1 hst' (owns_ne (e3 j hj').1 e2 (by decide)), (e3 j hj').2⟩

theorem setLev_length (ps : List PR) (i : Nat) (l : Int) : (setLev ps i l).length = ps.length := by simp [setLev]
theorem gradeGo_len {l : Int} {hs : List Int} {ps ps' : List PR} (h : gradeGo l ps hs = some ps') : ps'.length = ps.length := (gradeGo_graded hs ps ps' (Graded.refl l ps) h).1

set_option maxRecDepth 100000 in
set_option maxHeartbeats 2000000 in
theorem rgrade_any (r : Nat) (S : BS) (l : Int) (a : Option Addr) (cap : Nat) (hs : List Int) (w : World) (Q : Nat → Prop) (hok : S.OK) (hR : RAt w r S Q) (ha : ∀ W, GrownOff w W Q → IntsAt W a hs) (hlen : hs.length ≤ 17592186044416) (A : Int × BS) (hA : A = S.grade l hs) :
    Calls Try.prog 61 #[.pointer (some ⟨r, 0, none⟩), .int .i64 l, .slice a hs.length cap] w fun e w' => e = .returned (.int .i64 A.1) ∧ RAt w' r A.2 Q ∧ GrownOff w w' Q := by
  have HRA : Hid (RAt w r S Q) := hR
  obtain ⟨hup, hQr, vt, vn, vl, vr, hrow, hc⟩ := hR
  have HI : Hid (∀ W, GrownOff w W Q → IntsAt W a hs) := ha
  have HA : Hid (A = S.grade l hs) := hA
  have hsd := hok.sides
  have hp96 := hok.prods
  obtain ⟨_, _, m2, m3, _⟩ := hrow.cells
  obtain ⟨la, lc, e2⟩ := owns_slice hc.ll
  obtain ⟨rs, _, hrl, _⟩ := hc.rl
  obtain ⟨pa, pc, e3⟩ := owns_slice hrl
  rw [e2] at m2
  rw [e3] at m3
  obtain ⟨ln, hln⟩ : ∃ ln, ln = S.sides.length := ⟨_, rfl⟩
  obtain ⟨pn, hpn⟩ : ∃ pn, pn = S.prods.length := ⟨_, rfl⟩
  obtain ⟨n, hn⟩ : ∃ n, n = hs.length := ⟨_, rfl⟩
  have HLN : Hid (S.sides.length = ln) := hln.symm
  have HPN : Hid (S.prods.length = pn) := hpn.symm
  have HN : Hid (hs.length = n) := hn.symm
  rw [← hln] at m2 hsd
  rw [← hpn] at m3 hp96
  rw [← hn] at hlen ⊢
  clear hc hrow hok hup hQr ha hA e2 e3 hrl hln hpn hn
  by_cases hl : 0 ≤ l ∧ l ≤ ln
  · have d1 : decide (l < 0) = false := decide_eq_false (by omega)
    have d2 : decide ((ln : Int) < l) = false := decide_eq_false (by omega)
    have HGR : Hid (∀ ps, gradeGo l S.prods hs = some ps → A = (0, { S with prods := ps })) := fun ps h => by rw [HA.out]; unfold BS.grade; rw [if_pos (by rw [HLN.out]; exact hl), h]
    have HGN : Hid (gradeGo l S.prods hs = none → A = (1, S)) := fun h => by rw [HA.out]; unfold BS.grade; rw [if_pos (by rw [HLN.out]; exact hl), h]
    clear HA hl
    go_enter Try.func61, Try.ntmps61
    go_wp2_with fail
    go_loopw [7] (fun i wr => ∃ k : Nat, k ≤ n ∧ i = .int .i64 k ∧ w.grownBy wr none ∧ ∀ j, j < k → 0 ≤ hs.getD j 0 ∧ hs.getD j 0 < pn) (fun i _ => n - (intOf i).toNat)
    case atStart => exact ⟨0, Nat.zero_le _, rfl, grown_refl _ _, fun j hj => by omega⟩
    case round =>
      obtain ⟨k, hk, rfl, hq, hall⟩ := hrel
      have HQ : Hid (GrownOff w wr Q ∧ w.grownBy wr none) := ⟨GrownOff.of_none hq, hq⟩
      have HAL : Hid (∀ j, j < k → 0 ≤ hs.getD j 0 ∧ hs.getD j 0 < pn) := hall
      clear hall hq
      have q2 := HQ.out.2.cell m2 (by simp)
      have q3 := HQ.out.2.cell m3 (by simp)
      by_cases hlt : k < n
      · have hkl : k < hs.length := by rw [HN.out]; exact hlt
        obtain ⟨lb, lo, rfl, hcs⟩ : ∃ b off, a = some ⟨b, off, none⟩ ∧ ∀ i, i < hs.length → wr.cell? ⟨b, off + i, none⟩ = some (.int .i64 (hs.getD i 0)) := by
          rcases HI.out wr HQ.out.1 with h | h
          · rw [h] at hkl; simp at hkl
          · exact h
        have c0 := hcs k hkl
        have HBAD : Hid (¬ (0 ≤ hs.getD k 0 ∧ hs.getD k 0 < pn) → A = (1, S)) := fun hb => HGN.out (gradeGo_none hs S.prods ⟨hs.getD k 0, by
          have e : hs.getD k 0 = hs[k] := by simp [List.getD, hkl]
          rw [e]; exact List.getElem_mem _, by rw [HPN.out]; exact hb⟩)
        have HST : Hid ((0 ≤ hs.getD k 0 ∧ hs.getD k 0 < pn) → ∀ j, j < k + 1 → 0 ≤ hs.getD j 0 ∧ hs.getD j 0 < pn) := fun hb j hj => by
          by_cases e : j = k
          · rw [e]; exact hb
          · exact HAL.out j (by omega)
        clear hcs hkl
        generalize hs.getD k 0 = h at *
        by_cases h0 : h < 0
        · have b1 : decide (h < 0) = true := decide_eq_true h0
          have hA3 := HBAD.out (by omega)
          subst hA3
          clear h0 HBAD HST
          go_wp2_with fail
          go_quiet (fail)
          go_wp2_with fail
          go_ret
          exact ⟨rfl, HRA.out.kept0 (grown_trans HQ.out.2 (grown_drewN _ _)), GrownOff.of_none (grown_trans HQ.out.2 (grown_drewN _ _))⟩
        · have b1 : decide (h < 0) = false := decide_eq_false h0
          by_cases h1 : (pn : Int) ≤ h
          · have b2 : decide ((pn : Int) ≤ h) = true := decide_eq_true h1
            have hA3 := HBAD.out (by omega)
            subst hA3
            clear h0 h1 HBAD HST
            go_wp2_with fail
            go_quiet (fail)
            go_wp2_with fail
            go_ret
            exact ⟨rfl, HRA.out.kept0 (grown_trans HQ.out.2 (grown_drewN _ _)), GrownOff.of_none (grown_trans HQ.out.2 (grown_drewN _ _))⟩
          · have b2 : decide ((pn : Int) ≤ h) = false := decide_eq_false h1
            have HS2 : Hid (∀ j, j < k + 1 → 0 ≤ hs.getD j 0 ∧ hs.getD j 0 < pn) := HST.out (by omega)
            clear h0 h1 HBAD HST
            go_wp2_with fail
            go_quiet (fail)
            have HQ2 : Hid (w.grownBy (wr.drewN nq) none) := grown_trans HQ.out.2 (grown_drewN _ _)
            clear q2 q3 c0
            generalize wr.drewN nq = W at *
            go_wp2_with fail
            go_roundw
            case rel => exact ⟨k + 1, by omega, by go_num, HQ2.out, HS2.out⟩
            case measure => simp [intOf]; omega
      · obtain rfl : n = k := by omega
        have HALL : Hid (∀ h ∈ hs, 0 ≤ h ∧ h < S.prods.length) := fun h hh => by
          obtain ⟨j, hj, e⟩ := List.getElem_of_mem hh
          have := HAL.out j (by rw [← HN.out]; exact hj)
          rw [show hs.getD j 0 = h by simp [List.getD, hj, e]] at this
          rw [HPN.out]; exact this
        have HR0 : Hid (RAt wr r S Q) := HRA.out.kept0 HQ.out.2
        have HG0 : Hid (GrownOff w wr Q) := HQ.out.1
        clear HQ HAL HGN q2 q3 m2 m3 HRA
        go_wp2_with fail
        go_loopw [8] (fun i wz => ∃ (k : Nat) (ps : List PR), k ≤ n ∧ i = .int .i64 k ∧ gradeGo l S.prods (hs.take k) = some ps ∧ RAt wz r { S with prods := ps } Q ∧ GrownOff w wz Q) (fun i _ => n - (intOf i).toNat)
        case atStart => exact ⟨0, S.prods, Nat.zero_le _, rfl, rfl, HR0.out, HG0.out⟩
        case round =>
          obtain ⟨k, ps, hk2, rfl, hgo, hR, hG⟩ := hrel
          have HGO : Hid (gradeGo l S.prods (hs.take k) = some ps) := hgo
          have HR : Hid (RAt wr r { S with prods := ps } Q) := hR
          have HG : Hid (GrownOff w wr Q) := hG
          clear hgo hR hG HR0 HG0
          by_cases hltk : k < n
          · have hkl : k < hs.length := by rw [HN.out]; exact hltk
            obtain ⟨lb, lo, rfl, hcs⟩ : ∃ b off, a = some ⟨b, off, none⟩ ∧ ∀ i, i < hs.length → wr.cell? ⟨b, off + i, none⟩ = some (.int .i64 (hs.getD i 0)) := by
              rcases HI.out wr HG.out with h | h
              · rw [h] at hkl; simp at hkl
              · exact h
            have c0 := hcs k hkl
            have hrange := HALL.out (hs.getD k 0) (by
              have e : hs.getD k 0 = hs[k] := by simp [List.getD, hkl]
              rw [e]; exact List.getElem_mem _)
            have HNXT : Hid (gradeGo l S.prods (hs.take (k + 1)) = gradeGo l ps [hs.getD k 0]) := by
              show _ = _
              rw [take_succ_at hkl]
              exact gradeGo_app _ _ _ _ HGO.out
            have hpl := gradeGo_len HGO.out
            rw [HPN.out] at hrange hpl
            clear hcs hkl
            generalize hs.getD k 0 = h at *
            obtain ⟨i, rfl⟩ : ∃ i : Nat, h = (i : Int) := ⟨h.toNat, by omega⟩
            have him : i < pn := by omega
            have HST : Hid (gradeGo l ps [(i : Int)] = some (setLev ps i l)) := by
              show _ = _
              unfold gradeGo
              rw [if_pos (by rw [hpl]; omega)]
              rfl
            have hRd : RAt wr.drew r { S with prods := ps } Q := HR.out.kept0 (grown_drewN wr 1)
            obtain ⟨hup, hQr, vt', vn', vl', vr', hrow, hcc⟩ := hRd
            obtain ⟨rs', _, hrl, _⟩ := hcc.rl
            obtain ⟨gr, cr, hvr⟩ : ∃ gr cr, vr' = .slice (some ⟨gr, 0, none⟩) ps.length cr := by
              rcases hrl.2 with ⟨_, h0⟩ | ⟨g, cap', _, hv, _⟩
              · have h0' : ps.length = 0 := h0
                omega
              · exact ⟨g, cap', hv⟩
            subst hvr
            have m3 := hrow.cells.2.2.2.1
            have HLEV := RCells.lev (i := i) (l := l) hcc hrow hup hQr (by show i < ps.length; omega)
            have HFIN : Hid (RAt (wr.drew.setCell ⟨gr, i * 3 + 2, none⟩ (.int .i64 l)) r { S with prods := setLev ps i l } Q ∧ GrownOff w (wr.drew.setCell ⟨gr, i * 3 + 2, none⟩ (.int .i64 l)) Q) := ⟨HLEV.1, HG.out.trans ((GrownOff.of_none (grown_drewN wr 1)).trans HLEV.2)⟩
            have hcell : ∃ v, wr.drew.cell? ⟨gr, i * 3 + 2, none⟩ = some v := by
              obtain ⟨u, _, h2⟩ := own_cell hrl (g := gr) rfl (k := i * 3 + 2) (by show i * 3 + 2 < ps.length * 3; omega)
              exact ⟨u, h2⟩
            obtain ⟨u, hcu⟩ := hcell
            have hfz : wr.drew.frozen? ⟨gr, i * 3 + 2, none⟩ = false := by
              rcases hrl.2 with ⟨hv, _⟩ | ⟨g, cap', cur, hv, _, hgb, _⟩
              · cases hv
              · simp only [Value.slice.injEq, Option.some.injEq, Addr.mk.injEq, and_true, true_and] at hv
                rw [hv.1]
                exact frozen_of_row wr.drew g _ _ _ hgb
            have c0' : wr.drew.cell? ⟨lb, lo + k, none⟩ = some (.int .i64 (i : Int)) := c0
            rw [hpl] at m3
            clear hrow hcc hrl HLEV HR HG hrange hup hQr
            go_wp2_with fail
            go_region
            all_goals go_wp2_with fail
            all_goals go_roundw
            all_goals first
              | exact ⟨k + 1, setLev ps i l, by omega, by go_num, by rw [HNXT.out]; exact HST.out, HFIN.out.1, HFIN.out.2⟩
              | (simp [intOf]; omega)
          · have hall : gradeGo l S.prods hs = some ps := by
              have h := HGO.out
              rwa [List.take_of_length_le (by rw [HN.out]; omega)] at h
            have hA3 := HGR.out ps hall
            subst hA3
            clear hall HGR
            go_wp2_with fail
            go_ret
            exact ⟨rfl, HR.out, HG.out⟩
  · have hA3 : A = (1, S) := by rw [HA.out]; unfold BS.grade; rw [if_neg (by rw [HLN.out]; exact hl)]
    subst hA3
    clear HA
    by_cases h0 : l < 0
    · have d1 : decide (l < 0) = true := decide_eq_true h0
      clear h0 hl
      go_enter Try.func61, Try.ntmps61
      go_wp2_with fail
      go_ret
      exact ⟨rfl, HRA.out, GrownOff.refl _ _⟩
    · have d1 : decide (l < 0) = false := decide_eq_false h0
      have d2 : decide ((ln : Int) < l) = true := decide_eq_true (by omega)
      clear h0 hl
      go_enter Try.func61, Try.ntmps61
      go_wp2_with fail
      go_ret
      exact ⟨rfl, HRA.out, GrownOff.refl _ _⟩

end Go.Proofs.Ytkbpnafahimeiaa
