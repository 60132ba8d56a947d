/-
  Rule of the document's builder, walked.
-/
import Derived.Test.YtkbpnafahimeiaaRbRuleM
namespace Go.Proofs.Ytkbpnafahimeiaa
open Go.RowKit Go.Maps Go.Shelf

attribute [local go_sem] Oper.semAt_some

set_option maxRecDepth 100000 in
set_option maxHeartbeats 8000000 in
theorem rrule_any (r : Nat) (S : BS) (left : Int) (a : Option Addr) (cap : Nat) (hs : List Int) (w : World) (Q : Nat → Prop) (hok : S.OK) (hR : RAt w r S Q) (ha : IntsAt w a hs) (hlen : hs.length ≤ 17592186044416) (A : Int × Int × BS) (hA : A = S.rule left hs) :
    Calls Try.prog 59 #[.pointer (some ⟨r, 0, none⟩), .int .i64 left, .slice a hs.length cap] w fun e w' => e = .returned (.tuple #[.int .i64 A.1, .int .i64 A.2.1]) ∧ RAt w' r A.2.2 Q ∧ GrownOff w w' Q := by
  have HRA : Hid (RAt w r S Q) := hR
  have HI : Hid (IntsAt w a hs) := ha
  have HOK : Hid S.OK := hok
  have HNO : Hid (S.isN left = false → A = (0, 1, S)) := fun h => by rw [hA]; unfold BS.rule; rw [if_neg (fun x => by rw [h] at x; cases x.1)]
  have HNG : Hid (S.good hs = false → A = (0, 1, S)) := fun h => by rw [hA]; unfold BS.rule; rw [if_neg (fun x => by rw [h] at x; cases x.2)]
  have HFU : Hid (S.isN left = true → S.good hs = true → 96 ≤ S.prods.length → A = (0, 11, S)) := fun h1 h2 h3 => by rw [hA]; unfold BS.rule; rw [if_pos ⟨h1, h2⟩, if_pos h3]
  have HDO : Hid (S.isN left = true → S.good hs = true → ¬ 96 ≤ S.prods.length → A = ((S.prods.length : Int), 0, S.addP ⟨left, hs, S.levOf hs⟩)) := fun h1 h2 h3 => by rw [hA]; unfold BS.rule; rw [if_pos ⟨h1, h2⟩, if_neg h3]
  have hsy := hok.syms
  have hp96 := hok.prods
  obtain ⟨hup, hQr, vt, vn, vl, vr, hrow, hc⟩ := hR
  obtain ⟨m0, _, _, m3, _⟩ := hrow.cells
  obtain ⟨ta, tc, e0⟩ := owns_slice hc.tl
  obtain ⟨rs, hrs1, hrs2, hrs3⟩ := hc.rl
  obtain ⟨pa, pc, e3⟩ := owns_slice hrs2
  have HTA : Hid (TermsAt w ta (rts S)) := (owns_termsAt (by rw [← e0]; exact hc.tl) (rts_length S).symm).1
  rw [e0] at m0
  rw [e3] at m3
  obtain ⟨tn, htn⟩ : ∃ tn, tn = S.terms.length := ⟨_, rfl⟩
  obtain ⟨pn, hpn⟩ : ∃ pn, pn = S.prods.length := ⟨_, rfl⟩
  obtain ⟨n, hn⟩ : ∃ n, n = hs.length := ⟨_, rfl⟩
  have HTN : Hid (S.terms.length = tn) := htn.symm
  have HPN : Hid (S.prods.length = pn) := hpn.symm
  have HN : Hid (hs.length = n) := hn.symm
  have HE3 : Hid (vr = .slice pa pn pc) := by show _ = _; rw [hpn]; exact e3
  rw [← htn] at m0 hsy
  rw [← hpn] at m3 hp96
  rw [← hn] at hlen ⊢
  have HHH : Hid (RRow w r vt vn vl vr S.start ∧ RCells w Q S vt vn vl vr ∧ (∀ g, w.heap.size ≤ g → Q g) ∧ Q r) := ⟨hrow, hc, hup, hQr⟩
  have HRS : Hid (rs.length = S.prods.length ∧ w.ownsRow 0 100 3 vr S.prods.length ((S.prods.zip rs).flatMap fun x => prL x.1 x.2) ∧ ∀ i, i < S.prods.length → IntsIn w (rs.getD i undef) (S.prods.getD i ⟨0, [], 0⟩).right ∧ ∀ g, (rs.getD i undef).ownBlock = some g → Q g ∧ vl.ownBlock ≠ some g) := ⟨hrs1, hrs2, hrs3⟩
  have HL0 := RAt.isN hok HRA.out left
  clear hc hrow hok hup hQr ha hA e0 e3 htn hpn hn hrs1 hrs2 hrs3
  cases hnl : S.isN left with
  | false =>
    rw [hnl] at HL0
    have hA3 := HNO.out hnl
    subst hA3
    clear hnl HNO HNG HFU HDO
    go_enter Try.func59, Try.ntmps59
    go_wp2_with (go_at_call 63; refine HL0.mono ?_; rintro e w' ⟨rfl, rfl⟩)
    go_loopw [8, 9] (fun v8 i wr => v8 = .bool false ∧ i = .int .i64 0 ∧ wr = w') (fun _ _ _ => 0)
    case atStart => exact ⟨rfl, rfl, rfl⟩
    case round =>
      obtain ⟨rfl, rfl, rfl⟩ := hrel
      by_cases h0 : n = 0
      · have d0 : decide (0 < (n : Int)) = false := decide_eq_false (by omega)
        have d1 : decide (0 < n) = false := decide_eq_false (by omega)
        clear h0
        go_wp2_with fail
        go_ret2
        exact ⟨rfl, HRA.out, GrownOff.refl _ _⟩
      · have d0 : decide (0 < (n : Int)) = true := decide_eq_true (by omega)
        have d1 : decide (0 < n) = true := decide_eq_true (by omega)
        clear h0
        go_wp2_with fail
        go_ret2
        exact ⟨rfl, HRA.out, GrownOff.refl _ _⟩
  | true =>
    rw [hnl] at HL0
    have HNL : Hid (S.isN left = true) := hnl
    clear hnl HNO
    go_enter Try.func59, Try.ntmps59
    go_wp2_with (go_at_call 63; refine HL0.mono ?_; rintro e w' ⟨rfl, rfl⟩)
    go_loopw [8, 9] (fun v8 i wr => ∃ (k : Nat) (ok : Bool), k ≤ n ∧ v8 = .bool ok ∧ i = .int .i64 k ∧ wr = w' ∧ (ok = true → ∀ j, j < k → (S.isT (hs.getD j 0) || S.isN (hs.getD j 0)) = true) ∧ (ok = false → S.good hs = false)) (fun v8 i _ => n - (intOf i).toNat)
    case atStart => exact ⟨0, true, Nat.zero_le _, rfl, rfl, rfl, fun _ j hj => by omega, fun h => by cases h⟩
    case round =>
      obtain ⟨k, ok, hk, rfl, rfl, rfl, hyes, hno⟩ := hrel
      cases ok with
      | false =>
        have hA3 := HNG.out (hno rfl)
        subst hA3
        clear hyes hno HNG HFU HDO
        by_cases h0 : k < n
        · go_wp2_with fail
          go_ret2
          exact ⟨rfl, HRA.out, GrownOff.refl _ _⟩
        · go_wp2_with fail
          go_ret2
          exact ⟨rfl, HRA.out, GrownOff.refl _ _⟩
      | true =>
        have HY : Hid (∀ j, j < k → (S.isT (hs.getD j 0) || S.isN (hs.getD j 0)) = true) := hyes rfl
        clear hyes hno
        by_cases hlt : k < n
        · have hkl : k < hs.length := by rw [HN.out]; exact hlt
          obtain ⟨lb, lo, rfl, hcs⟩ : ∃ b off, a = some ⟨b, off, none⟩ ∧ ∀ i, i < hs.length → wr.cell? ⟨b, off + i, none⟩ = some (.int .i64 (hs.getD i 0)) := by
            rcases HI.out with h | h
            · rw [h] at hkl; simp at hkl
            · exact h
          have c0 := hcs k hkl
          have HT := RAt.isT HRA.out (hs.getD k 0)
          have HNn := RAt.isN HOK.out HRA.out (hs.getD k 0)
          have HUP : Hid ((S.isT (hs.getD k 0) || S.isN (hs.getD k 0)) = true → ∀ j, j < k + 1 → (S.isT (hs.getD j 0) || S.isN (hs.getD j 0)) = true) := fun h j hj => by
            by_cases e : j = k
            · rw [e]; exact h
            · exact HY.out j (by omega)
          have HBD : Hid ((S.isT (hs.getD k 0) || S.isN (hs.getD k 0)) = false → S.good hs = false) := fun h => Bool.eq_false_iff.2 fun hh => by
            have := good_iff.1 hh k hkl
            rw [h] at this
            cases this
          clear hcs hkl
          generalize hs.getD k 0 = h at *
          cases hb : S.isT h with
          | true =>
            rw [hb] at HT HUP
            have HY2 : Hid (∀ j, j < k + 1 → (S.isT (hs.getD j 0) || S.isN (hs.getD j 0)) = true) := HUP.out rfl
            clear HUP HBD hb
            go_wp2_with (first | (go_at_call 88; refine HT.mono ?_; rintro e w' ⟨rfl, rfl⟩) | (go_at_call 63; refine HNn.mono ?_; rintro e w' ⟨rfl, rfl⟩))
            go_roundw
            case rel => exact ⟨k + 1, true, by omega, rfl, by go_num, trivial, fun _ => HY2.out, fun h => by cases h⟩
            case measure => simp [intOf]; omega
          | false =>
            rw [hb] at HT HUP HBD
            cases hb2 : S.isN h with
            | true =>
              rw [hb2] at HNn HUP
              have HY2 : Hid (∀ j, j < k + 1 → (S.isT (hs.getD j 0) || S.isN (hs.getD j 0)) = true) := HUP.out rfl
              clear HUP HBD hb hb2
              go_wp2_with (first | (go_at_call 88; refine HT.mono ?_; rintro e w' ⟨rfl, rfl⟩) | (go_at_call 63; refine HNn.mono ?_; rintro e w' ⟨rfl, rfl⟩))
              go_roundw
              case rel => exact ⟨k + 1, true, by omega, rfl, by go_num, trivial, fun _ => HY2.out, fun h => by cases h⟩
              case measure => simp [intOf]; omega
            | false =>
              rw [hb2] at HNn HBD
              have HB2 : Hid (S.good hs = false) := HBD.out rfl
              clear HUP HBD hb hb2
              go_wp2_with (first | (go_at_call 88; refine HT.mono ?_; rintro e w' ⟨rfl, rfl⟩) | (go_at_call 63; refine HNn.mono ?_; rintro e w' ⟨rfl, rfl⟩))
              go_roundw
              case rel => exact ⟨k + 1, false, by omega, rfl, by go_num, trivial, (fun h => by cases h), fun _ => HB2.out⟩
              case measure => simp [intOf]; omega
        · obtain rfl : n = k := by omega
          have HGD : Hid (S.good hs = true) := good_iff.2 (by rw [HN.out]; exact HY.out)
          clear hlt
          by_cases hf : 96 ≤ pn
          · have d1 : decide (96 ≤ (pn : Int)) = true := decide_eq_true (by omega)
            have hA3 := HFU.out HNL.out HGD.out (by rw [HPN.out]; exact hf)
            subst hA3
            clear HNG HFU HDO
            go_wp2_with fail
            go_ret2
            exact ⟨rfl, HRA.out, GrownOff.refl _ _⟩
          · have d1 : decide (96 ≤ (pn : Int)) = false := decide_eq_false (by omega)
            have hA3 := HDO.out HNL.out HGD.out (by rw [HPN.out]; exact hf)
            rw [HPN.out] at hA3
            subst hA3
            clear HNG HFU HDO
            obtain ⟨i0, hi, hz0, hz1, hz2⟩ := info_parts infoInt
            have HRU : Hid (RuAt wr (wr.alloc (.cells #[.int .i64 left, .slice none 0 0, .int .i64 0] 100)) left (hs.take 0) (S.levOf (hs.take 0)) (.slice none 0 0)) := ⟨World.grownBy_alloc _ _ none, heap_alloc_last wr _, World.ownsRow_nil _ _ _ _⟩
            go_wp2_with fail
            generalize hy : wr = Y at *
            have HYE : Hid (wr = Y) := hy
            clear hy
            generalize hW0 : Y.alloc (.cells #[.int .i64 left, .slice none 0 0, .int .i64 0] 100) = W0 at *
            clear hW0
            go_loopw [13] (fun i wz => ∃ (k : Nat) (v : Value), k ≤ n ∧ i = .int .i64 k ∧ RuAt Y wz left (hs.take k) (S.levOf (hs.take k)) v) (fun i _ => n - (intOf i).toNat)
            case atStart => exact ⟨0, _, Nat.zero_le _, rfl, HRU.out⟩
            case round =>
              obtain ⟨k, v, hk2, rfl, hU⟩ := hrel
              have HU : Hid (RuAt Y wr left (hs.take k) (S.levOf (hs.take k)) v) := hU
              clear hU HRU
              by_cases hlt : k < n
              · have hkl : k < hs.length := by rw [HN.out]; exact hlt
                have hkt : (hs.take k).length = k := by rw [List.length_take]; omega
                obtain ⟨ra, rcap, hv⟩ := owns_slice HU.out.row
                rw [hkt] at hv
                subst hv
                have HUD : Hid (RuAt Y wr.drew left (hs.take k) (S.levOf (hs.take k)) (.slice ra k rcap)) := HU.out.kept (grown_drewN wr 1)
                obtain ⟨lb, lo, rfl, hcs⟩ : ∃ b off, a = some ⟨b, off, none⟩ ∧ ∀ i, i < hs.length → Y.cell? ⟨b, off + i, none⟩ = some (.int .i64 (hs.getD i 0)) := by
                  rcases HI.out with h | h
                  · rw [h] at hkl; simp at hkl
                  · exact h
                have c0 : wr.drew.cell? ⟨lb, lo + k, none⟩ = some (.int .i64 (hs.getD k 0)) := HUD.out.grown.cell (hcs k hkl) (by simp)
                obtain ⟨p0, p1, p2⟩ := HUD.out.cells
                have c0' : ∀ o, (wr.alloc o).drew.cell? ⟨lb, lo + k, none⟩ = some (.int .i64 (hs.getD k 0)) := fun o => (World.grownBy_alloc wr o none).cell (HU.out.grown.cell (hcs k hkl) (by simp)) (by simp)
                have p1' : ∀ o, (wr.alloc o).drew.cell? ⟨Y.heap.size, 1, none⟩ = some (.slice ra k rcap) := fun o => (World.grownBy_alloc wr o none).cell HU.out.cells.2.1 (by simp)
                have HC0 : Hid (∀ W, Y.grownBy W none → W.cell? ⟨lb, lo + k, none⟩ = some (.int .i64 (hs.getD k 0))) := fun W hW => hW.cell (hcs k hkl) (by simp)
                have HTK : Hid (hs.take (k + 1) = hs.take k ++ [hs.getD k 0]) := take_succ_at hkl
                have HLV : Hid (S.levOf (hs.take (k + 1)) = if S.isT (hs.getD k 0) then S.lev (hs.getD k 0).toNat else S.levOf (hs.take k)) := levOf_snoc S hs k hkl
                have HGK : Hid ((S.isT (hs.getD k 0) || S.isN (hs.getD k 0)) = true) := good_iff.1 HGD.out k hkl
                have HPUSH : Hid (∀ w4 o g2 c2, ((wr.alloc o).drew).grownBy w4 (Value.slice ra k rcap).ownBlock → w4.ownsRow (Y.heap.size + 1) 3 1 (.slice (some ⟨g2, 0, none⟩) (k + 1) c2) (k + 1) ((hs.take k).map (Value.int .i64) ++ [.int .i64 (hs.getD k 0)]) →
                    RuAt Y (w4.setCell ⟨Y.heap.size, 1, none⟩ (.slice (some ⟨g2, 0, none⟩) (k + 1) c2)) left (hs.take k ++ [hs.getD k 0]) (S.levOf (hs.take k)) (.slice (some ⟨g2, 0, none⟩) (k + 1) c2)) := fun w4 o g2 c2 h1 h2 => by
                  have hU2 : RuAt Y (wr.alloc o).drew left (hs.take k) (S.levOf (hs.take k)) (.slice ra k rcap) := (HU.out.kept (World.grownBy_alloc wr o none)).kept (grown_drewN _ 1)
                  exact hU2.push h1 (by rw [hkt]; exact h2)
                have HBOX : Hid (∀ w4 o, ((wr.alloc o).drew).grownBy w4 (Value.slice ra k rcap).ownBlock → w4.cell? ⟨Y.heap.size, 1, none⟩ = some (.slice ra k rcap) ∧ w4.frozen? ⟨Y.heap.size, 1, none⟩ = false) := fun w4 o h1 => by
                  have hU2 : RuAt Y (wr.alloc o).drew left (hs.take k) (S.levOf (hs.take k)) (.slice ra k rcap) := (HU.out.kept (World.grownBy_alloc wr o none)).kept (grown_drewN _ 1)
                  have hb := (hU2.grew h1).1
                  exact ⟨by rw [cell_of_row _ _ _ _ _ _ hb]; rfl, frozen_of_row _ _ 1 _ _ hb⟩
                have HROWD : Hid (∀ o, ((wr.alloc o).drew).ownsRow (Y.heap.size + 1) 3 1 (.slice ra k rcap) k ((hs.take k).map (Value.int .i64))) := fun o => by have := HU.out.row; rw [hkt] at this; exact this.alloc _
                have hsz := HU.out.lt
                clear hcs hkl hkt
                generalize hs.getD k 0 = h at *
                generalize (hs.take k).map (Value.int .i64) = xs at *
                go_wp2_with fail
                go_region_law (first
                  | (refine step_append_lies _ rfl (.tmp 59) (.tmp 64) 30 rfl (Y.heap.size + 1) 3 i0 (.int .i64 0) 1 8 Try.underlying30 hi hz0 hz1 hz2 rfl (by decide) _ _ _ (by simp [Act.eval]) (HROWD.out _) ⟨wr.heap.size, 0, none⟩ 1 1 [.int .i64 h] (by simp [Act.eval]) rfl (cell_one_new _ _ _) (ints_oneCell' [h]) (by omega) (by unfold maxLen; omega) (by omega) (by simp; omega) _ rfl ?_; intro g2 c2 w4 hown4 hgrow4 hloc4 hlt4; obtain ⟨z1, z2⟩ := HBOX.out _ _ hgrow4))
                all_goals
                  have HPU : Hid (RuAt Y (w4.setCell ⟨Y.heap.size, 1, none⟩ (.slice (some ⟨g2, 0, none⟩) (k + 1) c2)) left (hs.take k ++ [h]) (S.levOf (hs.take k)) (.slice (some ⟨g2, 0, none⟩) (k + 1) c2)) := HPUSH.out _ _ _ _ hgrow4 hown4
                  generalize w4.setCell ⟨Y.heap.size, 1, none⟩ (.slice (some ⟨g2, 0, none⟩) (k + 1) c2) = W at *
                  clear z1 z2 hown4 hgrow4 hloc4 hlt4 p0 p1 p2 p1' c0 c0' HPUSH HBOX HROWD HUD HU
                  have c1 := HC0.out W HPU.out.grown
                  by_cases hpos : 0 < h
                  · have d2 : decide (0 < h) = true := decide_eq_true hpos
                    have hbt : 0 < h ∧ h ≤ tn := by
                      have hg := HGK.out
                      rw [Bool.or_eq_true] at hg
                      rcases hg with hg | hg
                      · have := isT_iff.1 hg; rw [HTN.out] at this; exact this
                      · simp [BS.isN] at hg; omega
                    obtain ⟨i, rfl⟩ : ∃ i : Nat, h = (i : Int) + 1 := ⟨(h - 1).toNat, by omega⟩
                    have hitn : i < tn := by omega
                    have his : i < S.terms.length := by rw [HTN.out]; exact hitn
                    have e1 : ((i : Int) + 1) - 1 = (i : Int) := by omega
                    have HL2 : Hid (S.levOf (hs.take (k + 1)) = S.lev (i + 1)) := by
                      show _ = _
                      rw [HLV.out, if_pos (isT_iff.2 ⟨by omega, by rw [HTN.out]; omega⟩)]
                      congr 1
                    obtain ⟨tb, tof, rfl, hts⟩ : ∃ b off, ta = some ⟨b, off, none⟩ ∧ ∀ i, i < (rts S).length → Y.cell? ⟨b, off + i * 2, none⟩ = some (.string ((rts S).getD i (⟨#[]⟩, 0)).1) ∧ Y.cell? ⟨b, off + i * 2 + 1, none⟩ = some (.int .i64 ((rts S).getD i (⟨#[]⟩, 0)).2) := by
                      rcases HTA.out with h | h
                      · have := rts_length S; rw [h] at this; simp at this; omega
                      · exact h
                    have t1 := (hts i (by rw [rts_length]; exact his)).2
                    rw [rts_at S his] at t1
                    have t2 : W.drew.cell? ⟨tb, tof + i * 2 + 1, none⟩ = some (.int .i64 (S.lev (i + 1))) := HPU.out.grown.cell t1 (by simp)
                    have t3 : W.drew.cell? ⟨r, 0, none⟩ = some (.slice (some ⟨tb, tof, none⟩) tn tc) := HPU.out.grown.cell m0 (by simp)
                    have t4 : W.drew.cell? ⟨Y.heap.size, 2, none⟩ = some (.int .i64 (S.levOf (hs.take k))) := HPU.out.cells.2.2
                    have t5 : W.drew.frozen? ⟨Y.heap.size, 2, none⟩ = false := HPU.out.free 2
                    have c2' : W.drew.cell? ⟨lb, lo + k, none⟩ = some (.int .i64 ((i : Int) + 1)) := c1
                    have HFIN : Hid (RuAt Y (W.drew.setCell ⟨Y.heap.size, 2, none⟩ (.int .i64 (S.lev (i + 1)))) left (hs.take (k + 1)) (S.levOf (hs.take (k + 1))) (.slice (some ⟨g2, 0, none⟩) (k + 1) c2)) := by
                      rw [HL2.out, HTK.out]
                      exact (HPU.out.kept (grown_drewN W 1)).setLev
                    clear hts t1 hbt hpos his HGK HLV HL2
                    generalize S.lev (i + 1) = lx at *
                    go_wp2_with fail
                    go_region
                    all_goals go_wp2_with fail
                    all_goals go_roundw
                    all_goals first
                      | exact ⟨k + 1, _, by omega, by go_num, HFIN.out⟩
                      | (simp [intOf]; omega)
                  · have d2 : decide (0 < h) = false := decide_eq_false hpos
                    have HFIN : Hid (RuAt Y W left (hs.take (k + 1)) (S.levOf (hs.take (k + 1))) (.slice (some ⟨g2, 0, none⟩) (k + 1) c2)) := by
                      rw [HLV.out, HTK.out, if_neg (fun x => hpos (isT_iff.1 x).1)]
                      exact HPU.out
                    clear hpos HGK HLV
                    go_wp2_with fail
                    go_roundw
                    all_goals first
                      | exact ⟨k + 1, _, by omega, by go_num, HFIN.out⟩
                      | (simp [intOf]; omega)
              · obtain rfl : n = k := by omega
                have htk : hs.take n = hs := List.take_of_length_le (by rw [HN.out]; exact Nat.le_refl _)
                rw [htk] at HU
                obtain ⟨j0, hj, hy0, hy1, hy2⟩ := info_parts infoRule
                obtain ⟨ra, rcap, hv⟩ := owns_slice HU.out.row
                rw [HN.out] at hv
                subst hv
                have HUA : Hid (∀ o, RuAt Y (wr.alloc o).drew left hs (S.levOf hs) (.slice ra n rcap)) := fun o => (HU.out.kept (World.grownBy_alloc wr o none)).kept (grown_drewN _ 1)
                have p0 : wr.drew.cell? ⟨Y.heap.size, 0, none⟩ = some (.int .i64 left) := HU.out.cells.1
                have p1 : wr.drew.cell? ⟨Y.heap.size, 1, none⟩ = some (.slice ra n rcap) := HU.out.cells.2.1
                have p2 : wr.drew.cell? ⟨Y.heap.size, 2, none⟩ = some (.int .i64 (S.levOf hs)) := HU.out.cells.2.2
                have r3 : wr.drew.cell? ⟨r, 3, none⟩ = some (.slice pa pn pc) := HU.out.grown.cell m3 (by simp)
                have r3' : ∀ o, (wr.alloc o).drew.cell? ⟨r, 3, none⟩ = some (.slice pa pn pc) := fun o => (HUA.out o).grown.cell m3 (by simp)
                have HRW : Hid (∀ o, RRow (wr.alloc o).drew r vt vn vl vr S.start) := fun o => HHH.out.1.keptOff (HUA.out o).grown (by simp)
                have HRC : Hid (∀ o, RCells (wr.alloc o).drew Q S vt vn vl vr) := fun o => HHH.out.2.1.kept0 (HUA.out o).grown
                have HRO : Hid (∀ o, ((wr.alloc o).drew).ownsRow 0 100 3 vr S.prods.length ((S.prods.zip rs).flatMap fun x => prL x.1 x.2)) := fun o => HRS.out.2.1.kept (HUA.out o).grown (none_ne rfl)
                have HADD : Hid (∀ o w4 g2 c2, ((wr.alloc o).drew).grownBy w4 (Value.slice pa pn pc).ownBlock → w4.ownsRow 0 100 3 (.slice (some ⟨g2, 0, none⟩) (pn + 1) c2) (pn + 1) (((S.prods.zip rs).flatMap fun x => prL x.1 x.2) ++ prL ⟨left, hs, S.levOf hs⟩ (.slice ra n rcap)) → ((Value.slice pa pn pc).ownBlock = some g2 ∨ g2 = wr.heap.size + 1) →
                    (RAt (w4.setCell ⟨r, 3, none⟩ (.slice (some ⟨g2, 0, none⟩) (pn + 1) c2)) r (S.addP ⟨left, hs, S.levOf hs⟩) Q ∧ GrownOff Y (w4.setCell ⟨r, 3, none⟩ (.slice (some ⟨g2, 0, none⟩) (pn + 1) c2)) Q) ∧ (w4.cell? ⟨r, 3, none⟩ = some vr ∧ w4.frozen? ⟨r, 3, none⟩ = false) ∧ (w4.setCell ⟨r, 3, none⟩ (.slice (some ⟨g2, 0, none⟩) (pn + 1) c2)).cell? ⟨r, 3, none⟩ = some (.slice (some ⟨g2, 0, none⟩) (pn + 1) c2)) := fun o w4 g2 c2 h1 h2 h3 => by
                  have hgY := (HUA.out o).grown
                  have h1' : ((wr.alloc o).drew).grownBy w4 vr.ownBlock := by rw [HE3.out]; exact h1
                  have hsz := HU.out.lt
                  have hR4 := (HRW.out o).keptOff h1' ((HRW.out o).ne (HRO.out o) (by decide))
                  have hadd := RCells.addP (p := ⟨left, hs, S.levOf hs⟩) (v := .slice ra n rcap) (g4 := g2) (c4 := c2) (HRC.out o) (HRW.out o) (fun g hg => HHH.out.2.2.1 g (Nat.le_trans hgY.size hg)) HHH.out.2.2.2 h1' rs HRS.out.1 (HRO.out o)
                    (fun i hi => ⟨World.ownsRow.kept (HRS.out.2.2 i hi).1 hgY (none_ne rfl), (HRS.out.2.2 i hi).2⟩)
                    (owns_base (HUA.out o).row) (fun g hg => by
                      have hge := ((HUA.out o).row.lt g hg).1
                      refine ⟨HHH.out.2.2.1 g (by omega), fun e => ?_⟩
                      have := (HHH.out.2.1.ll.lt g e).2
                      omega)
                    (by rw [HPN.out]; exact h2) (by
                      rcases h3 with h3 | h3
                      · left; rw [HE3.out]; exact h3
                      · right; rw [h3]; show (wr.alloc o).heap.size ≤ _; simp)
                  rw [HPN.out] at hadd
                  exact ⟨⟨hadd.1, (GrownOff.of_none hgY).trans hadd.2⟩, ⟨hR4.cells.2.2.2.1, hR4.free 3⟩, (hR4.set _).2.2.2.cells.2.2.2.1⟩
                have HROA : Hid (∀ o, ((wr.alloc o).drew).ownsRow 0 100 3 (.slice pa pn pc) pn ((S.prods.zip rs).flatMap fun x => prL x.1 x.2)) := fun o => by have := HRO.out o; rw [HE3.out, HPN.out] at this; exact this
                clear HU HRS HHH HRW HRC HRO HUA HTA htk
                generalize hlx : S.levOf hs = lx at *
                have HLX : Hid (S.levOf hs = lx) := hlx
                clear hlx
                generalize ((S.prods.zip rs).flatMap fun x => prL x.1 x.2) = fl at *
                go_wp2_with fail
                go_region_law (first
                  | (refine step_append_lies _ rfl (.tmp 89) (.tmp 91) 31 rfl 0 100 j0 (.agg #[.int .i64 0, .slice none 0 0, .int .i64 0]) 3 40 Try.underlying31 hj hy0 hy1 hy2 rfl (by decide) _ _ _ (by simp [Act.eval]) (HROA.out _) ⟨wr.heap.size, 0, none⟩ 1 1 (prL ⟨left, hs, lx⟩ (.slice ra n rcap)) (by simp [Act.eval]) rfl (fun j u hu => World.news_of_block (heap_alloc_last _ _) j u hu) (prL_oneCell _) (by omega) (by unfold maxLen; omega) (by omega) (Nat.zero_le _) (wr.heap.size + 1) (by simp) ?_; intro g2 c2 w4 hown4 hgrow4 hloc4 hlt4; obtain ⟨z0, ⟨z1, z2⟩, z3⟩ := HADD.out _ _ _ _ hgrow4 hown4 hloc4))
                all_goals go_wp2_with fail
                all_goals go_ret2
                all_goals exact ⟨by first | rfl | go_num, by rw [HLX.out]; exact z0.1, by rw [HYE.out]; exact z0.2⟩

end Go.Proofs.Ytkbpnafahimeiaa
