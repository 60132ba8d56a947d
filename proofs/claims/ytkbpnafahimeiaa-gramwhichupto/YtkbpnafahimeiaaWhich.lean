/-
  GramWhich, walked.
-/
import Derived.Test.YtkbpnafahimeiaaWhichM
namespace Go.Proofs.Ytkbpnafahimeiaa
open Go.RowKit Go.Maps Go.Shelf

attribute [local go_sem] Oper.semAt_some

set_option maxRecDepth 100000 in
set_option maxHeartbeats 4000000 in
theorem which_core (ta na la pa : Option Addr) (tc nc lc pc : Nat) (ts : List (ByteArray × Int)) (ns : List ByteArray) (lv : List Int) (n : Nat) (L : Nat → Int) (R : Nat → List Int) (ra : Nat → Option Addr) (rc : Nat → Nat) (V : Nat → Int) (st : Int) (w : World) (tn nn ln : Nat) (hG : GAt w ta na la pa tc nc lc pc ts ns lv n L R ra rc V) (hlen : ts.length = tn ∧ ns.length = nn ∧ lv.length = ln) (h1 : tn ≤ 1048576) (h2 : nn ≤ 1048576) (h3 : ln ≤ 1048576) (h4 : n ≤ 1048576) (h5 : ∀ i, i < n → (R i).length ≤ 1048576)
    (hts : ∀ t ∈ ts, t.1.size ≤ 140737488355328) (hns : ∀ s ∈ ns, s.size ≤ 140737488355328)
    (hlend : ∀ X, w.grownBy X none → Calls Try.prog 10 #[.agg #[.slice ta tn tc, .slice na nn nc, .slice la ln lc, .int .i64 st, .slice pa n pc]] X fun e w' => ∃ gb a1 c1 a2 c2 a3 c3 a4 c4 a5 c5 rg, e = .returned (.pointer (some ⟨gb + 1, 0, none⟩)) ∧ LdAt X w' gb #[.slice ta tn tc, .slice na nn nc, .slice la ln lc, .int .i64 st, .slice pa n pc] #[.slice a1 tn c1, .slice a2 nn c2, .slice a3 ln c3, .int .i64 st, .slice a5 n c5, .slice a1 (tn + 1) c1, .slice a2 (nn + 1) c2, .slice a3 (ln + 1) c3, .slice a4 n c4, .slice a5 (n + 1) c5] ∧ LRows w' (gb + 1 + 1) ts ns lv n L R V a1 a2 a3 a4 a5 tn nn ln c1 c2 c3 c4 c5 rg) :
    Calls Try.prog 4 #[.agg #[.slice ta tn tc, .slice na nn nc, .slice la ln lc, .int .i64 st, .slice pa n pc]] w fun e w' => e = .returned (.bool true) ∧ w.grownBy w' none := by
  obtain ⟨rV, hrV⟩ := boolOf (validOK ts ns lv st n L R V)
  obtain ⟨rC, hrC⟩ := boolOf (closedOK ts ns lv st n L R V)
  have HLEND := show Hid _ from hlend
  have KRV : Hid (∀ Y, w.grownBy Y none → Calls Try.prog 17 #[.agg #[.slice ta tn tc, .slice na nn nc, .slice la ln lc, .int .i64 st, .slice pa n pc]] Y fun e w' => e = .returned (.bool rV) ∧ Y.grownBy w' none) := fun Y hY => by
    have := rvalid_any ta na la pa tc nc lc pc st ts ns lv n L R ra rc V Y (hG.kept hY) hts hns rV hrV
    rwa [hlen.1, hlen.2.1, hlen.2.2] at this
  have KRC : Hid (∀ Y, w.grownBy Y none → Calls Try.prog 18 #[.agg #[.slice ta tn tc, .slice na nn nc, .slice la ln lc, .int .i64 st, .slice pa n pc]] Y fun e w' => e = .returned (.bool rC) ∧ Y.grownBy w' none) := fun Y hY => by
    have := rclosed_any ta na la pa tc nc lc pc st ts ns lv n L R ra rc V Y (hG.kept hY) hts hns rC hrC
    rwa [hlen.1, hlen.2.1, hlen.2.2] at this
  have HG : Hid (GAt w ta na la pa tc nc lc pc ts ns lv n L R ra rc V) := hG
  have HLN : Hid (ts.length = tn ∧ ns.length = nn ∧ lv.length = ln) := hlen
  have H5 : Hid (∀ i, i < n → (R i).length ≤ 1048576) := h5
  have HRV : Hid (rV = true ↔ validOK ts ns lv st n L R V) := hrV
  have HRC : Hid (rC = true ↔ closedOK ts ns lv st n L R V) := hrC
  have HPH0 : Hid (∀ X, (w.alloc (.cells #[.slice ta tn tc, .slice na nn nc, .slice la ln lc, .int .i64 st, .slice pa n pc] 42)).grownBy X none → PhAt w X w.heap.size #[.slice ta tn tc, .slice na nn nc, .slice la ln lc, .int .i64 st, .slice pa n pc]) := fun X h => (PhAt.mk (World.grownBy_alloc _ _ none) (heap_alloc_last w _)).kept h
  clear hG hlend hlen h5 hts hns hrV hrC
  go_enter Try.func4, Try.ntmps4
  go_wp2_with fail
  refine (awake_any _).mono ?_
  rintro e w1 ⟨rfl, hg1⟩
  have HP1 : Hid (PhAt w w1 w.heap.size #[.slice ta tn tc, .slice na nn nc, .slice la ln lc, .int .i64 st, .slice pa n pc]) := HPH0.out w1 hg1
  clear hg1 HPH0
  generalize w.heap.size = b0 at *
  obtain ⟨m0, m1, m2, m3, m4⟩ := HP1.out.cells
  go_wp2_with fail
  refine Calls.mono (HLEND.out w1 HP1.out.grown) ?_
  rintro e X ⟨gb, a1, c1, a2, c2, a3, c3, a4, c4, a5, c5, rg, rfl, hL, hM⟩
  have HL : Hid (LdAt w1 X gb #[.slice ta tn tc, .slice na nn nc, .slice la ln lc, .int .i64 st, .slice pa n pc] #[.slice a1 tn c1, .slice a2 nn c2, .slice a3 ln c3, .int .i64 st, .slice a5 n c5, .slice a1 (tn + 1) c1, .slice a2 (nn + 1) c2, .slice a3 (ln + 1) c3, .slice a4 n c4, .slice a5 (n + 1) c5]) := hL
  have HM : Hid (LRows X (gb + 1 + 1) ts ns lv n L R V a1 a2 a3 a4 a5 tn nn ln c1 c2 c3 c4 c5 rg) := hM
  have HPX : Hid (PhAt w X b0 #[.slice ta tn tc, .slice na nn nc, .slice la ln lc, .int .i64 st, .slice pa n pc]) := HP1.out.kept hL.grown
  have hGX := hM.gat HLN.out h1 h2 h3 h4 H5.out
  have HGX : Hid (GAt X a1 a2 a3 a5 c1 c2 c3 c5 ts ns lv n L R (fun i => some ⟨(rg i).1, 0, none⟩) (fun i => (rg i).2) V) := hGX
  have HA : Hid (∃ g1 g3, a1 = some ⟨g1, 0, none⟩ ∧ a3 = some ⟨g3, 0, none⟩) := by
    obtain ⟨g1, e1⟩ := owns_some hM.t
    obtain ⟨g3, e3⟩ := owns_some hM.l
    exact ⟨g1, g3, e1, e3⟩
  have KV : Hid (∀ Y, X.grownBy Y none → Calls Try.prog 11 #[.agg #[.slice a1 tn c1, .slice a2 nn c2, .slice a3 ln c3, .int .i64 st, .slice a5 n c5]] Y fun e w' => e = .returned (.bool rV) ∧ Y.grownBy w' none) := fun Y hY => by
    have := valid_any a1 a2 a3 a5 c1 c2 c3 c5 ts ns lv n L R _ _ V st Y (HGX.out.kept hY) rV HRV.out
    rwa [HLN.out.1, HLN.out.2.1, HLN.out.2.2] at this
  have KC : Hid (∀ Y, X.grownBy Y none → Calls Try.prog 12 #[.agg #[.slice a1 tn c1, .slice a2 nn c2, .slice a3 ln c3, .int .i64 st, .slice a5 n c5]] Y fun e w' => e = .returned (.bool rC) ∧ Y.grownBy w' none) := fun Y hY => by
    have := closed_any a1 a2 a3 a5 c1 c2 c3 c5 ts ns lv n L R _ _ V st Y (HGX.out.kept hY) rC HRC.out
    rwa [HLN.out.1, HLN.out.2.1, HLN.out.2.2] at this
  have KCP : Hid (∀ Y, X.grownBy Y none → Calls Try.prog 13 #[.agg #[.slice a1 tn c1, .slice a2 nn c2, .slice a3 ln c3, .int .i64 st, .slice a5 n c5]] Y fun e w' => ∃ vt vn vl vp, e = .returned (.agg #[vt, vn, vl, .int .i64 st, vp]) ∧ GramNew w' Y.heap.size (grOf ts ns lv st n L R V) vt vn vl vp ∧ Y.grownBy w' none) := fun Y hY => by
    obtain ⟨g1, g3, e1, e3⟩ := HA.out
    have := copy_any a1 a2 a3 a5 c1 c2 c3 c5 ts ns lv n L R _ _ V st Y (HGX.out.kept hY) (fun e => by rw [e1] at e; cases e) (fun e => by rw [e3] at e; cases e) (by rw [HLN.out.1]; omega) (by rw [HLN.out.2.1]; omega) (by omega)
    rwa [HLN.out.1, HLN.out.2.1, HLN.out.2.2] at this
  have KW : Hid (∀ Y, X.grownBy Y none → Calls Try.prog 16 #[.pointer (some ⟨gb + 1, 0, none⟩), .agg #[.slice ta tn tc, .slice na nn nc, .slice la ln lc, .int .i64 st, .slice pa n pc]] Y fun e w' => e = .returned (.bool true) ∧ Y.grownBy w' none) := fun Y hY => by
    refine whole_lent ta na la pa tc nc lc pc ts ns lv n L R V st w1 Y tn nn ln gb _ a1 a2 a3 a4 a5 c1 c2 c3 c4 c5 rg (HL.out.kept hY) (HM.out.kept hY) HLN.out h1 h2 h3 h4 H5.out (fun Z hZ => ?_)
    have := rsame_any st st (HGX.out.kept (grown_trans hY hZ)) (HG.out.kept (grown_trans HPX.out.grown (grown_trans hY hZ))) true ⟨fun _ => ⟨rfl, rfl, rfl, rfl, rfl, fun _ _ => ⟨rfl, rfl, rfl⟩⟩, fun _ => rfl⟩
    rwa [HLN.out.1, HLN.out.2.1, HLN.out.2.2] at this
  have x0 : X.cell? ⟨gb + 1, 0, none⟩ = some (.slice a1 tn c1) := hL.x 0 _ rfl
  have x1 : X.cell? ⟨gb + 1, 1, none⟩ = some (.slice a2 nn c2) := hL.x 1 _ rfl
  have x2 : X.cell? ⟨gb + 1, 2, none⟩ = some (.slice a3 ln c3) := hL.x 2 _ rfl
  have x3 : X.cell? ⟨gb + 1, 3, none⟩ = some (.int .i64 st) := hL.x 3 _ rfl
  have x4 : X.cell? ⟨gb + 1, 4, none⟩ = some (.slice a5 n c5) := hL.x 4 _ rfl
  have HXC : Hid (∀ Y, X.grownBy Y none → Y.cell? ⟨gb + 1, 0, none⟩ = some (.slice a1 tn c1) ∧ Y.cell? ⟨gb + 1, 1, none⟩ = some (.slice a2 nn c2) ∧ Y.cell? ⟨gb + 1, 2, none⟩ = some (.slice a3 ln c3) ∧ Y.cell? ⟨gb + 1, 3, none⟩ = some (.int .i64 st) ∧ Y.cell? ⟨gb + 1, 4, none⟩ = some (.slice a5 n c5)) := fun Y hY => ⟨hY.cell x0 (by simp), hY.cell x1 (by simp), hY.cell x2 (by simp), hY.cell x3 (by simp), hY.cell x4 (by simp)⟩
  clear hL hM hGX m0 m1 m2 m3 m4 HP1 HLEND HA
  go_wp2_with fail
  refine Calls.mono (KV.out X (grown_refl _ _)) ?_
  rintro e X1 ⟨rfl, hgX1⟩
  have HX1 : Hid (X.grownBy X1 none) := hgX1
  clear hgX1 x0 x1 x2 x3 x4
  obtain ⟨x0, x1, x2, x3, x4⟩ := HXC.out X1 HX1.out
  go_wp2_with fail
  refine Calls.mono (KC.out X1 HX1.out) ?_
  rintro e X2 ⟨rfl, hgX2⟩
  have HX2 : Hid (X.grownBy X2 none) := grown_trans HX1.out hgX2
  clear hgX2 x0 x1 x2 x3 x4
  obtain ⟨x0, x1, x2, x3, x4⟩ := HXC.out X2 HX2.out
  go_wp2_with fail
  refine Calls.mono (KCP.out X2 HX2.out) ?_
  rintro e X3 ⟨vt, vn, vl, vp, rfl, hN, hg3⟩
  have eL : (grOf ts ns lv st n L R V).prods.length = n := grOf_len _ _ _ _ _ _ _ _
  obtain ⟨ta', tc', rfl⟩ := owns_slice hN.terms
  obtain ⟨na', nc', rfl⟩ := owns_slice hN.nons
  obtain ⟨la', lc', rfl⟩ := owns_slice hN.levels
  obtain ⟨pa', pc', rfl⟩ : ∃ pa pc, vp = .slice pa (grOf ts ns lv st n L R V).prods.length pc := by obtain ⟨rg, h1, _⟩ := hN.prods; exact owns_slice h1
  have e1 : (grOf ts ns lv st n L R V).terms.length = tn := HLN.out.1
  have e2 : (grOf ts ns lv st n L R V).nons.length = nn := HLN.out.2.1
  have e3 : (grOf ts ns lv st n L R V).levels.length = ln := HLN.out.2.2
  obtain ⟨ra', rc', hGC⟩ := hN.gat (by omega) (by omega) (by omega) (by omega) (fun i hi => by
    rw [eL] at hi
    rw [grOf_at _ _ _ _ _ _ _ _ hi]
    have := H5.out i hi
    show (R i).length ≤ _
    omega)
  obtain ⟨Z, hZ⟩ : ∃ Z, Z = X3.alloc (.cells #[.slice ta' tn tc', .slice na' nn nc', .slice la' ln lc', .int .i64 st, .slice pa' n pc'] 42) := ⟨_, rfl⟩
  have HZ := show Hid _ from hZ
  have hgZ : X3.grownBy Z none := by rw [hZ]; exact World.grownBy_alloc X3 _ none
  have HXZ : Hid (X.grownBy Z none) := grown_trans HX2.out (grown_trans hg3 hgZ)
  rw [eL] at hN hGC
  obtain ⟨rn, rb, rd, hrn, hCp⟩ := GramNew.cp (Y := X2) (na := na') (pa := pa') (nc := nc') (pc := pc') (by exact hN) hg3 hZ
  rw [HLN.out.2.1] at hCp
  have HCp : Hid (CpAt X2 Z X3.heap.size #[.slice ta' tn tc', .slice na' nn nc', .slice la' ln lc', .int .i64 st, .slice pa' n pc'] na' pa' nn n rn rb rd) := hCp
  have HRN : Hid (∀ i, i < n → rn i ≤ 1048576) := fun i hi => by rw [hrn i hi]; exact H5.out i hi
  have KS1 : Hid (∀ Y, Z.grownBy Y none → Calls Try.prog 14 #[.agg #[.slice ta' tn tc', .slice na' nn nc', .slice la' ln lc', .int .i64 st, .slice pa' n pc'], .agg #[.slice ta tn tc, .slice na nn nc, .slice la ln lc, .int .i64 st, .slice pa n pc]] Y fun e w' => e = .returned (.bool true) ∧ Y.grownBy w' none) := fun Y hY => by
    have := rsame_any st st (hGC.kept (grown_trans hgZ hY)) (HG.out.kept (grown_trans HPX.out.grown (grown_trans HXZ.out hY))) true ⟨fun _ => ⟨rfl, rfl, rfl, rfl, rfl, fun i hi => by dsimp only; rw [grOf_at _ _ _ _ _ _ _ _ hi]; exact ⟨rfl, rfl, rfl⟩⟩, fun _ => rfl⟩
    rwa [e1, e2, e3, HLN.out.1, HLN.out.2.1, HLN.out.2.2] at this
  have KS2 : Hid (∀ Y, Z.grownBy Y none → Calls Try.prog 15 #[.agg #[.slice a1 tn c1, .slice a2 nn c2, .slice a3 ln c3, .int .i64 st, .slice a5 n c5], .agg #[.slice ta' tn tc', .slice na' nn nc', .slice la' ln lc', .int .i64 st, .slice pa' n pc']] Y fun e w' => e = .returned (.bool true) ∧ Y.grownBy w' none) := fun Y hY => by
    have := same_any st st (HGX.out.kept (grown_trans HXZ.out hY)) (hGC.kept (grown_trans hgZ hY)) true ⟨fun _ => ⟨rfl, rfl, rfl, rfl, rfl, fun i hi => by dsimp only; rw [grOf_at _ _ _ _ _ _ _ _ hi]; exact ⟨rfl, rfl, rfl⟩⟩, fun _ => rfl⟩
    rwa [e1, e2, e3, HLN.out.1, HLN.out.2.1, HLN.out.2.2] at this
  have HPZ : Hid (∀ Y, X.grownBy Y none → PhAt w Y b0 #[.slice ta tn tc, .slice na nn nc, .slice la ln lc, .int .i64 st, .slice pa n pc]) := fun Y hY => HPX.out.kept hY
  have HB0 : Hid (b0 < X3.heap.size) := by
    have := (Array.getElem?_eq_some_iff.1 (HPX.out.kept (grown_trans HX2.out hg3)).box).1
    exact this
  have hb0 := HB0.out
  obtain ⟨m0, m1, m2, m3, m4⟩ := ((HPX.out.kept (grown_trans HX2.out hg3))).cells
  have HCB : Hid (∀ Y, Z.grownBy Y none → Y.cell? ⟨X3.heap.size, 0, none⟩ = some (.slice ta' tn tc') ∧ Y.cell? ⟨X3.heap.size, 1, none⟩ = some (.slice na' nn nc') ∧ Y.cell? ⟨X3.heap.size, 2, none⟩ = some (.slice la' ln lc') ∧ Y.cell? ⟨X3.heap.size, 3, none⟩ = some (.int .i64 st) ∧ Y.cell? ⟨X3.heap.size, 4, none⟩ = some (.slice pa' n pc')) := fun Y hY => by
    have hb := (HCp.out.kept hY).box
    refine ⟨?_, ?_, ?_, ?_, ?_⟩ <;> (rw [cell_of_row _ _ _ _ _ _ hb]; rfl)
  rw [e1, e2, e3, eL]
  clear hN hg3 hGC hZ hgZ hCp hrn e1 e2 e3 eL HGX HM HL KV KC KCP HX1 HPX x0 x1 x2 x3 x4
  go_wp2_with fail
  rw [← HZ.out]
  refine Calls.mono (KS1.out Z (grown_refl _ _)) ?_
  rintro e Z1 ⟨rfl, hgZ1⟩
  have HZ1 : Hid (Z.grownBy Z1 none) := hgZ1
  clear hgZ1 m0 m1 m2 m3 m4 hb0 HB0 HZ
  generalize X3.heap.size = cb at *
  have HGD : Hid (Z.grownBy Z1.drew none) := grown_trans HZ1.out (grown_drewN Z1 1)
  obtain ⟨x0, x1, x2, x3, x4⟩ := HXC.out Z1 (grown_trans HXZ.out HZ1.out)
  obtain ⟨y0, y1, y2, y3, y4⟩ := HCB.out Z1 HZ1.out
  have HKP : Hid (∀ Y, Z.grownBy Y none → Y.cell? ⟨gb + 1, 0, none⟩ = some (.slice a1 tn c1) ∧ Y.cell? ⟨gb + 1, 1, none⟩ = some (.slice a2 nn c2) ∧ Y.cell? ⟨gb + 1, 2, none⟩ = some (.slice a3 ln c3) ∧ Y.cell? ⟨gb + 1, 3, none⟩ = some (.int .i64 st) ∧ Y.cell? ⟨gb + 1, 4, none⟩ = some (.slice a5 n c5) ∧ Y.cell? ⟨cb, 0, none⟩ = some (.slice ta' tn tc') ∧ Y.cell? ⟨cb, 1, none⟩ = some (.slice na' nn nc') ∧ Y.cell? ⟨cb, 2, none⟩ = some (.slice la' ln lc') ∧ Y.cell? ⟨cb, 3, none⟩ = some (.int .i64 st) ∧ Y.cell? ⟨cb, 4, none⟩ = some (.slice pa' n pc')) := fun Y hY => by
    obtain ⟨p0, p1, p2, p3, p4⟩ := HXC.out Y (grown_trans HXZ.out hY)
    obtain ⟨q0, q1, q2, q3, q4⟩ := HCB.out Y hY
    exact ⟨p0, p1, p2, p3, p4, q0, q1, q2, q3, q4⟩
  go_wp2_with fail
  go_region_held3 (fun w' => w'.cell? ⟨gb + 1, 0, none⟩ = some (.slice a1 tn c1) ∧ w'.cell? ⟨gb + 1, 1, none⟩ = some (.slice a2 nn c2) ∧ w'.cell? ⟨gb + 1, 2, none⟩ = some (.slice a3 ln c3) ∧ w'.cell? ⟨gb + 1, 3, none⟩ = some (.int .i64 st) ∧ w'.cell? ⟨gb + 1, 4, none⟩ = some (.slice a5 n c5) ∧ w'.cell? ⟨cb, 0, none⟩ = some (.slice ta' tn tc') ∧ w'.cell? ⟨cb, 1, none⟩ = some (.slice na' nn nc') ∧ w'.cell? ⟨cb, 2, none⟩ = some (.slice la' ln lc') ∧ w'.cell? ⟨cb, 3, none⟩ = some (.int .i64 st) ∧ w'.cell? ⟨cb, 4, none⟩ = some (.slice pa' n pc')) (first | exact HKP.out _ (grown_trans HGD.out hgZ2) | go_keep) ((go_at_call 15; refine Calls.mono (KS2.out _ HGD.out) ?_; rintro e Z2 ⟨rfl, hgZ2⟩))
  have HZ2 : Hid (Z.grownBy Z2 none) := grown_trans HGD.out hgZ2
  clear hgZ2 x0 x1 x2 x3 x4 y0 y1 y2 y3 y4 HKP HGD HZ1 KS1 KS2
  obtain ⟨m0, m1, m2, m3, m4⟩ := (HPZ.out Z2 (grown_trans HXZ.out HZ2.out)).cells
  go_wp2_with fail
  refine Calls.mono (KW.out Z2 (grown_trans HXZ.out HZ2.out)) ?_
  rintro e Z3 ⟨rfl, hgZ3⟩
  have HC3 : Hid (CpAt X2 Z3 cb #[.slice ta' tn tc', .slice na' nn nc', .slice la' ln lc', .int .i64 st, .slice pa' n pc'] na' pa' nn n rn rb rd) := HCp.out.kept (grown_trans HZ2.out hgZ3)
  clear hgZ3 m0 m1 m2 m3 m4 HZ2 HCp HCB HXC
  go_wp2_with fail
  go_loopg [11, 12] n (fun gk i v12 wr => ∃ k : Nat, k ≤ n ∧ gk = n - k ∧ i = .int .i64 k ∧ CpAt X2 wr cb #[.slice ta' tn tc', .slice na' nn nc', .slice la' ln lc', .int .i64 st, .slice pa' n pc'] na' pa' nn n rn rb rd)
  case atStart => exact ⟨0, Nat.zero_le _, rfl, rfl, HC3.out⟩
  case round =>
    obtain ⟨k, hk, hgk, rfl, hC⟩ := hrel
    have HC : Hid (CpAt X2 wr cb #[.slice ta' tn tc', .slice na' nn nc', .slice la' ln lc', .int .i64 st, .slice pa' n pc'] na' pa' nn n rn rb rd) := hC
    have HGK : Hid (gk = n - k) := hgk
    obtain ⟨y1, y4⟩ := hC.cells
    clear hC hgk HC3
    by_cases hlt : k < n
    · obtain ⟨gp, hpa⟩ : ∃ g, pa' = some ⟨g, 0, none⟩ := by
        rcases HC.out.p with h0 | ⟨g, _, e, _⟩
        · omega
        · exact ⟨g, e⟩
      subst hpa
      have HRR : Hid (∀ Y, CpAt X2 Y cb #[.slice ta' tn tc', .slice na' nn nc', .slice la' ln lc', .int .i64 st, .slice (some ⟨gp, 0, none⟩) n pc'] na' (some ⟨gp, 0, none⟩) nn n rn rb rd → Y.cell? ⟨gp, k * 3 + 1, none⟩ = some (.slice (rb k) (rn k) (rd k)) ∧ (∃ v, Y.cell? ⟨gp, k * 3, none⟩ = some v) ∧ Y.frozen? ⟨gp, k * 3, none⟩ = false) := fun Y hY => by
        rcases hY.p with h0 | ⟨g, cs, e, _, e2, e4, e3⟩
        · omega
        · have : gp = g := by simpa using e
          subst this
          refine ⟨by rw [cell_of_row _ _ _ _ _ _ e2, e3 k hlt], ⟨cs[k * 3]'(by omega), by rw [cell_of_row _ _ _ _ _ _ e2]; simp⟩, frozen_of_row _ _ _ _ _ e2⟩
      have hrl := HRN.out k hlt
      obtain ⟨len, hlen⟩ : ∃ len, len = rn k := ⟨_, rfl⟩
      have HLE : Hid (rn k = len) := hlen.symm
      obtain ⟨rk, hrk⟩ : ∃ rk, rk = rb k := ⟨_, rfl⟩
      have HRK : Hid (rb k = rk) := hrk.symm
      obtain ⟨ck, hck⟩ : ∃ ck, ck = rd k := ⟨_, rfl⟩
      rw [← hlen] at hrl HRR
      rw [← hrk, ← hck] at HRR
      clear hlen hrk hck
      go_wp2_with fail
      go_loopg [12] len (fun gx i wz => ∃ j : Nat, j ≤ len ∧ gx = len - j ∧ i = .int .i64 j ∧ CpAt X2 wz cb #[.slice ta' tn tc', .slice na' nn nc', .slice la' ln lc', .int .i64 st, .slice (some ⟨gp, 0, none⟩) n pc'] na' (some ⟨gp, 0, none⟩) nn n rn rb rd)
      case atStart => exact ⟨0, Nat.zero_le _, rfl, rfl, HC.out⟩
      case round =>
        obtain ⟨j, hj, hgx, rfl, hC⟩ := hrel
        have HGX : Hid (gk = len - j) := hgx
        have HC2 : Hid (CpAt X2 wr cb #[.slice ta' tn tc', .slice na' nn nc', .slice la' ln lc', .int .i64 st, .slice (some ⟨gp, 0, none⟩) n pc'] na' (some ⟨gp, 0, none⟩) nn n rn rb rd) := hC
        clear y1 y4
        obtain ⟨y1, y4⟩ := hC.cells
        obtain ⟨q1, ⟨v0, q0⟩, qf⟩ := HRR.out wr hC
        have HSR : Hid (len = 0 ∨ ∃ g, rk = some ⟨g, 0, none⟩ ∧ X2.heap.size ≤ g ∧ BlkW wr g 3 len) := by
          have := hC.r k hlt
          rw [HLE.out, HRK.out] at this
          exact this
        clear hC hgx
        by_cases hlj : j < len
        · obtain ⟨g, rfl, hg1, hblk⟩ : ∃ g, rk = some ⟨g, 0, none⟩ ∧ X2.heap.size ≤ g ∧ BlkW wr g 3 len := by
            rcases HSR.out with h0 | h0
            · omega
            · exact h0
          obtain ⟨⟨v1, hc⟩, hf⟩ := hblk.cell j hlj
          have HFIN : Hid (CpAt X2 (wr.setCell ⟨g, j, none⟩ (.int .i64 (-5))) cb #[.slice ta' tn tc', .slice na' nn nc', .slice la' ln lc', .int .i64 st, .slice (some ⟨gp, 0, none⟩) n pc'] na' (some ⟨gp, 0, none⟩) nn n rn rb rd) := HC2.out.set hblk (by decide) hg1 j (.int .i64 (-5))
          clear hblk HSR q0 qf
          go_wp2_with fail
          go_roundg (len - (j + 1))
          case measure => have := HGX.out; omega
          case rel => exact ⟨j + 1, by omega, rfl, by go_num, HFIN.out⟩
        · have HFIN : Hid (CpAt X2 (wr.setCell ⟨gp, k * 3, none⟩ (.int .i64 (-5))) cb #[.slice ta' tn tc', .slice na' nn nc', .slice la' ln lc', .int .i64 st, .slice (some ⟨gp, 0, none⟩) n pc'] na' (some ⟨gp, 0, none⟩) nn n rn rb rd) := HC2.out.setL rfl (by omega) k (.int .i64 (-5))
          clear HSR
          go_wp2_with fail
          go_roundg (n - (k + 1))
          case measure => have := HGK.out; omega
          case rel => exact ⟨k + 1, by omega, rfl, by go_num, HFIN.out⟩
    · go_wp2_with fail
      go_loopg [13] nn (fun gk i wr => ∃ k : Nat, k ≤ nn ∧ gk = nn - k ∧ i = .int .i64 k ∧ CpAt X2 wr cb #[.slice ta' tn tc', .slice na' nn nc', .slice la' ln lc', .int .i64 st, .slice pa' n pc'] na' pa' nn n rn rb rd)
      case atStart => exact ⟨0, Nat.zero_le _, rfl, rfl, HC.out⟩
      case round =>
        clear y1 y4
        obtain ⟨k2, hk2, hgk2, rfl, hC⟩ := hrel
        have HGK2 : Hid (gk = nn - k2) := hgk2
        have HC2 : Hid (CpAt X2 wr cb #[.slice ta' tn tc', .slice na' nn nc', .slice la' ln lc', .int .i64 st, .slice pa' n pc'] na' pa' nn n rn rb rd) := hC
        obtain ⟨y1, y4⟩ := hC.cells
        clear hC hgk2 HC
        by_cases hlt2 : k2 < nn
        · obtain ⟨g, rfl, hg1, hblk⟩ : ∃ g, na' = some ⟨g, 0, none⟩ ∧ X2.heap.size ≤ g ∧ BlkW wr g 9 nn := by
            rcases HC2.out.s with h0 | h0
            · omega
            · exact h0
          obtain ⟨⟨v1, hc⟩, hf⟩ := hblk.cell k2 hlt2
          have HFIN : Hid (CpAt X2 (wr.setCell ⟨g, k2, none⟩ (.string { data := #[109, 105, 110, 101] })) cb #[.slice ta' tn tc', .slice (some ⟨g, 0, none⟩) nn nc', .slice la' ln lc', .int .i64 st, .slice pa' n pc'] (some ⟨g, 0, none⟩) pa' nn n rn rb rd) := HC2.out.set hblk (by decide) hg1 k2 (.string { data := #[109, 105, 110, 101] })
          clear hblk
          go_wp2_with fail
          go_roundg (nn - (k2 + 1))
          case measure => have := HGK2.out; omega
          case rel => exact ⟨k2 + 1, by omega, rfl, by go_num, HFIN.out⟩
        · have HXW : Hid (X.grownBy wr none) := grown_trans HX2.out HC2.out.grown
          obtain ⟨m0, m1, m2, m3, m4⟩ := (HPZ.out wr HXW.out).cells
          clear HC2
          go_wp2_with fail
          refine Calls.mono (KW.out wr HXW.out) ?_
          rintro e Z4 ⟨rfl, hgZ4⟩
          have HP4 : Hid (PhAt w Z4 b0 #[.slice ta tn tc, .slice na nn nc, .slice la ln lc, .int .i64 st, .slice pa n pc]) := HPZ.out Z4 (grown_trans HXW.out hgZ4)
          clear hgZ4 m0 m1 m2 m3 m4
          obtain ⟨m0, m1, m2, m3, m4⟩ := HP4.out.cells
          go_wp2_with fail
          refine Calls.mono (KRV.out Z4 HP4.out.grown) ?_
          rintro e Z5 ⟨rfl, hgZ5⟩
          have HP5 : Hid (PhAt w Z5 b0 #[.slice ta tn tc, .slice na nn nc, .slice la ln lc, .int .i64 st, .slice pa n pc]) := HP4.out.kept hgZ5
          clear hgZ5 m0 m1 m2 m3 m4
          obtain ⟨m0, m1, m2, m3, m4⟩ := HP5.out.cells
          have hbV : (rV == rV) = true := by simp
          go_wp2_with fail
          refine Calls.mono (KRC.out Z5 HP5.out.grown) ?_
          rintro e Z6 ⟨rfl, hgZ6⟩
          have HG6 : Hid (w.grownBy Z6 none) := grown_trans HP5.out.grown hgZ6
          clear hgZ6 m0 m1 m2 m3 m4
          go_wp2_with fail
          go_ret
          exact ⟨by first | rfl | simp, HG6.out⟩

end Go.Proofs.Ytkbpnafahimeiaa
