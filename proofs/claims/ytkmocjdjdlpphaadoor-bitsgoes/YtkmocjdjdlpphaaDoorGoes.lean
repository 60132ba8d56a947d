/-
  BitsGoes, walked: it answers true, and nothing that was there turns.
-/
import Derived.Test.YtkmocjdjdlpphaaDoorGoesSteps
namespace Go.Proofs.YtkmocjdjdlpphaaDoor
open Go.RowKit Go.Shelf

attribute [local go_sem] Oper.semAt_some

set_option maxRecDepth 100000 in
set_option maxHeartbeats 8000000 in
theorem goes_in (q : Nat) (hq3 : 3 ≤ q) (c : Nat → Nat) (hC : CountIs c) (hle : ∀ x, c x ≤ 1024) (h10 : c 10 = 2) (h11 : c 11 = 3)
    (z : Int) (a1 a2 : Option Addr) (c1 c2 : Nat) (l1 l2 : List Int) (st : Int) (w : World) (hl1 : IntsAt w a1 l1) (hl2 : IntsAt w a2 l2)
    (hlen1 : l1.length < 1152921504606846976) (hlen2 : l2.length < 1152921504606846976) (hT : Tab w) (hw0 : 0 < w.heap.size) (hst1 : -9223372036854775808 ≤ st) (hst2 : st ≤ 9223372036854775807)
    (n m0 m1 : Nat) (M : List Int) (hn : clampN z = n) (hm0 : (addS n 0 l1).1 = m0) (hm1 : (dropS (addS n m0 l2).1 l1).1 = m1) (hM : mems 1024 m0 = M) (hMl : M.length ≤ 1024) :
    CallsIn Fence.wide q Tryd.prog 4 #[.int .i64 z, .slice a1 l1.length c1, .slice a2 l2.length c2, .int .i64 st] w fun e w' => e = .returned (.bool true) ∧ Below w.heap.size w w' := by
  obtain ⟨i0, hi, hz0, hz1, hz2⟩ := info_parts info3
  have HC : Hid (CountIs c) := hC
  have HLE : Hid (∀ x, c x ≤ 1024) := hle
  have HAW : Hid (∀ w, Calls Tryd.prog 7 #[] w fun e w' => e = .returned (.bool true) ∧ Below w.heap.size w w') := fun w => awake_any c hC h10 h11 w
  have HL1 : Hid (IntsAt w a1 l1) := hl1
  have HL2 : Hid (IntsAt w a2 l2) := hl2
  have HT : Hid (Tab w) := hT
  have HM : Hid (mems 1024 m0 = M) := hM
  have HM1 : Hid ((dropS (addS n m0 l2).1 l1).1 = m1) := hm1
  have HOF : Hid (∀ W, Below w.heap.size w W → Calls Tryd.prog 10 #[.int .i64 z, .slice a1 l1.length c1] W fun e w' => e = .returned (.pointer (some ⟨W.heap.size, 0, none⟩)) ∧ SetM w' (some ⟨W.heap.size, 0, none⟩) n m0 ∧ Below W.heap.size W w') := fun W hb => by
    subst hn; rw [← hm0]; exact of_any z a1 c1 l1 W (hl1.below hb) hlen1
  have HROF : Hid (∀ W, Below w.heap.size w W → Calls Tryd.prog 11 #[.int .i64 z, .slice a1 l1.length c1] W fun e w' => ∃ br, e = .returned (.pointer (some ⟨br, 0, none⟩)) ∧ W.heap.size < br ∧ RefAt w' br W.heap.size n m0 ∧ Below W.heap.size W w') := fun W hb => by
    subst hn; rw [← hm0]; exact refOf_any z a1 c1 l1 W (hl1.below hb) hlen1
  have hnil := fun (b : Nat) w' => eql_nilFunc #[.pointer (some ⟨b, 0, none⟩)] w'
  clear hC hle h10 h11 hl1 hl2 hT hM hm1 hm0 hn
  refine callsIn_of_wp_marks Tryd.func4 rfl trivial ?_ rfl
  simp only [Tryd.ntmps4, List.size_toArray, List.length_cons, List.length_nil, Nat.reduceAdd, Nat.reduceSub, Array.replicate_succ, Array.replicate_zero, List.push_toArray, List.append_toArray, List.nil_append, List.cons_append]
  refine wpIn_wide.2 ?_
  go_wp2_with fail
  refine (HAW.out _).mono ?_
  rintro e w1 ⟨rfl, hb1⟩
  have hbR : Below w.heap.size w w1 := ((Below.refl _ w).alloc (Nat.le_refl _) _).trans (hb1.mono (by simp))
  have hR1 : Boxed w1 w.heap.size 4 (.bool false) := (hb1.block w.heap.size (by simp)).trans (heap_alloc_last w _)
  have hs1 : w.heap.size < w1.heap.size := hR1.lt
  have HBR : Hid (Below w.heap.size w w1) := hbR
  have HR1 : Hid (Boxed w1 w.heap.size 4 (.bool false)) := hR1
  clear hb1 hbR hR1
  go_wp2_with fail
  refine (HOF.out _ HBR.out).mono ?_
  rintro e w2 ⟨rfl, hSx, hb2⟩
  have HB2 : Hid (Below w.heap.size w w2) := HBR.out.trans (hb2.mono HBR.out.size)
  have HR2 : Hid (Boxed w2 w.heap.size 4 (.bool false)) := (hb2.block _ hs1).trans HR1.out
  have HS2 : Hid (SetM w2 (some ⟨w1.heap.size, 0, none⟩) n m0) := hSx
  have hbx2 : w1.heap.size < w2.heap.size := hSx.row.lt
  generalize w1.heap.size = bx at *
  clear hSx hb2 HBR HR1
  go_wp2_with fail
  refine (HROF.out _ HB2.out).mono ?_
  rintro e w3 ⟨br, rfl, hbr, hRf, hb3⟩
  have HB3 : Hid (Below w.heap.size w w3) := HB2.out.trans (hb3.mono HB2.out.size)
  have HR3 : Hid (Boxed w3 w.heap.size 4 (.bool false)) := (hb3.block _ HR2.out.lt).trans HR2.out
  have HS3 : Hid (SetM w3 (some ⟨bx, 0, none⟩) n m0) := HS2.out.keep hb3
  have HF3 : Hid (RefAt w3 br w2.heap.size n m0) := hRf
  have hbr3 : br < w3.heap.size := hRf.ltr
  generalize w2.heap.size = bi at *
  clear hRf hb3 HB2 HR2 HS2
  go_wp2_with fail
  have hU := rmembers_any br bi n m0 w3 HF3.out
  rw [HM.out] at hU
  refine hU.mono ?_
  clear hU
  rintro e w4 ⟨v4, rfl, hown, hb4⟩
  obtain ⟨aw, cw, rfl, hw4⟩ := ints_from_own hown
  have HB4 : Hid (Below w.heap.size w w4) := HB3.out.trans (hb4.mono HB3.out.size)
  have HR4 : Hid (Boxed w4 w.heap.size 4 (.bool false)) := (hb4.block _ HR3.out.lt).trans HR3.out
  have HS4 : Hid (SetM w4 (some ⟨bx, 0, none⟩) n m0) := HS3.out.keep hb4
  have HF4 : Hid (RefAt w4 br bi n m0) := HF3.out.keep hb4
  have HW4 : Hid (IntsFrom w3.heap.size w4 aw M) := hw4
  have hs34 := hb4.size
  generalize w3.heap.size = lo at *
  clear hown hb4 hw4 HB3 HR3 HS3 HF3
  go_wp2_with fail
  have hb5a : Below w4.heap.size w4 (w4.alloc (.cells #[.slice aw M.length cw] 29)) := (Below.refl _ w4).alloc (Nat.le_refl _) _
  have HB5 : Hid (Below w.heap.size w (w4.alloc (.cells #[.slice aw M.length cw] 29))) := HB4.out.trans (hb5a.mono HB4.out.size)
  have HR5 : Hid (Boxed (w4.alloc (.cells #[.slice aw M.length cw] 29)) w.heap.size 4 (.bool false)) := HR4.out.alloc _
  have HS5 : Hid (SetM (w4.alloc (.cells #[.slice aw M.length cw] 29)) (some ⟨bx, 0, none⟩) n m0) := HS4.out.keep hb5a
  have HF5 : Hid (RefAt (w4.alloc (.cells #[.slice aw M.length cw] 29)) br bi n m0) := HF4.out.keep hb5a
  have HW5 : Hid (IntsFrom lo (w4.alloc (.cells #[.slice aw M.length cw] 29)) aw M) := HW4.out.keep hb5a
  have HBW5 : Hid (Boxed (w4.alloc (.cells #[.slice aw M.length cw] 29)) w4.heap.size 29 (.slice aw M.length cw)) := Boxed.new w4 29 _
  generalize w4.alloc (.cells #[.slice aw M.length cw] 29) = w5 at *
  generalize w4.heap.size = Bw at *
  clear hb5a HB4 HR4 HS4 HF4 HW4
  refine (all_any _ n m0 w5 HS5.out).mono ?_
  rintro e w6 ⟨ba, rfl, hba, hra, hb6⟩
  have hBw5 := HBW5.out.lt
  have HS6 : Hid (SetM w6 (some ⟨bx, 0, none⟩) n m0) := HS5.out.keep hb6
  have HB6 : Hid (Below w5.heap.size w5 w6) := hb6
  have HRA : Hid (RowAt w6 ba n (wd m0)) := hra
  have hs56 := hb6.size
  clear hb6 hra
  go_wp2_with fail
  refine (all_any _ n m0 w6 HS6.out).mono ?_
  rintro e w7 ⟨bg, rfl, hbg, hrg, hb7⟩
  have hb57 : Below w5.heap.size w5 w7 := HB6.out.trans (hb7.mono HB6.out.size)
  have hG : GInv w w7 w.heap.size bx bi br lo Bw ba bg n m0 m0 m0 aw cw M :=
    ⟨HB5.out.trans (hb57.mono HB5.out.size), (hb57.block _ HR5.out.lt).trans HR5.out, HS5.out.keep hb57, HF5.out.keep hb57, (hb57.block _ HBW5.out.lt).trans HBW5.out, HW5.out.keep hb57, HRA.out.below hb7 HRA.out.lt, hrg, by omega⟩
  have HG : Hid (GInv w w7 w.heap.size bx bi br lo Bw ba bg n m0 m0 m0 aw cw M) := hG
  clear hb7 hb57 hG hrg HB5 HR5 HS5 HF5 HW5 HBW5 HS6 HB6 HRA
  have hnf1 := hnil ba
  have hnf2 := hnil bg
  clear hnil
  go_wp2_with fail
  have hU := callsIn_wide.1 (members_in 3 (by omega) c HC.out HLE.out _ n m0 w7 HG.out.set (HT.out.below HG.out.bel hw0) (by have := HG.out.bel.size; omega))
  rw [HM.out] at hU
  refine hU.mono ?_
  clear hU
  rintro e w8 ⟨v8, rfl, hown8, hb8⟩
  obtain ⟨aM, cM, rfl, hi8⟩ := ints_from_own hown8
  have HOWN8 : Hid (w8.ownsRow w7.heap.size 3 1 (.slice aM M.length cM) M.length (M.map (Value.int .i64))) := hown8
  have HB8 : Hid (Below w7.heap.size w7 w8) := hb8
  clear hown8 hb8 hi8 hnf1 hnf2
  go_wp2_with fail
  go_loopw [15] (fun i wr => ∃ k : Nat, k ≤ M.length ∧ i = .int .i64 k ∧ (∃ xs, wr.ownsRow w7.heap.size 3 1 (.slice aM M.length cM) M.length xs) ∧ Below w7.heap.size w7 wr) (fun i _ => M.length - (intOf i).toNat)
  case atStart => exact ⟨0, Nat.zero_le _, rfl, ⟨_, HOWN8.out⟩, HB8.out⟩
  case round =>
    obtain ⟨k, hk, rfl, ⟨xs, hown⟩, hbel⟩ := hrel
    have HOWN : Hid (wr.ownsRow w7.heap.size 3 1 (.slice aM M.length cM) M.length xs) := hown
    have HBEL : Hid (Below w7.heap.size w7 wr) := hbel
    clear hown hbel
    by_cases hlt : k < M.length
    · obtain ⟨g, rfl, hg⟩ : ∃ g, aM = some ⟨g, 0, none⟩ ∧ w7.heap.size ≤ g := by
        rcases HOWN.out.2 with ⟨_, h0⟩ | ⟨g, cap, cur, hv, hg, _⟩
        · omega
        · simp only [Value.slice.injEq, true_and] at hv
          exact ⟨g, hv.1, hg⟩
      have hxl : xs.length = M.length := by have := HOWN.out.1; omega
      obtain ⟨x0, hx0⟩ : ∃ x0, xs[k]? = some x0 := ⟨_, List.getElem?_eq_getElem (by omega)⟩
      have hcell : wr.cell? ⟨g, k, none⟩ = some x0 := (HOWN.out.cellAt k (by omega)).trans hx0
      have hfz : wr.frozen? ⟨g, k, none⟩ = false := HOWN.out.frozenAt k
      go_wp2_with fail
      go_roundw
      case rel => exact ⟨k + 1, by omega, by go_num, ⟨_, (HOWN.out.stored k _).1⟩, HBEL.out.setCell (p := ⟨g, k, none⟩) hg _⟩
      case measure => simp [intOf]; omega
    · clear HB8
      go_wp2_with fail
      clear HOWN8
      go_loopw [14, 16] (fun v i wr => ∃ k : Nat, k ≤ 4 ∧ i = .int .i64 k ∧ (∃ xs, wr.ownsRow w7.heap.size 3 1 v (M.length + k) xs) ∧ Below w7.heap.size w7 wr) (fun _ i _ => 4 - (intOf i).toNat)
      case atStart => exact ⟨0, Nat.zero_le _, rfl, ⟨_, HOWN.out⟩, HBEL.out⟩
      case round =>
        clear HOWN HBEL
        obtain ⟨k, hk, rfl, ⟨xs, hown⟩, hbel⟩ := hrel
        have hwr := hbel.size
        have HBEL : Hid (Below w7.heap.size w7 wr) := hbel
        clear hbel
        by_cases hlt : k < 4
        · go_wp2_with (at_builtin; refine wpList_append_own _ rfl _ _ 29 rfl w7.heap.size 3 i0 (.int .i64 0) 1 8 Tryd.underlying29 hi hz0 hz1 hz2 rfl (by decide) _ _ _ rfl (hown.alloc _) ⟨wr.heap.size, 0, none⟩ 1 1 [.int .i64 5] rfl rfl (cell_one_new _ _ _) (by simp [Value.oneCell']) (by unfold maxLen; omega) (by omega) (by simp; omega) ?_; intro v' w1 hown' hgrow _)
          go_roundw
          case rel => exact ⟨k + 1, by omega, by go_num, ⟨_, hown'⟩, below_append HBEL.out hown hgrow⟩
          case measure => simp [intOf]; omega
        · have HG2 : Hid (GInv w wr w.heap.size bx bi br lo Bw ba bg n m0 m0 m0 aw cw M) := HG.out.keep HBEL.out
          obtain rfl : k = 4 := by omega
          clear HG hown HBEL hwr hlt hk
          generalize wr = w8 at *
          go_wp2_with fail
          refine (HG2.out.add a2 c2 l2 HL2.out hlen2).mono ?_
          rintro e w9 ⟨rfl, hg⟩
          have HG3 : Hid (GInv w w9 w.heap.size bx bi br lo Bw ba bg n m0 (addS n m0 l2).1 m0 aw cw M) := hg
          clear hg HG2
          go_wp2_with fail
          refine (HG3.out.drop a1 c1 l1 HL1.out hlen1).mono ?_
          rintro e w10 ⟨rfl, hg⟩
          rw [HM1.out] at hg
          have HG4 : Hid (GInv w w10 w.heap.size bx bi br lo Bw ba bg n m0 m1 m0 aw cw M) := hg
          have hcw := hg.wbox.cell
          clear hg HG3
          go_wp2_with fail
          rw [show ((M.length : Int) + 1) = ((M.length + 1 : Nat) : Int) from by omega]
          refine (pick_any st (M.length + 1) w10 hst1 hst2 (by omega) (by omega)).mono ?_
          have hkl := pickN_lt st (M.length + 1) (by omega)
          generalize pickN st (M.length + 1) = K at *
          rintro e w11 ⟨rfl, rfl⟩
          have hq1 : 1 ≤ q := by omega
          have hB0 : Bw < w11.heap.size := HG4.out.wbox.lt
          have hbr0 : br < w11.heap.size := HG4.out.ref.ltr
          have hbiK : bi < w11.heap.size := by omega
          have hws := HG4.out.bel.size
          by_cases hK0 : 0 < K
          · go_wp2_with fail
            have hV1 : Below w11.heap.size w11 ((w11.alloc (.cells #[.int .i64 K] 3)).alloc (.cells #[.int .i64 0] 3)) := ((Below.refl _ w11).alloc (Nat.le_refl _) _).alloc (by simp) _
            have hVk : Boxed ((w11.alloc (.cells #[.int .i64 K] 3)).alloc (.cells #[.int .i64 0] 3)) w11.heap.size 3 (.int .i64 K) := (Boxed.new w11 3 _).alloc _
            have hVn : Boxed ((w11.alloc (.cells #[.int .i64 K] 3)).alloc (.cells #[.int .i64 0] 3)) (w11.heap.size + 1) 3 (.int .i64 0) := by
              have := Boxed.new (w11.alloc (.cells #[.int .i64 K] 3)) 3 (.int .i64 0); simpa using this
            have hVs : ((w11.alloc (.cells #[.int .i64 K] 3)).alloc (.cells #[.int .i64 0] 3)).heap.size = w11.heap.size + 1 + 1 := by simp
            generalize (w11.alloc (.cells #[.int .i64 K] 3)).alloc (.cells #[.int .i64 0] 3) = V at *
            have HV1 : Hid (Below w11.heap.size w11 V) := hV1
            have HVK : Hid (Boxed V w11.heap.size 3 (.int .i64 K)) := hVk
            have hGV := HG4.out.keep hV1
            have hstop := all_stops (q - 1) ba (w11.heap.size + 1) n m0 V hGV.all (HT.out.below hGV.bel hw0) (by omega) (by omega)
            rw [HM.out] at hstop
            have HGV : Hid (GInv w V w.heap.size bx bi br lo Bw ba bg n m0 m1 m0 aw cw M) := hGV
            clear hGV hV1 hVk
            generalize hBn : w11.heap.size + 1 = Bn at *
            generalize hBk : w11.heap.size = Bk at *
            refine (wpIn_wide (n := q)).1 ?_
            refine wpIn_rangeFunc_ownG rfl hq1 (gf := 38) (lb := #[.pointer (some ⟨ba, 0, none⟩)]) rfl trivial (enters_of Tryd.func38 (by kernel_rfl) rfl)
              hstop belowK_t (belowK_b (by omega)) (Below.refl _ _) (fun _ => rfl)
              (fun pre W => Boxed W Bn 3 (.int .i64 (pre.length : Nat)) ∧ Below Bn V W ∧ (pre <+: M ∧ pre.length < K))
              (fun cc pre W => (cc = .ret ∧ ¬ pre <+: M) ∨ (cc = .exit 4 ∧ Boxed W Bn 3 (.int .i64 K) ∧ Below Bn V W)) ?hI1 ?hIx1 ⟨hVn, Below.refl _ _, List.nil_prefix, hK0⟩ ?a1 ?assign1 ?body1 ?done1 ?stop1
            case assign1 =>
              intro l x W K hK
              gi_wp2
              exact hK
            case hI1 => exact (ownFrom_boxed _ _ _ _).and ((ownFrom_below (by omega) (by omega)).and (ownFrom_pure _ _))
            case hIx1 =>
              rintro cc s A B row (h | ⟨h1, h2, h3⟩) hg hr
              · exact .inl h
              · exact .inr ⟨h1, ownFrom_boxed V.heap.size Bn 3 (fun _ : Unit => .int .i64 K) () A B row h2 hg hr, ownFrom_below (β := Unit) (by omega) (by omega) () A B row h3 hg hr⟩
            case body1 =>
              rintro l pre x W ⟨hbn, hbb, hpre, hpl⟩ _
              have hGW := HG4.out.keep (W' := W) (by rw [hBk]; exact HV1.out.trans (hbb.mono (by omega)))
              have hkk : Boxed W Bk 3 (.int .i64 K) := (hbb.block Bk (by omega)).trans HVK.out
              have hcR := hGW.box.cell
              have hfR := hGW.box.frozen
              have hcW := hGW.wbox.cell
              have hcK := hkk.cell
              have hcN := hbn.cell
              have hfN := hbn.frozen
              have hwas := hGW.was
              have HKEEP : Hid (∀ v, KeepsFrom V.heap.size W (W.setCell ⟨Bn, 0, none⟩ v)) := fun v => (KeepsOthers.setCell _ _ _).from _
              have HKEEP2 : Hid (∀ v, KeepsFrom V.heap.size W (W.setCell ⟨w.heap.size, 0, none⟩ v)) := fun v => (KeepsOthers.setCell _ _ _).from _
              have HBN : Hid (Boxed W Bn 3 (.int .i64 (pre.length : Nat))) := hbn
              have HBB : Hid (Below Bn V W) := hbb
              have HBB2 : Hid (∀ v, Below Bn W (W.setCell ⟨Bn, 0, none⟩ v)) := fun v => (Below.refl Bn W).setCell (p := ⟨Bn, 0, none⟩) (Nat.le_refl _) _
              have HPRE : Hid (pre <+: M) := hpre
              have hRW : w.heap.size ≠ Bn := by omega
              rcases hwas with h0 | ⟨g, rfl, hlo, hcells⟩
              · rw [h0] at hkl; simp at hkl; omega
              have hcG := hcells pre.length (by omega)
              have hpm : pre.length < M.length := by omega
              have HX : Hid (M.getD pre.length 0 = x ↔ (pre ++ [x]) <+: M) := next_is x hpre hpm
              generalize hPL : pre.length = pl at *
              generalize M.getD pl 0 = y at *
              clear hbn hbb hGW hkk hcells hpre hlo hstop HGV HVK HV1 HG4 hcw hVn
              by_cases hxy : x = y
              · have hbb : (x != y) = false := by simp [hxy]
                by_cases hlast : pl + 1 = K
                · have hbq : ((pl : Int) + 1 == (K : Int)) = true := by rw [beq_iff_eq]; omega
                  gi_wp2
                  refine ⟨HKEEP.out _, .inr ⟨rfl, ?_, HBB.out.trans (HBB2.out _)⟩⟩
                  have := HBN.out.set (.int .i64 ((pl : Int) + 1))
                  rw [show ((K : Nat) : Int) = (pl : Int) + 1 from by omega]
                  exact this
                · have hbq : ((pl : Int) + 1 == (K : Int)) = false := by rw [beq_eq_false_iff_ne]; omega
                  gi_wp2
                  refine ⟨HKEEP.out _, HBB2.out _, ?_, HBB.out.trans (HBB2.out _), HX.out.1 hxy.symm, by simp; omega⟩
                  have := HBN.out.set (.int .i64 ((pl : Int) + 1))
                  rw [List.length_append, hPL]
                  simpa using this
              · have hbb : (x != y) = true := by simp [hxy]
                gi_wp2
                refine ⟨HKEEP2.out _, .inl ⟨rfl, fun h => hxy (HX.out.2 h).symm⟩⟩
            case done1 =>
              rintro D xs W hD hxs ⟨_, _, hp, hl⟩ _
              subst hxs
              omega
            case stop1 =>
              rintro D1 cc pre X1 hD hpre hx hK
              rcases hx with ⟨_, h⟩ | ⟨rfl, hbn, hbb⟩
              · exact absurd hpre h
              have hbW : Below Bk w11 X1 := HV1.out.trans (hbb.mono (by omega))
              have hMid : GMid w X1 w.heap.size bx bi br lo Bw ba bg n m0 m1 m0 aw cw M Bk Bn K [D1] :=
                ⟨HG4.out.keep (by rw [hBk]; exact hbW), (hbb.block Bk (by omega)).trans HVK.out, hbn, fun D hD' => by simp at hD'; subst hD'; exact ⟨by omega, hK⟩, by simp, by omega⟩
              have HMid : Hid (GMid w X1 w.heap.size bx bi br lo Bw ba bg n m0 m1 m0 aw cw M Bk Bn K [D1]) := hMid
              clear hMid hbW hbb hbn hK hpre hD hstop HGV HVK HV1 hVn hVs hcw
              refine wpIn_wide.2 ?_
              go_wp2_with fail
              have hX2 : Below X1.heap.size X1 (X1.alloc (.cells #[.slice none 0 0] 29)) := (Below.refl _ X1).alloc (Nat.le_refl _) _
              have hO2 : Boxed (X1.alloc (.cells #[.slice none 0 0] 29)) X1.heap.size 29 (.slice none 0 0) := Boxed.new X1 29 _
              have hYs2 : (X1.alloc (.cells #[.slice none 0 0] 29)).heap.size = X1.heap.size + 1 := by simp
              have hKlt2 : Bk < X1.heap.size := HMid.out.kbox.lt
              have hWlt2 : Bw < X1.heap.size := HMid.out.inv.wbox.lt
              generalize X1.alloc (.cells #[.slice none 0 0] 29) = Y2 at *
              have hMY := HMid.out.keep hX2
              have hstop2 := all_stops (q - 1) ba X1.heap.size n m0 Y2 hMY.inv.all (HT.out.below hMY.inv.bel hw0) (by omega) (by omega)
              rw [HM.out] at hstop2
              have HX2 : Hid (Below X1.heap.size X1 Y2) := hX2
              clear hMY hX2
              generalize hBo : X1.heap.size = Bo at *
              refine (wpIn_wide (n := q)).1 ?_
              refine wpIn_rangeFunc_ownG rfl hq1 (gf := 38) (lb := #[.pointer (some ⟨ba, 0, none⟩)]) rfl trivial (enters_of Tryd.func38 (by kernel_rfl) rfl)
                hstop2 belowK_t (belowK_b (by omega)) (Below.refl _ _) (fun _ => rfl)
                (fun pre W => (∃ v, Boxed W Bo 29 v ∧ W.ownsRow Bo 3 1 v pre.length (pre.map (Value.int .i64)) ∧ True) ∧ Below Bo Y2 W)
                (fun _ pre _ => M.length < pre.length) ?hI2 ?hIx2 ⟨⟨_, hO2, World.ownsRow_nil _ _ _ _, trivial⟩, Below.refl _ _⟩ ?a2 ?assign2 ?body2 ?done2 ?stop2
              case assign2 =>
                intro l x W K hK
                gi_wp2
                exact hK
              case hI2 => exact (Own.from (holdsRow_own Bo Bo 29 3 1 (fun pre : List Int => pre.length) (fun pre : List Int => pre.map (Value.int .i64)) (fun _ _ => True)) _).and (ownFrom_below (by omega) (by omega))
              case hIx2 => exact fun _ => ownFrom_pure _ _
              case stop2 =>
                rintro D cc pre W _ hpre hlt _
                exact absurd hpre.length_le (by omega)
              case body2 =>
                rintro l pre x W ⟨⟨v, hv, hrow, _⟩, hB⟩ hlt
                have hGW := HMid.out.inv.keep (W' := W) (by rw [hBo]; exact HX2.out.trans hB)
                have hc := hv.cell
                have hBs := hB.size
                have hRlt : w.heap.size < Bo := by omega
                have HBXW : Hid (Boxed W Bw 29 (.slice aw M.length cw)) := hGW.wbox
                have HBXR : Hid (Boxed W w.heap.size 4 (.bool false)) := hGW.box
                have hcW := hGW.wbox.cell
                clear hGW hstop2 hO2 HMid HG4
                by_cases hlong : pre.length + 1 ≤ M.length
                · have hgt : ((M.length : Int) < (pre.length : Int) + 1) = False := by rw [eq_iff_iff, iff_false]; omega
                  gi_wp2_with (gi_at_builtin; refine wpListIn_append_own _ rfl _ _ 29 rfl Bo 3 i0 (.int .i64 0) 1 8 Tryd.underlying29 hi hz0 hz1 hz2 rfl (by decide) _ _ _ rfl (hrow.alloc _) ⟨W.heap.size, 0, none⟩ 1 1 [.int .i64 x] rfl rfl (cell_one_new _ _ _) (by simp [Value.oneCell']) (by unfold maxLen; omega) (by omega) (by simp; omega) ?_; intro v' w1 hown' hgrow _; obtain ⟨g', cap', rfl⟩ := ownsRow_succ hown'; obtain ⟨hv1, hv2, hr2, hk2, hb2⟩ := hv.appended (by decide) hrow (by omega) (Nat.le_refl _) hown' hgrow; have hc1 := hv1.cell; have hf1 := hv1.frozen; have hc2 := hv2.cell; have hcW2 := Boxed.cell (t := 29) ((hb2.block Bw hWlt2).trans HBXW.out))
                  exact ⟨hk2.from _, hb2, ⟨_, hv2, by simpa using hr2, trivial⟩, hB.trans hb2⟩
                · have hgt : ((M.length : Int) < (pre.length : Int) + 1) = True := by rw [eq_iff_iff, iff_true]; omega
                  gi_wp2_with (gi_at_builtin; refine wpListIn_append_own _ rfl _ _ 29 rfl Bo 3 i0 (.int .i64 0) 1 8 Tryd.underlying29 hi hz0 hz1 hz2 rfl (by decide) _ _ _ rfl (hrow.alloc _) ⟨W.heap.size, 0, none⟩ 1 1 [.int .i64 x] rfl rfl (cell_one_new _ _ _) (by simp [Value.oneCell']) (by unfold maxLen; omega) (by omega) (by simp; omega) ?_; intro v' w1 hown' hgrow _; obtain ⟨g', cap', rfl⟩ := ownsRow_succ hown'; obtain ⟨hv1, hv2, hr2, hk2, hb2⟩ := hv.appended (by decide) hrow (by omega) (Nat.le_refl _) hown' hgrow; have hc1 := hv1.cell; have hf1 := hv1.frozen; have hc2 := hv2.cell; have hcW2 := Boxed.cell (t := 29) ((hb2.block Bw hWlt2).trans HBXW.out); have hcR2 := Boxed.cell (t := 4) ((hb2.block w.heap.size hRlt).trans HBXR.out); have hfR2 := Boxed.frozen (t := 4) ((hb2.block w.heap.size hRlt).trans HBXR.out))
                  exact ⟨(hk2.trans (KeepsOthers.setCell _ _ _)).from _, by simp; omega⟩
              case done2 =>
                rintro D2 ys X2 hD hys ⟨⟨v, hv, hrow, _⟩, hB⟩ hK
                rw [hys] at hrow
                obtain ⟨aBo, cBo, rfl, hio⟩ := ints_from_own hrow
                have hb2 : Below X1.heap.size X1 X2 := by rw [hBo]; exact HX2.out.trans hB
                have hMid := HMid.out.mark hb2 (D := D2) (by omega) hK
                have HMid' : Hid (GMid w X2 w.heap.size bx bi br lo Bw ba bg n m0 m1 m0 aw cw M Bk Bn K (D2 :: [D1])) := hMid
                have HBo : Hid (Boxed X2 Bo 29 (.slice aBo M.length cBo) ∧ IntsFrom Bo X2 aBo M) := ⟨hv, hio⟩
                clear HMid
                have HMid := HMid'
                clear HMid' hMid hb2 hio hv hrow hB hK hstop2 hO2 HX2 hys
                go_wp2_with fail
                have hX3 : Below X2.heap.size X2 (X2.alloc (.cells #[.slice none 0 0] 29)) := (Below.refl _ X2).alloc (Nat.le_refl _) _
                have hO3 : Boxed (X2.alloc (.cells #[.slice none 0 0] 29)) X2.heap.size 29 (.slice none 0 0) := Boxed.new X2 29 _
                have hYs3 : (X2.alloc (.cells #[.slice none 0 0] 29)).heap.size = X2.heap.size + 1 := by simp
                have hKlt3 : Bk < X2.heap.size := HMid.out.kbox.lt
                have hWlt3 : Bw < X2.heap.size := HMid.out.inv.wbox.lt
                generalize X2.alloc (.cells #[.slice none 0 0] 29) = Y3 at *
                have hMY := HMid.out.keep hX3
                have hstop3 := all_stops (q - 1) bg X2.heap.size n m0 Y3 hMY.inv.again (HT.out.below hMY.inv.bel hw0) (by omega) (by omega)
                rw [HM.out] at hstop3
                have HX3 : Hid (Below X2.heap.size X2 Y3) := hX3
                clear hMY hX3
                generalize hBt : X2.heap.size = Bt at *
                refine (wpIn_wide (n := q)).1 ?_
                refine wpIn_rangeFunc_ownG rfl hq1 (gf := 38) (lb := #[.pointer (some ⟨bg, 0, none⟩)]) rfl trivial (enters_of Tryd.func38 (by kernel_rfl) rfl)
                  hstop3 belowK_t (belowK_b (by omega)) (Below.refl _ _) (fun _ => rfl)
                  (fun pre W => (∃ v, Boxed W Bt 29 v ∧ W.ownsRow Bt 3 1 v pre.length (pre.map (Value.int .i64)) ∧ True) ∧ Below Bt Y3 W)
                  (fun _ pre _ => M.length < pre.length) ?hI3 ?hIx3 ⟨⟨_, hO3, World.ownsRow_nil _ _ _ _, trivial⟩, Below.refl _ _⟩ ?a3 ?assign3 ?body3 ?done3 ?stop3
                case assign3 =>
                  intro l x W K hK
                  gi_wp2
                  exact hK
                case hI3 => exact (Own.from (holdsRow_own Bt Bt 29 3 1 (fun pre : List Int => pre.length) (fun pre : List Int => pre.map (Value.int .i64)) (fun _ _ => True)) _).and (ownFrom_below (by omega) (by omega))
                case hIx3 => exact fun _ => ownFrom_pure _ _
                case stop3 =>
                  rintro D cc pre W _ hpre hlt _
                  exact absurd hpre.length_le (by omega)
                case body3 =>
                  rintro l pre x W ⟨⟨v, hv, hrow, _⟩, hB⟩ hlt
                  have hGW := HMid.out.inv.keep (W' := W) (by rw [hBt]; exact HX3.out.trans hB)
                  have hc := hv.cell
                  have hBs := hB.size
                  have hRlt : w.heap.size < Bt := by omega
                  have HBXW : Hid (Boxed W Bw 29 (.slice aw M.length cw)) := hGW.wbox
                  have HBXR : Hid (Boxed W w.heap.size 4 (.bool false)) := hGW.box
                  have hcW := hGW.wbox.cell
                  clear hGW hstop3 hO3 HMid HG4
                  by_cases hlong : pre.length + 1 ≤ M.length
                  · have hgt : ((M.length : Int) < (pre.length : Int) + 1) = False := by rw [eq_iff_iff, iff_false]; omega
                    gi_wp2_with (gi_at_builtin; refine wpListIn_append_own _ rfl _ _ 29 rfl Bt 3 i0 (.int .i64 0) 1 8 Tryd.underlying29 hi hz0 hz1 hz2 rfl (by decide) _ _ _ rfl (hrow.alloc _) ⟨W.heap.size, 0, none⟩ 1 1 [.int .i64 x] rfl rfl (cell_one_new _ _ _) (by simp [Value.oneCell']) (by unfold maxLen; omega) (by omega) (by simp; omega) ?_; intro v' w1 hown' hgrow _; obtain ⟨g', cap', rfl⟩ := ownsRow_succ hown'; obtain ⟨hv1, hv2, hr2, hk2, hb2⟩ := hv.appended (by decide) hrow (by omega) (Nat.le_refl _) hown' hgrow; have hc1 := hv1.cell; have hf1 := hv1.frozen; have hc2 := hv2.cell; have hcW2 := Boxed.cell (t := 29) ((hb2.block Bw hWlt3).trans HBXW.out))
                    exact ⟨hk2.from _, hb2, ⟨_, hv2, by simpa using hr2, trivial⟩, hB.trans hb2⟩
                  · have hgt : ((M.length : Int) < (pre.length : Int) + 1) = True := by rw [eq_iff_iff, iff_true]; omega
                    gi_wp2_with (gi_at_builtin; refine wpListIn_append_own _ rfl _ _ 29 rfl Bt 3 i0 (.int .i64 0) 1 8 Tryd.underlying29 hi hz0 hz1 hz2 rfl (by decide) _ _ _ rfl (hrow.alloc _) ⟨W.heap.size, 0, none⟩ 1 1 [.int .i64 x] rfl rfl (cell_one_new _ _ _) (by simp [Value.oneCell']) (by unfold maxLen; omega) (by omega) (by simp; omega) ?_; intro v' w1 hown' hgrow _; obtain ⟨g', cap', rfl⟩ := ownsRow_succ hown'; obtain ⟨hv1, hv2, hr2, hk2, hb2⟩ := hv.appended (by decide) hrow (by omega) (Nat.le_refl _) hown' hgrow; have hc1 := hv1.cell; have hf1 := hv1.frozen; have hc2 := hv2.cell; have hcW2 := Boxed.cell (t := 29) ((hb2.block Bw hWlt3).trans HBXW.out); have hcR2 := Boxed.cell (t := 4) ((hb2.block w.heap.size hRlt).trans HBXR.out); have hfR2 := Boxed.frozen (t := 4) ((hb2.block w.heap.size hRlt).trans HBXR.out))
                    exact ⟨(hk2.trans (KeepsOthers.setCell _ _ _)).from _, by simp; omega⟩
                case done3 =>
                  rintro D3 ys X3 hD hys ⟨⟨v, hv, hrow, _⟩, hB⟩ hK
                  rw [hys] at hrow
                  obtain ⟨aBt, cBt, rfl, hio⟩ := ints_from_own hrow
                  have hb3 : Below X2.heap.size X2 X3 := by rw [hBt]; exact HX3.out.trans hB
                  have hMid := HMid.out.mark hb3 (D := D3) (by omega) hK
                  have HMid' : Hid (GMid w X3 w.heap.size bx bi br lo Bw ba bg n m0 m1 m0 aw cw M Bk Bn K (D3 :: D2 :: [D1])) := hMid
                  have HBt : Hid (Boxed X3 Bt 29 (.slice aBt M.length cBt) ∧ IntsFrom Bt X3 aBt M) := ⟨hv, hio⟩
                  have HBo' : Hid (Boxed X3 Bo 29 (.slice aBo M.length cBo) ∧ IntsFrom Bo X3 aBo M) := ⟨(hb3.block Bo HBo.out.1.lt).trans HBo.out.1, HBo.out.2.keep hb3⟩
                  clear HBo
                  have HBo := HBo'
                  clear HBo'
                  clear HMid
                  have HMid := HMid'
                  clear HMid' hMid hb3 hio hv hrow hB hK hstop3 hO3 HX3 hys
                  go_wp2_with fail
                  refine (HMid.out.inv.radd a2 c2 l2 HL2.out hlen2).mono ?_
                  rintro e w12 ⟨rfl, hbt, hg⟩
                  have HMid4 : Hid (GMid w w12 w.heap.size bx bi br lo Bw ba bg n m0 m1 (addS n m0 l2).1 aw cw M Bk Bn K (D3 :: D2 :: [D1])) := HMid.out.turn hbt hg
                  have HO4 : Hid (Boxed w12 Bo 29 (.slice aBo M.length cBo) ∧ IntsFrom Bo w12 aBo M) := ⟨(hbt.block Bo HBo.out.1.lt (by omega)).trans HBo.out.1, HBo.out.2.but hbt (by omega)⟩
                  have HT4 : Hid (Boxed w12 Bt 29 (.slice aBt M.length cBt) ∧ IntsFrom Bt w12 aBt M) := ⟨(hbt.block Bt HBt.out.1.lt (by omega)).trans HBt.out.1, HBt.out.2.but hbt (by omega)⟩
                  clear hbt hg HMid HBo HBt
                  go_wp2_with fail
                  refine (HMid4.out.inv.rdrop a1 c1 l1 HL1.out hlen1).mono ?_
                  rintro e w13 ⟨rfl, hbt, hg⟩
                  have hMid5 := HMid4.out.turn hbt hg
                  rw [HM1.out] at hMid5
                  have HMid5 : Hid (GMid w w13 w.heap.size bx bi br lo Bw ba bg n m0 m1 m1 aw cw M Bk Bn K (D3 :: D2 :: [D1])) := hMid5
                  have HO5 : Hid (Boxed w13 Bo 29 (.slice aBo M.length cBo) ∧ IntsFrom Bo w13 aBo M) := ⟨(hbt.block Bo HO4.out.1.lt (by omega)).trans HO4.out.1, HO4.out.2.but hbt (by omega)⟩
                  have HT5 : Hid (Boxed w13 Bt 29 (.slice aBt M.length cBt) ∧ IntsFrom Bt w13 aBt M) := ⟨(hbt.block Bt HT4.out.1.lt (by omega)).trans HT4.out.1, HT4.out.2.but hbt (by omega)⟩
                  clear hbt hg HMid4 HO4 HT4 hMid5
                  have hcN := HMid5.out.nbox.cell
                  have hcK := HMid5.out.kbox.cell
                  have hcO := HO5.out.1.cell
                  have hcT := HT5.out.1.cell
                  have hcW := HMid5.out.inv.wbox.cell
                  have hcR := HMid5.out.inv.box.cell
                  have hfR := HMid5.out.inv.box.frozen
                  have hkk : ((K : Int) == (K : Int)) = true := by simp
                  go_wp2_with fail
                  refine (ints_same hMl HO5.out.2.ints HMid5.out.inv.was.ints).mono ?_
                  rintro e w14 ⟨rfl, j1, rfl⟩
                  go_wp2_with fail
                  refine (ints_same hMl (HT5.out.2.keep (Below.drewN' (Below.refl _ w13) j1)).ints (HMid5.out.inv.was.keep (Below.drewN' (Below.refl _ w13) j1)).ints).mono ?_
                  rintro e w15 ⟨rfl, j2, hw⟩
                  rw [World.drewN_drewN] at hw
                  subst hw
                  have HMid6 : Hid (GMid w (w13.drewN (j1 + j2)) w.heap.size bx bi br lo Bw ba bg n m0 m1 m1 aw cw M Bk Bn K (D3 :: D2 :: [D1])) := HMid5.out.keep (Below.drewN' (Below.refl _ w13) (j1 + j2))
                  clear HMid5 HO5 HT5 hcN hcK hcO hcT hcW hcR hfR
                  generalize w13.drewN (j1 + j2) = w15 at *
                  go_wp2_with fail
                  refine (is_any bx br bi n m1 w15 (HMid6.out.inv.alike HT.out hw0)).mono ?_
                  rintro e w16 ⟨rfl, hb16⟩
                  have HMid7 : Hid (GMid w w16 w.heap.size bx bi br lo Bw ba bg n m0 m1 m1 aw cw M Bk Bn K (D3 :: D2 :: [D1])) := HMid6.out.keep hb16
                  clear hb16 HMid6
                  have hcR := HMid7.out.inv.box.cell
                  have hfR := HMid7.out.inv.box.frozen
                  go_wp2_with fail
                  exact HMid7.out.leave true rfl _ rfl
          · have hK00 : K = 0 := by omega
            subst hK00
            go_wp2_with fail
            have hV1 : Below w11.heap.size w11 ((w11.alloc (.cells #[.int .i64 0] 3)).alloc (.cells #[.int .i64 0] 3)) := ((Below.refl _ w11).alloc (Nat.le_refl _) _).alloc (by simp) _
            have hVk : Boxed ((w11.alloc (.cells #[.int .i64 0] 3)).alloc (.cells #[.int .i64 0] 3)) w11.heap.size 3 (.int .i64 0) := (Boxed.new w11 3 _).alloc _
            have hVn : Boxed ((w11.alloc (.cells #[.int .i64 0] 3)).alloc (.cells #[.int .i64 0] 3)) (w11.heap.size + 1) 3 (.int .i64 0) := by
              have := Boxed.new (w11.alloc (.cells #[.int .i64 0] 3)) 3 (.int .i64 0); simpa using this
            have hVs : w11.heap.size + 1 + 1 = ((w11.alloc (.cells #[.int .i64 0] 3)).alloc (.cells #[.int .i64 0] 3)).heap.size := by simp
            rw [hVs]
            generalize (w11.alloc (.cells #[.int .i64 0] 3)).alloc (.cells #[.int .i64 0] 3) = X1 at *
            have hMid : GMid w X1 w.heap.size bx bi br lo Bw ba bg n m0 m1 m0 aw cw M w11.heap.size (w11.heap.size + 1) 0 [] :=
              ⟨HG4.out.keep hV1, hVk, hVn, fun D hD' => by simp at hD', by simp, by omega⟩
            have HMid : Hid (GMid w X1 w.heap.size bx bi br lo Bw ba bg n m0 m1 m0 aw cw M w11.heap.size (w11.heap.size + 1) 0 []) := hMid
            clear hMid hV1 hVk hVn hVs hcw
            generalize hBn : w11.heap.size + 1 = Bn at *
            generalize hBk : w11.heap.size = Bk at *
            have hX4 : Below X1.heap.size X1 (X1.alloc (.cells #[.slice none 0 0] 29)) := (Below.refl _ X1).alloc (Nat.le_refl _) _
            have hO4 : Boxed (X1.alloc (.cells #[.slice none 0 0] 29)) X1.heap.size 29 (.slice none 0 0) := Boxed.new X1 29 _
            have hYs4 : (X1.alloc (.cells #[.slice none 0 0] 29)).heap.size = X1.heap.size + 1 := by simp
            have hKlt4 : Bk < X1.heap.size := HMid.out.kbox.lt
            have hWlt4 : Bw < X1.heap.size := HMid.out.inv.wbox.lt
            generalize X1.alloc (.cells #[.slice none 0 0] 29) = Y2 at *
            have hMY := HMid.out.keep hX4
            have hstop4 := all_stops (q - 1) ba X1.heap.size n m0 Y2 hMY.inv.all (HT.out.below hMY.inv.bel hw0) (by omega) (by omega)
            rw [HM.out] at hstop4
            have HX4 : Hid (Below X1.heap.size X1 Y2) := hX4
            clear hMY hX4
            generalize hBo : X1.heap.size = Bo at *
            refine (wpIn_wide (n := q)).1 ?_
            refine wpIn_rangeFunc_ownG rfl hq1 (gf := 38) (lb := #[.pointer (some ⟨ba, 0, none⟩)]) rfl trivial (enters_of Tryd.func38 (by kernel_rfl) rfl)
              hstop4 belowK_t (belowK_b (by omega)) (Below.refl _ _) (fun _ => rfl)
              (fun pre W => (∃ v, Boxed W Bo 29 v ∧ W.ownsRow Bo 3 1 v pre.length (pre.map (Value.int .i64)) ∧ True) ∧ Below Bo Y2 W)
              (fun _ pre _ => M.length < pre.length) ?hI4 ?hIx4 ⟨⟨_, hO4, World.ownsRow_nil _ _ _ _, trivial⟩, Below.refl _ _⟩ ?a4 ?assign4 ?body4 ?done4 ?stop4
            case assign4 =>
              intro l x W K hK
              gi_wp2
              exact hK
            case hI4 => exact (Own.from (holdsRow_own Bo Bo 29 3 1 (fun pre : List Int => pre.length) (fun pre : List Int => pre.map (Value.int .i64)) (fun _ _ => True)) _).and (ownFrom_below (by omega) (by omega))
            case hIx4 => exact fun _ => ownFrom_pure _ _
            case stop4 =>
              rintro D cc pre W _ hpre hlt _
              exact absurd hpre.length_le (by omega)
            case body4 =>
              rintro l pre x W ⟨⟨v, hv, hrow, _⟩, hB⟩ hlt
              have hGW := HMid.out.inv.keep (W' := W) (by rw [hBo]; exact HX4.out.trans hB)
              have hc := hv.cell
              have hBs := hB.size
              have hRlt : w.heap.size < Bo := by omega
              have HBXW : Hid (Boxed W Bw 29 (.slice aw M.length cw)) := hGW.wbox
              have HBXR : Hid (Boxed W w.heap.size 4 (.bool false)) := hGW.box
              have hcW := hGW.wbox.cell
              clear hGW hstop4 hO4 HMid HG4
              by_cases hlong : pre.length + 1 ≤ M.length
              · have hgt : ((M.length : Int) < (pre.length : Int) + 1) = False := by rw [eq_iff_iff, iff_false]; omega
                gi_wp2_with (gi_at_builtin; refine wpListIn_append_own _ rfl _ _ 29 rfl Bo 3 i0 (.int .i64 0) 1 8 Tryd.underlying29 hi hz0 hz1 hz2 rfl (by decide) _ _ _ rfl (hrow.alloc _) ⟨W.heap.size, 0, none⟩ 1 1 [.int .i64 x] rfl rfl (cell_one_new _ _ _) (by simp [Value.oneCell']) (by unfold maxLen; omega) (by omega) (by simp; omega) ?_; intro v' w1 hown' hgrow _; obtain ⟨g', cap', rfl⟩ := ownsRow_succ hown'; obtain ⟨hv1, hv2, hr2, hk2, hb2⟩ := hv.appended (by decide) hrow (by omega) (Nat.le_refl _) hown' hgrow; have hc1 := hv1.cell; have hf1 := hv1.frozen; have hc2 := hv2.cell; have hcW2 := Boxed.cell (t := 29) ((hb2.block Bw hWlt4).trans HBXW.out))
                exact ⟨hk2.from _, hb2, ⟨_, hv2, by simpa using hr2, trivial⟩, hB.trans hb2⟩
              · have hgt : ((M.length : Int) < (pre.length : Int) + 1) = True := by rw [eq_iff_iff, iff_true]; omega
                gi_wp2_with (gi_at_builtin; refine wpListIn_append_own _ rfl _ _ 29 rfl Bo 3 i0 (.int .i64 0) 1 8 Tryd.underlying29 hi hz0 hz1 hz2 rfl (by decide) _ _ _ rfl (hrow.alloc _) ⟨W.heap.size, 0, none⟩ 1 1 [.int .i64 x] rfl rfl (cell_one_new _ _ _) (by simp [Value.oneCell']) (by unfold maxLen; omega) (by omega) (by simp; omega) ?_; intro v' w1 hown' hgrow _; obtain ⟨g', cap', rfl⟩ := ownsRow_succ hown'; obtain ⟨hv1, hv2, hr2, hk2, hb2⟩ := hv.appended (by decide) hrow (by omega) (Nat.le_refl _) hown' hgrow; have hc1 := hv1.cell; have hf1 := hv1.frozen; have hc2 := hv2.cell; have hcW2 := Boxed.cell (t := 29) ((hb2.block Bw hWlt4).trans HBXW.out); have hcR2 := Boxed.cell (t := 4) ((hb2.block w.heap.size hRlt).trans HBXR.out); have hfR2 := Boxed.frozen (t := 4) ((hb2.block w.heap.size hRlt).trans HBXR.out))
                exact ⟨(hk2.trans (KeepsOthers.setCell _ _ _)).from _, by simp; omega⟩
            case done4 =>
              rintro D2 ys X2 hD hys ⟨⟨v, hv, hrow, _⟩, hB⟩ hK
              rw [hys] at hrow
              obtain ⟨aBo, cBo, rfl, hio⟩ := ints_from_own hrow
              have hb4 : Below X1.heap.size X1 X2 := by rw [hBo]; exact HX4.out.trans hB
              have hMid := HMid.out.mark hb4 (D := D2) (by omega) hK
              have HMid' : Hid (GMid w X2 w.heap.size bx bi br lo Bw ba bg n m0 m1 m0 aw cw M Bk Bn 0 (D2 :: [])) := hMid
              have HBo : Hid (Boxed X2 Bo 29 (.slice aBo M.length cBo) ∧ IntsFrom Bo X2 aBo M) := ⟨hv, hio⟩
              clear HMid
              have HMid := HMid'
              clear HMid' hMid hb4 hio hv hrow hB hK hstop4 hO4 HX4 hys
              go_wp2_with fail
              have hX5 : Below X2.heap.size X2 (X2.alloc (.cells #[.slice none 0 0] 29)) := (Below.refl _ X2).alloc (Nat.le_refl _) _
              have hO5 : Boxed (X2.alloc (.cells #[.slice none 0 0] 29)) X2.heap.size 29 (.slice none 0 0) := Boxed.new X2 29 _
              have hYs5 : (X2.alloc (.cells #[.slice none 0 0] 29)).heap.size = X2.heap.size + 1 := by simp
              have hKlt5 : Bk < X2.heap.size := HMid.out.kbox.lt
              have hWlt5 : Bw < X2.heap.size := HMid.out.inv.wbox.lt
              generalize X2.alloc (.cells #[.slice none 0 0] 29) = Y3 at *
              have hMY := HMid.out.keep hX5
              have hstop5 := all_stops (q - 1) bg X2.heap.size n m0 Y3 hMY.inv.again (HT.out.below hMY.inv.bel hw0) (by omega) (by omega)
              rw [HM.out] at hstop5
              have HX5 : Hid (Below X2.heap.size X2 Y3) := hX5
              clear hMY hX5
              generalize hBt : X2.heap.size = Bt at *
              refine (wpIn_wide (n := q)).1 ?_
              refine wpIn_rangeFunc_ownG rfl hq1 (gf := 38) (lb := #[.pointer (some ⟨bg, 0, none⟩)]) rfl trivial (enters_of Tryd.func38 (by kernel_rfl) rfl)
                hstop5 belowK_t (belowK_b (by omega)) (Below.refl _ _) (fun _ => rfl)
                (fun pre W => (∃ v, Boxed W Bt 29 v ∧ W.ownsRow Bt 3 1 v pre.length (pre.map (Value.int .i64)) ∧ True) ∧ Below Bt Y3 W)
                (fun _ pre _ => M.length < pre.length) ?hI5 ?hIx5 ⟨⟨_, hO5, World.ownsRow_nil _ _ _ _, trivial⟩, Below.refl _ _⟩ ?a5 ?assign5 ?body5 ?done5 ?stop5
              case assign5 =>
                intro l x W K hK
                gi_wp2
                exact hK
              case hI5 => exact (Own.from (holdsRow_own Bt Bt 29 3 1 (fun pre : List Int => pre.length) (fun pre : List Int => pre.map (Value.int .i64)) (fun _ _ => True)) _).and (ownFrom_below (by omega) (by omega))
              case hIx5 => exact fun _ => ownFrom_pure _ _
              case stop5 =>
                rintro D cc pre W _ hpre hlt _
                exact absurd hpre.length_le (by omega)
              case body5 =>
                rintro l pre x W ⟨⟨v, hv, hrow, _⟩, hB⟩ hlt
                have hGW := HMid.out.inv.keep (W' := W) (by rw [hBt]; exact HX5.out.trans hB)
                have hc := hv.cell
                have hBs := hB.size
                have hRlt : w.heap.size < Bt := by omega
                have HBXW : Hid (Boxed W Bw 29 (.slice aw M.length cw)) := hGW.wbox
                have HBXR : Hid (Boxed W w.heap.size 4 (.bool false)) := hGW.box
                have hcW := hGW.wbox.cell
                clear hGW hstop5 hO5 HMid HG4
                by_cases hlong : pre.length + 1 ≤ M.length
                · have hgt : ((M.length : Int) < (pre.length : Int) + 1) = False := by rw [eq_iff_iff, iff_false]; omega
                  gi_wp2_with (gi_at_builtin; refine wpListIn_append_own _ rfl _ _ 29 rfl Bt 3 i0 (.int .i64 0) 1 8 Tryd.underlying29 hi hz0 hz1 hz2 rfl (by decide) _ _ _ rfl (hrow.alloc _) ⟨W.heap.size, 0, none⟩ 1 1 [.int .i64 x] rfl rfl (cell_one_new _ _ _) (by simp [Value.oneCell']) (by unfold maxLen; omega) (by omega) (by simp; omega) ?_; intro v' w1 hown' hgrow _; obtain ⟨g', cap', rfl⟩ := ownsRow_succ hown'; obtain ⟨hv1, hv2, hr2, hk2, hb2⟩ := hv.appended (by decide) hrow (by omega) (Nat.le_refl _) hown' hgrow; have hc1 := hv1.cell; have hf1 := hv1.frozen; have hc2 := hv2.cell; have hcW2 := Boxed.cell (t := 29) ((hb2.block Bw hWlt5).trans HBXW.out))
                  exact ⟨hk2.from _, hb2, ⟨_, hv2, by simpa using hr2, trivial⟩, hB.trans hb2⟩
                · have hgt : ((M.length : Int) < (pre.length : Int) + 1) = True := by rw [eq_iff_iff, iff_true]; omega
                  gi_wp2_with (gi_at_builtin; refine wpListIn_append_own _ rfl _ _ 29 rfl Bt 3 i0 (.int .i64 0) 1 8 Tryd.underlying29 hi hz0 hz1 hz2 rfl (by decide) _ _ _ rfl (hrow.alloc _) ⟨W.heap.size, 0, none⟩ 1 1 [.int .i64 x] rfl rfl (cell_one_new _ _ _) (by simp [Value.oneCell']) (by unfold maxLen; omega) (by omega) (by simp; omega) ?_; intro v' w1 hown' hgrow _; obtain ⟨g', cap', rfl⟩ := ownsRow_succ hown'; obtain ⟨hv1, hv2, hr2, hk2, hb2⟩ := hv.appended (by decide) hrow (by omega) (Nat.le_refl _) hown' hgrow; have hc1 := hv1.cell; have hf1 := hv1.frozen; have hc2 := hv2.cell; have hcW2 := Boxed.cell (t := 29) ((hb2.block Bw hWlt5).trans HBXW.out); have hcR2 := Boxed.cell (t := 4) ((hb2.block w.heap.size hRlt).trans HBXR.out); have hfR2 := Boxed.frozen (t := 4) ((hb2.block w.heap.size hRlt).trans HBXR.out))
                  exact ⟨(hk2.trans (KeepsOthers.setCell _ _ _)).from _, by simp; omega⟩
              case done5 =>
                rintro D3 ys X3 hD hys ⟨⟨v, hv, hrow, _⟩, hB⟩ hK
                rw [hys] at hrow
                obtain ⟨aBt, cBt, rfl, hio⟩ := ints_from_own hrow
                have hb5 : Below X2.heap.size X2 X3 := by rw [hBt]; exact HX5.out.trans hB
                have hMid := HMid.out.mark hb5 (D := D3) (by omega) hK
                have HMid' : Hid (GMid w X3 w.heap.size bx bi br lo Bw ba bg n m0 m1 m0 aw cw M Bk Bn 0 (D3 :: D2 :: [])) := hMid
                have HBt : Hid (Boxed X3 Bt 29 (.slice aBt M.length cBt) ∧ IntsFrom Bt X3 aBt M) := ⟨hv, hio⟩
                have HBo' : Hid (Boxed X3 Bo 29 (.slice aBo M.length cBo) ∧ IntsFrom Bo X3 aBo M) := ⟨(hb5.block Bo HBo.out.1.lt).trans HBo.out.1, HBo.out.2.keep hb5⟩
                clear HBo
                have HBo := HBo'
                clear HBo'
                clear HMid
                have HMid := HMid'
                clear HMid' hMid hb5 hio hv hrow hB hK hstop5 hO5 HX5 hys
                go_wp2_with fail
                refine (HMid.out.inv.radd a2 c2 l2 HL2.out hlen2).mono ?_
                rintro e w12 ⟨rfl, hbt, hg⟩
                have HMid4 : Hid (GMid w w12 w.heap.size bx bi br lo Bw ba bg n m0 m1 (addS n m0 l2).1 aw cw M Bk Bn 0 (D3 :: D2 :: [])) := HMid.out.turn hbt hg
                have HO4 : Hid (Boxed w12 Bo 29 (.slice aBo M.length cBo) ∧ IntsFrom Bo w12 aBo M) := ⟨(hbt.block Bo HBo.out.1.lt (by omega)).trans HBo.out.1, HBo.out.2.but hbt (by omega)⟩
                have HT4 : Hid (Boxed w12 Bt 29 (.slice aBt M.length cBt) ∧ IntsFrom Bt w12 aBt M) := ⟨(hbt.block Bt HBt.out.1.lt (by omega)).trans HBt.out.1, HBt.out.2.but hbt (by omega)⟩
                clear hbt hg HMid HBo HBt
                go_wp2_with fail
                refine (HMid4.out.inv.rdrop a1 c1 l1 HL1.out hlen1).mono ?_
                rintro e w13 ⟨rfl, hbt, hg⟩
                have hMid5 := HMid4.out.turn hbt hg
                rw [HM1.out] at hMid5
                have HMid5 : Hid (GMid w w13 w.heap.size bx bi br lo Bw ba bg n m0 m1 m1 aw cw M Bk Bn 0 (D3 :: D2 :: [])) := hMid5
                have HO5 : Hid (Boxed w13 Bo 29 (.slice aBo M.length cBo) ∧ IntsFrom Bo w13 aBo M) := ⟨(hbt.block Bo HO4.out.1.lt (by omega)).trans HO4.out.1, HO4.out.2.but hbt (by omega)⟩
                have HT5 : Hid (Boxed w13 Bt 29 (.slice aBt M.length cBt) ∧ IntsFrom Bt w13 aBt M) := ⟨(hbt.block Bt HT4.out.1.lt (by omega)).trans HT4.out.1, HT4.out.2.but hbt (by omega)⟩
                clear hbt hg HMid4 HO4 HT4 hMid5
                have hcN := HMid5.out.nbox.cell
                have hcK := HMid5.out.kbox.cell
                have hcO := HO5.out.1.cell
                have hcT := HT5.out.1.cell
                have hcW := HMid5.out.inv.wbox.cell
                have hcR := HMid5.out.inv.box.cell
                have hfR := HMid5.out.inv.box.frozen
                have hkk : ((0 : Int) == (0 : Int)) = true := by simp
                go_wp2_with fail
                refine (ints_same hMl HO5.out.2.ints HMid5.out.inv.was.ints).mono ?_
                rintro e w14 ⟨rfl, j1, rfl⟩
                go_wp2_with fail
                refine (ints_same hMl (HT5.out.2.keep (Below.drewN' (Below.refl _ w13) j1)).ints (HMid5.out.inv.was.keep (Below.drewN' (Below.refl _ w13) j1)).ints).mono ?_
                rintro e w15 ⟨rfl, j2, hw⟩
                rw [World.drewN_drewN] at hw
                subst hw
                have HMid6 : Hid (GMid w (w13.drewN (j1 + j2)) w.heap.size bx bi br lo Bw ba bg n m0 m1 m1 aw cw M Bk Bn 0 (D3 :: D2 :: [])) := HMid5.out.keep (Below.drewN' (Below.refl _ w13) (j1 + j2))
                clear HMid5 HO5 HT5 hcN hcK hcO hcT hcW hcR hfR
                generalize w13.drewN (j1 + j2) = w15 at *
                go_wp2_with fail
                refine (is_any bx br bi n m1 w15 (HMid6.out.inv.alike HT.out hw0)).mono ?_
                rintro e w16 ⟨rfl, hb16⟩
                have HMid7 : Hid (GMid w w16 w.heap.size bx bi br lo Bw ba bg n m0 m1 m1 aw cw M Bk Bn 0 (D3 :: D2 :: [])) := HMid6.out.keep hb16
                clear hb16 HMid6
                have hcR := HMid7.out.inv.box.cell
                have hfR := HMid7.out.inv.box.frozen
                go_wp2_with fail
                exact HMid7.out.leave true rfl _ rfl

end Go.Proofs.YtkmocjdjdlpphaaDoor
