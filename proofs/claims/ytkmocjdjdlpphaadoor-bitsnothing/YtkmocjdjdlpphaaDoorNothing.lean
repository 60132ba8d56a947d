/-
  BitsNothing, walked: it answers true, and nothing that was there turns.
-/
import Derived.Test.YtkmocjdjdlpphaaDoorNothingSteps
namespace Go.Proofs.YtkmocjdjdlpphaaDoor
open Go.RowKit Go.Shelf

attribute [local go_sem] Oper.semAt_some

set_option maxRecDepth 100000 in
set_option maxHeartbeats 4000000 in
theorem nothing_in (k : Nat) (hk : 3 ≤ k) (c : Nat → Nat) (hC : CountIs c) (hle : ∀ x, c x ≤ 1024) (h0 : c 0 = 0) (h10 : c 10 = 2) (h11 : c 11 = 3)
    (a0 : Option Addr) (cap0 : Nat) (l : List Int) (n : Int) (w : World) (hl : IntsAt w a0 l) (hlen : l.length < 1152921504606846976) (hT : Tab w) (hw0 : 0 < w.heap.size) :
    CallsIn Fence.wide k Tryd.prog 6 #[.slice a0 l.length cap0, .int .i64 n] w fun e w' => e = .returned (.bool true) ∧ Below w.heap.size w w' := by
  have hAW := fun w => awake_any c hC h10 h11 w
  have HAW : Hid (∀ w, Calls Tryd.prog 7 #[] w fun e w' => e = .returned (.bool true) ∧ Below w.heap.size w w') := hAW
  have HL : Hid (IntsAt w a0 l) := hl
  have HT : Hid (Tab w) := hT
  have HC : Hid (CountIs c) := hC
  have HLE : Hid (∀ x, c x ≤ 1024) := hle
  have H0 : Hid (c 0 = 0) := h0
  clear hAW h10 h11 hl hT hC hle h0
  refine callsIn_of_wp_marks Tryd.func6 rfl trivial ?_ rfl
  simp only [Tryd.ntmps6, List.size_toArray, List.length_cons, List.length_nil, Nat.reduceAdd, Nat.reduceSub, Array.replicate_succ, Array.replicate_zero, List.push_toArray, List.append_toArray, List.nil_append, List.cons_append]
  refine wpIn_wide.2 ?_
  go_wp2_with fail
  refine (HAW.out _).mono ?_
  rintro e w1 ⟨rfl, hb1⟩
  have hbR : Below w.heap.size w w1 := ((Below.refl _ w).alloc (Nat.le_refl _) _).trans (hb1.mono (by simp))
  have hR1 : Boxed w1 w.heap.size 4 (.bool false) := (hb1.block w.heap.size (by simp)).trans (heap_alloc_last w _)
  have hs1 : w.heap.size < w1.heap.size := hR1.lt
  have HBR : Hid (Below w.heap.size w w1) := hbR
  have HR1 : Hid (Boxed w1 w.heap.size 4 (.bool false)) := hR1
  clear hb1 hbR hR1
  go_wp2_with fail
  change Calls Tryd.prog 10 _ (w1.alloc (.cells (rowL 0 (fun _ => 0)).toArray 58)) _
  have hrO : RowAt (w1.alloc (.cells (rowL 0 (fun _ => 0)).toArray 58)) w1.heap.size 0 (wd 0) := by rw [wd_zero']; exact heap_alloc_last w1 _
  have hbO : Below w.heap.size w (w1.alloc (.cells (rowL 0 (fun _ => 0)).toArray 58)) := HBR.out.alloc (by omega) _
  have hRO : Boxed (w1.alloc (.cells (rowL 0 (fun _ => 0)).toArray 58)) w.heap.size 4 (.bool false) := HR1.out.alloc _
  have hsO : (w1.alloc (.cells (rowL 0 (fun _ => 0)).toArray 58)).heap.size = w1.heap.size + 1 := by simp
  generalize w1.alloc (.cells (rowL 0 (fun _ => 0)).toArray 58) = W1 at *
  generalize w1.heap.size = Bo at *
  clear HBR HR1
  refine (of_any l.length a0 cap0 l W1 (HL.out.below hbO) hlen).mono ?_
  rintro e w2 ⟨rfl, hSx, hb2⟩
  have hcl : clampN l.length = 0 ↔ l.length = 0 := by unfold clampN; omega
  have hBxge : Bo + 1 ≤ W1.heap.size := by omega
  have hr2 : RowAt w2 Bo 0 (wd 0) := hrO.below hb2 hrO.lt
  have hbx2 : Below w.heap.size w w2 := hbO.trans (hb2.mono hbO.size)
  have hR2 : Boxed w2 w.heap.size 4 (.bool false) := (hb2.block _ hRO.lt).trans hRO
  generalize W1.heap.size = Bx at *
  generalize clampN l.length = nx at *
  generalize (addS nx 0 l).1 = mx at *
  have HSX : Hid (SetM w2 (some ⟨Bx, 0, none⟩) nx mx) := hSx
  have HSO : Hid (SetM w2 (some ⟨Bo, 0, none⟩) 0 0) := SetM.of hr2 (by decide) (by decide)
  have HB2 : Hid (Below w.heap.size w w2) := hbx2
  have HR2 : Hid (Boxed w2 w.heap.size 4 (.bool false)) := hR2
  have HCL : Hid (nx = 0 ↔ l.length = 0) := hcl
  have hBo2 : Bo < w2.heap.size := hr2.lt
  have hBx2 : Bx < w2.heap.size := hSx.row.lt
  clear hrO hbO hRO hsO hSx hb2 hcl hr2 hbx2 hR2
  go_wp2_with fail
  have hI0 : NInv w (w2.alloc (.cells #[.pointer none, .pointer (some ⟨Bo, 0, none⟩)] 34)) w.heap.size w2.heap.size Bo Bx nx mx none [] :=
    ⟨HB2.out.alloc HB2.out.size _, HR2.out.alloc _, heap_alloc_last w2 _, HSX.out.keep ((Below.refl _ w2).alloc (Nat.le_refl _) _), HSO.out.keep ((Below.refl _ w2).alloc (Nat.le_refl _) _), SetM.nil _, fun _ h => (by cases h)⟩
  generalize w2.alloc (.cells #[.pointer none, .pointer (some ⟨Bo, 0, none⟩)] 34) = W at *
  generalize w2.heap.size = Bb at *
  have HI : Hid (NInv w W w.heap.size Bb Bo Bx nx mx none []) := hI0
  clear hI0 HSX HSO HB2 HR2
  refine wp_loop_rounds 3 ?_
  rw [rounds_succ]
  have hcb : W.cell? ⟨Bb, 0, none⟩ = some (.pointer none) := cell_of_row W Bb 0 _ _ _ HI.out.both
  go_wp2_with fail
  refine (add_zero' _ _ _ _ _ HI.out.se (HL.out.below HI.out.bel) hlen).mono ?_
  rintro e W11 ⟨rfl, hw⟩
  subst hw
  clear hcb
  go_wp2_with fail
  refine (drop_zero' _ _ _ _ _ HI.out.se (HL.out.below HI.out.bel) hlen).mono ?_
  rintro e w9 ⟨rfl, j9, hw⟩
  subst hw
  have hI := HI.out.drewN j9
  clear HI
  generalize W11.drewN j9 = W12 at *
  have HI : Hid (NInv w W12 w.heap.size Bb Bo Bx nx mx none []) := hI
  clear hI
  go_wp2_with fail
  refine (step_union HC.out HLE.out HI.out).mono ?_
  rintro e W13 ⟨rfl, hI⟩
  clear HI
  have HI : Hid (NInv w W13 w.heap.size Bb Bo Bx nx mx none []) := hI
  clear hI
  go_wp2_with fail
  refine (size_any _ 0 0 _ HI.out.se).mono ?_
  rintro e W14 ⟨rfl, hw⟩
  subst hw
  go_wp2_with fail
  refine (HC.out _ 0 0 _ HI.out.se).mono ?_
  rintro e W15 ⟨rfl, hb⟩
  rw [H0.out]
  have hI := HI.out.keep hb
  clear hb
  clear HI
  have HI : Hid (NInv w W15 w.heap.size Bb Bo Bx nx mx none []) := hI
  clear hI
  go_wp2_with fail
  refine (has_isnt HI.out.se (hasB_zero n)).mono ?_
  rintro e w9 ⟨rfl, j9, hw⟩
  subst hw
  have hI := HI.out.drewN j9
  clear HI
  generalize W15.drewN j9 = W16 at *
  have HI : Hid (NInv w W16 w.heap.size Bb Bo Bx nx mx none []) := hI
  clear hI
  go_wp2_with fail
  refine (step_meets0 HC.out H0.out HI.out).mono ?_
  rintro e W17 ⟨rfl, hI⟩
  clear HI
  have HI : Hid (NInv w W17 w.heap.size Bb Bo Bx nx mx none []) := hI
  clear hI
  go_wp2_with fail
  refine (step_meets1 HC.out H0.out HI.out).mono ?_
  rintro e W18 ⟨rfl, hI⟩
  clear HI
  have HI : Hid (NInv w W18 w.heap.size Bb Bo Bx nx mx none []) := hI
  clear hI
  go_wp2_with fail
  refine (step_meets2 HC.out H0.out HI.out).mono ?_
  rintro e W19 ⟨rfl, hI⟩
  clear HI
  have HI : Hid (NInv w W19 w.heap.size Bb Bo Bx nx mx none []) := hI
  clear hI
  go_wp2_with fail
  refine (step_members HC.out HLE.out HT.out hw0 HI.out).mono ?_
  rintro e W110 ⟨aM, capM, rfl, hI⟩
  clear HI
  have HI : Hid (NInv w W110 w.heap.size Bb Bo Bx nx mx none []) := hI
  clear hI
  go_wp2_with fail
  refine (step_equal HI.out HI.out.se (SetM.nil _)).mono ?_
  rintro e W111 ⟨rfl, _, hI⟩
  clear HI
  have HI : Hid (NInv w W111 w.heap.size Bb Bo Bx nx mx none []) := hI
  clear hI
  go_wp2_with fail
  refine (step_equal HI.out HI.out.se HI.out.so).mono ?_
  rintro e W112 ⟨rfl, _, hI⟩
  clear HI
  have HI : Hid (NInv w W112 w.heap.size Bb Bo Bx nx mx none []) := hI
  clear hI
  go_wp2_with fail
  refine (step_equal HI.out HI.out.so HI.out.se).mono ?_
  rintro e W113 ⟨rfl, _, hI⟩
  clear HI
  have HI : Hid (NInv w W113 w.heap.size Bb Bo Bx nx mx none []) := hI
  clear hI
  go_wp2_with fail
  refine (step_equalx HI.out HCL.out).mono ?_
  rintro e W114 ⟨rfl, hI⟩
  clear HI
  have HI : Hid (NInv w W114 w.heap.size Bb Bo Bx nx mx none []) := hI
  clear hI
  go_wp2_with fail
  refine (copy_any _ 0 0 _ HI.out.se).mono ?_
  rintro e V11 ⟨bc1, rfl, _, hrc, hb⟩
  have hI := HI.out.keep hb
  have HCC : Hid (SetM V11 (some ⟨bc1, 0, none⟩) 0 0) := SetM.of hrc (by decide) (by decide)
  clear HI hb hrc
  have HI : Hid (NInv w V11 w.heap.size Bb Bo Bx nx mx none []) := hI
  clear hI
  go_wp2_with fail
  refine (all_any _ 0 0 _ HI.out.se).mono ?_
  rintro e V12 ⟨ba1, rfl, _, hra, hb⟩
  have hI := HI.out.keep hb
  have hcc := HCC.out.keep hb
  clear HI HCC hb
  have HI : Hid (NInv w V12 w.heap.size Bb Bo Bx nx mx none []) := hI
  have HCC : Hid (SetM V12 (some ⟨bc1, 0, none⟩) 0 0) := hcc
  have HRA : Hid (RowAt V12 ba1 0 (wd 0)) := hra
  clear hI hcc hra
  have hnf := fun w' => eql_nilFunc #[.pointer (some ⟨ba1, 0, none⟩)] w'
  go_wp2_with fail
  refine (step_equal HI.out HCC.out HI.out.se).mono ?_
  rintro e V13 ⟨rfl, hb, hI⟩
  have hcc := HCC.out.keep hb
  have hra := HRA.out.below hb HRA.out.lt
  clear HI HCC hb HRA
  have HI : Hid (NInv w V13 w.heap.size Bb Bo Bx nx mx none []) := hI
  have HCC : Hid (SetM V13 (some ⟨bc1, 0, none⟩) 0 0) := hcc
  have HRA : Hid (RowAt V13 ba1 0 (wd 0)) := hra
  clear hI hcc hra
  go_wp2_with fail
  refine (size_any _ 0 0 _ HCC.out).mono ?_
  rintro e V14 ⟨rfl, hw⟩
  subst hw
  clear HCC
  go_wp2_with fail
  have hz : mems 1024 0 = [] := by simp [mems]
  have hstop := all_stops (k - 1) ba1 w.heap.size 0 0 V14 HRA.out (HT.out.below HI.out.bel hw0) hw0 (by have := HI.out.bel.size; omega)
  rw [hz] at hstop
  have hk1 : 1 ≤ k := by omega
  have hsz := HI.out.bel.size
  have hRlt := HI.out.box.lt
  clear hz
  refine (wpIn_wide (n := k)).1 ?_
  refine wpIn_rangeFunc_ownG rfl hk1 (gf := 38) (lb := #[.pointer (some ⟨ba1, 0, none⟩)]) rfl trivial (enters_of Tryd.func38 (by kernel_rfl) rfl)
    hstop belowK_t (belowK_b hsz) (Below.refl _ _) (fun _ => rfl)
    (fun _ W => Below V14.heap.size V14 W) (fun _ pre _ => pre ≠ []) ?hI1 ?hIx1 (Below.refl _ _) ?a1 ?assign1 ?body1 ?done1 ?stop1
  case assign1 =>
    intro l x W K hK
    gi_wp2
    exact hK
  case body1 =>
    rintro l pre x W hbb _
    have hbx : Boxed W w.heap.size 4 (.bool false) := (hbb.block _ hRlt).trans HI.out.box
    have hc := hbx.cell
    have hfz := hbx.frozen
    gi_wp2
    exact ⟨(KeepsOthers.setCell _ _ _).from _, by simp⟩
  case stop1 =>
    rintro D cc pre W hD hpre hne hK
    exact absurd (List.prefix_nil.1 hpre) hne
  case hI1 => exact ownFrom_below (Nat.le_refl _) (Nat.le_refl _)
  case hIx1 => exact fun _ => ownFrom_pure _ _
  rintro D1 ys X1 hD hys hbb hK
  have hI := ((HI.out.keep hbb).mark (Nat.le_trans hsz hD) hK).turn
  clear hD hys hbb hK HI hstop hsz hRlt HRA hnf
  have HI : Hid (NInv w X1 w.heap.size Bb Bo Bx nx mx (some ⟨Bo, 0, none⟩) [D1]) := hI
  clear hI
  go_wp2_with fail
  rw [rounds_succ]
  have hcb : X1.cell? ⟨Bb, 1, none⟩ = some (.pointer (some ⟨Bo, 0, none⟩)) := cell_of_row X1 Bb 1 _ _ _ HI.out.both
  go_wp2_with fail
  refine (add_zero' _ _ _ _ _ HI.out.se (HL.out.below HI.out.bel) hlen).mono ?_
  rintro e W21 ⟨rfl, hw⟩
  subst hw
  clear hcb
  go_wp2_with fail
  refine (drop_zero' _ _ _ _ _ HI.out.se (HL.out.below HI.out.bel) hlen).mono ?_
  rintro e w9 ⟨rfl, j9, hw⟩
  subst hw
  have hI := HI.out.drewN j9
  clear HI
  generalize W21.drewN j9 = W22 at *
  have HI : Hid (NInv w W22 w.heap.size Bb Bo Bx nx mx (some ⟨Bo, 0, none⟩) [D1]) := hI
  clear hI
  go_wp2_with fail
  refine (step_union HC.out HLE.out HI.out).mono ?_
  rintro e W23 ⟨rfl, hI⟩
  clear HI
  have HI : Hid (NInv w W23 w.heap.size Bb Bo Bx nx mx (some ⟨Bo, 0, none⟩) [D1]) := hI
  clear hI
  go_wp2_with fail
  refine (size_any _ 0 0 _ HI.out.se).mono ?_
  rintro e W24 ⟨rfl, hw⟩
  subst hw
  go_wp2_with fail
  refine (HC.out _ 0 0 _ HI.out.se).mono ?_
  rintro e W25 ⟨rfl, hb⟩
  rw [H0.out]
  have hI := HI.out.keep hb
  clear hb
  clear HI
  have HI : Hid (NInv w W25 w.heap.size Bb Bo Bx nx mx (some ⟨Bo, 0, none⟩) [D1]) := hI
  clear hI
  go_wp2_with fail
  refine (has_isnt HI.out.se (hasB_zero n)).mono ?_
  rintro e w9 ⟨rfl, j9, hw⟩
  subst hw
  have hI := HI.out.drewN j9
  clear HI
  generalize W25.drewN j9 = W26 at *
  have HI : Hid (NInv w W26 w.heap.size Bb Bo Bx nx mx (some ⟨Bo, 0, none⟩) [D1]) := hI
  clear hI
  go_wp2_with fail
  refine (step_meets0 HC.out H0.out HI.out).mono ?_
  rintro e W27 ⟨rfl, hI⟩
  clear HI
  have HI : Hid (NInv w W27 w.heap.size Bb Bo Bx nx mx (some ⟨Bo, 0, none⟩) [D1]) := hI
  clear hI
  go_wp2_with fail
  refine (step_meets1 HC.out H0.out HI.out).mono ?_
  rintro e W28 ⟨rfl, hI⟩
  clear HI
  have HI : Hid (NInv w W28 w.heap.size Bb Bo Bx nx mx (some ⟨Bo, 0, none⟩) [D1]) := hI
  clear hI
  go_wp2_with fail
  refine (step_meets2 HC.out H0.out HI.out).mono ?_
  rintro e W29 ⟨rfl, hI⟩
  clear HI
  have HI : Hid (NInv w W29 w.heap.size Bb Bo Bx nx mx (some ⟨Bo, 0, none⟩) [D1]) := hI
  clear hI
  go_wp2_with fail
  refine (step_members HC.out HLE.out HT.out hw0 HI.out).mono ?_
  rintro e W210 ⟨aM, capM, rfl, hI⟩
  clear HI
  have HI : Hid (NInv w W210 w.heap.size Bb Bo Bx nx mx (some ⟨Bo, 0, none⟩) [D1]) := hI
  clear hI
  go_wp2_with fail
  refine (step_equal HI.out HI.out.se (SetM.nil _)).mono ?_
  rintro e W211 ⟨rfl, _, hI⟩
  clear HI
  have HI : Hid (NInv w W211 w.heap.size Bb Bo Bx nx mx (some ⟨Bo, 0, none⟩) [D1]) := hI
  clear hI
  go_wp2_with fail
  refine (step_equal HI.out HI.out.se HI.out.so).mono ?_
  rintro e W212 ⟨rfl, _, hI⟩
  clear HI
  have HI : Hid (NInv w W212 w.heap.size Bb Bo Bx nx mx (some ⟨Bo, 0, none⟩) [D1]) := hI
  clear hI
  go_wp2_with fail
  refine (step_equal HI.out HI.out.so HI.out.se).mono ?_
  rintro e W213 ⟨rfl, _, hI⟩
  clear HI
  have HI : Hid (NInv w W213 w.heap.size Bb Bo Bx nx mx (some ⟨Bo, 0, none⟩) [D1]) := hI
  clear hI
  go_wp2_with fail
  refine (step_equalx HI.out HCL.out).mono ?_
  rintro e W214 ⟨rfl, hI⟩
  clear HI
  have HI : Hid (NInv w W214 w.heap.size Bb Bo Bx nx mx (some ⟨Bo, 0, none⟩) [D1]) := hI
  clear hI
  go_wp2_with fail
  refine (copy_any _ 0 0 _ HI.out.se).mono ?_
  rintro e V21 ⟨bc2, rfl, _, hrc, hb⟩
  have hI := HI.out.keep hb
  have HCC : Hid (SetM V21 (some ⟨bc2, 0, none⟩) 0 0) := SetM.of hrc (by decide) (by decide)
  clear HI hb hrc
  have HI : Hid (NInv w V21 w.heap.size Bb Bo Bx nx mx (some ⟨Bo, 0, none⟩) [D1]) := hI
  clear hI
  go_wp2_with fail
  refine (all_any _ 0 0 _ HI.out.se).mono ?_
  rintro e V22 ⟨ba2, rfl, _, hra, hb⟩
  have hI := HI.out.keep hb
  have hcc := HCC.out.keep hb
  clear HI HCC hb
  have HI : Hid (NInv w V22 w.heap.size Bb Bo Bx nx mx (some ⟨Bo, 0, none⟩) [D1]) := hI
  have HCC : Hid (SetM V22 (some ⟨bc2, 0, none⟩) 0 0) := hcc
  have HRA : Hid (RowAt V22 ba2 0 (wd 0)) := hra
  clear hI hcc hra
  have hnf := fun w' => eql_nilFunc #[.pointer (some ⟨ba2, 0, none⟩)] w'
  go_wp2_with fail
  refine (step_equal HI.out HCC.out HI.out.se).mono ?_
  rintro e V23 ⟨rfl, hb, hI⟩
  have hcc := HCC.out.keep hb
  have hra := HRA.out.below hb HRA.out.lt
  clear HI HCC hb HRA
  have HI : Hid (NInv w V23 w.heap.size Bb Bo Bx nx mx (some ⟨Bo, 0, none⟩) [D1]) := hI
  have HCC : Hid (SetM V23 (some ⟨bc2, 0, none⟩) 0 0) := hcc
  have HRA : Hid (RowAt V23 ba2 0 (wd 0)) := hra
  clear hI hcc hra
  go_wp2_with fail
  refine (size_any _ 0 0 _ HCC.out).mono ?_
  rintro e V24 ⟨rfl, hw⟩
  subst hw
  clear HCC
  go_wp2_with fail
  have hz : mems 1024 0 = [] := by simp [mems]
  have hstop := all_stops (k - 1) ba2 w.heap.size 0 0 V24 HRA.out (HT.out.below HI.out.bel hw0) hw0 (by have := HI.out.bel.size; omega)
  rw [hz] at hstop
  have hk1 : 1 ≤ k := by omega
  have hsz := HI.out.bel.size
  have hRlt := HI.out.box.lt
  clear hz
  refine (wpIn_wide (n := k)).1 ?_
  refine wpIn_rangeFunc_ownG rfl hk1 (gf := 38) (lb := #[.pointer (some ⟨ba2, 0, none⟩)]) rfl trivial (enters_of Tryd.func38 (by kernel_rfl) rfl)
    hstop belowK_t (belowK_b hsz) (Below.refl _ _) (fun _ => rfl)
    (fun _ W => Below V24.heap.size V24 W) (fun _ pre _ => pre ≠ []) ?hI2 ?hIx2 (Below.refl _ _) ?a2 ?assign2 ?body2 ?done2 ?stop2
  case assign2 =>
    intro l x W K hK
    gi_wp2
    exact hK
  case body2 =>
    rintro l pre x W hbb _
    have hbx : Boxed W w.heap.size 4 (.bool false) := (hbb.block _ hRlt).trans HI.out.box
    have hc := hbx.cell
    have hfz := hbx.frozen
    gi_wp2
    exact ⟨(KeepsOthers.setCell _ _ _).from _, by simp⟩
  case stop2 =>
    rintro D cc pre W hD hpre hne hK
    exact absurd (List.prefix_nil.1 hpre) hne
  case hI2 => exact ownFrom_below (Nat.le_refl _) (Nat.le_refl _)
  case hIx2 => exact fun _ => ownFrom_pure _ _
  rintro D2 ys X2 hD hys hbb hK
  have hne12 : D1 ≠ D2 := by have := (Array.getElem?_eq_some_iff.1 (HI.out.marks D1 (by simp)).2).1; omega
  have HNE : Hid (D1 ≠ D2) := hne12
  clear hne12
  have hI := (HI.out.keep hbb).mark (Nat.le_trans hsz hD) hK
  clear hD hys hbb hK HI hstop hsz hRlt HRA hnf
  have HI : Hid (NInv w X2 w.heap.size Bb Bo Bx nx mx (some ⟨Bo, 0, none⟩) [D2, D1]) := hI
  clear hI
  go_wp2_with fail
  rw [rounds_succ]
  have hc := HI.out.box.cell
  have hfz := HI.out.box.frozen
  go_wp2_with fail
  exact leave_two HI.out HNE.out (Nat.le_refl _) _ rfl

end Go.Proofs.YtkmocjdjdlpphaaDoor
