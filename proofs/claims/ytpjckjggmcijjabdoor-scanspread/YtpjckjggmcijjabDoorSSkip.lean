/-
  How a reader skips blanks.
-/
import Derived.Test.YtpjckjggmcijjabDoorSOrder
import Derived.WalkMore
import Derived.ScopeJumps
import Derived.Deep.RegionWith
import Derived.Deep.CutRange
namespace Go.Proofs.YtpjckjggmcijjabDoor
open Go.RowKit

attribute [local go_sem] Oper.semAt_some

/-- How many bytes of blanks stand ahead; within a comment, or not. -/
def skipC : Bool → List Nat → Nat
  | _, [] => 0
  | true, c :: l => skipC (!decide (c = 10)) l + 1
  | false, c :: l => if c = 35 then skipC true l + 1 else if blankB c then skipC false l + 1 else 0
def skipTo (s : ByteArray) (i : Nat) : Nat := i + skipC false ((bs s).drop i)
theorem skipC_le : ∀ (b : Bool) (l : List Nat), skipC b l ≤ l.length
  | b, [] => by cases b <;> simp [skipC]
  | true, c :: l => by
    have := skipC_le (!decide (c = 10)) l
    simp [skipC]; omega
  | false, c :: l => by
    have h1 := skipC_le true l
    have h2 := skipC_le false l
    unfold skipC
    split
    · simp; omega
    · split
      · simp; omega
      · simp
theorem skipTo_le {s : ByteArray} {i : Nat} (hi : i ≤ s.size) : skipTo s i ≤ s.size := by
  have := skipC_le false ((bs s).drop i)
  rw [List.length_drop, bs_length] at this
  unfold skipTo
  omega
theorem skip_blank : ∀ l : List Nat, skipC false l = runL blankB l + skipC false (l.drop (runL blankB l))
  | [] => by simp [skipC, runL]
  | c :: l => by
    rw [runL_cons]
    by_cases hc : blankB c = true
    · rw [if_pos hc]
      have h35 : c ≠ 35 := fun e => by rw [e] at hc; exact absurd hc (by decide)
      have := skip_blank l
      rw [List.drop_succ_cons]
      conv => lhs; unfold skipC
      rw [if_neg h35, if_pos hc, this]
      omega
    · rw [if_neg hc]
      simp
theorem skip_line : ∀ l : List Nat, skipC true l = runL inLineB l + skipC false (l.drop (runL inLineB l))
  | [] => by simp [skipC, runL]
  | c :: l => by
    rw [runL_cons]
    by_cases hc : c = 10
    · subst hc
      have e : inLineB 10 = false := rfl
      rw [e]
      simp [skipC, blankB]
    · have e : inLineB c = true := by simp [inLineB, hc]
      rw [e, if_pos rfl, List.drop_succ_cons]
      have := skip_line l
      conv => lhs; unfold skipC
      rw [decide_eq_false hc]
      simp only [Bool.not_false]
      rw [this]
      omega
theorem skip_stop {l : List Nat} (h1 : blankB (l.getD 0 0) = false) (h2 : l.getD 0 0 ≠ 35) : skipC false l = 0 := by
  cases l with
  | nil => rfl
  | cons c l =>
    unfold skipC
    rw [if_neg (by simpa using h2), if_neg (by simpa using h1)]
theorem drop_getD (l : List Nat) (i k : Nat) : (l.drop i).getD k 0 = l.getD (i + k) 0 := by simp [List.getD, List.getElem?_drop]

def blankTo (s : ByteArray) (i : Nat) : Nat := i + runL blankB ((bs s).drop i)
def lineTo (s : ByteArray) (i : Nat) : Nat := i + runL inLineB ((bs s).drop i)
theorem skipTo_blank (s : ByteArray) (i : Nat) : skipTo s i = skipTo s (blankTo s i) := by
  unfold skipTo blankTo
  rw [skip_blank ((bs s).drop i), List.drop_drop]
  omega
theorem skipTo_line (s : ByteArray) (i : Nat) (h : chr s i = 35) : skipTo s i = skipTo s (lineTo s i) ∧ i < lineTo s i := by
  unfold skipTo lineTo
  have h0 : ((bs s).drop i).getD 0 0 = 35 := by rw [drop_getD]; exact h
  cases hd : (bs s).drop i with
  | nil => rw [hd] at h0; simp at h0
  | cons c l =>
    rw [hd] at h0
    have hc : c = 35 := by simpa using h0
    subst hc
    have e : inLineB 35 = true := rfl
    have hdd : (bs s).drop (i + (runL inLineB l + 1)) = l.drop (runL inLineB l) := by
      rw [← List.drop_drop, hd, List.drop_succ_cons]
    rw [runL_cons, e, if_pos rfl, hdd]
    conv => lhs; lhs; unfold skipC
    rw [if_pos rfl, skip_line l]
    omega
theorem skipTo_stop (s : ByteArray) (i : Nat) (h1 : blankB (chr s i) = false) (h2 : chr s i ≠ 35) : skipTo s i = i := by
  unfold skipTo
  rw [skip_stop (by rw [drop_getD]; exact h1) (by rw [drop_getD]; exact h2)]
  rfl
theorem blankTo_end (s : ByteArray) (i : Nat) : blankB (chr s (blankTo s i)) = false := by
  unfold blankTo
  have h : chr s (i + runL blankB ((bs s).drop i)) = ((bs s).drop i).getD (runL blankB ((bs s).drop i)) 0 := by rw [drop_getD]; rfl
  rw [h]
  by_cases hlt : runL blankB ((bs s).drop i) < ((bs s).drop i).length
  · exact runL_stop blankB _ hlt
  · rw [List.getD, List.getElem?_eq_none (by omega)]; rfl
theorem blankTo_le {s : ByteArray} {i : Nat} (hi : i ≤ s.size) : blankTo s i ≤ s.size := run_bound _ s i hi
theorem lineTo_le {s : ByteArray} {i : Nat} (hi : i ≤ s.size) : lineTo s i ≤ s.size := run_bound _ s i hi

/-- A scope that opens with the label to which it jumps back. -/
theorem scope_back {P : Program} {body : Code} {Q : Exit → Act → World → Prop} {a : Act} {w : World} (l : Nat) (J : Act → World → Prop) (μ : Act → World → Nat) (h0 : J a w)
    (pass : ∀ a w, J a w → body.wp P (Exit.jump l (fun a' w' => J a' w' ∧ μ a' w' < μ a w) Q) a w) : (Code.scope ((Code.label l).seq body)).wp P Q a w :=
  wp_scope_jumps (rest := Code.skip.seq body) l J μ (by simp [findLabel]) (wp_seq (wp_label (wp_mono (pass a w h0) fun e a' w' h => by
    cases e with
    | goto l' => exact ⟨h.1, h.2.1⟩
    | _ => exact h))) fun a' w' h => wp_seq (wp_skip (pass a' w' h))

theorem wrap_fits {x : Int} (h0 : 0 ≤ x) (h1 : x ≤ 100000) : IntKind.i64.wrap x = x := by
  simp only [IntKind.wrap_i64]
  omega

set_option maxRecDepth 100000 in
set_option maxHeartbeats 1000000 in
theorem skip_any (r : Nat) (s : ByteArray) (i : Nat) (b : Bool) (w : World) (h : RAt w r s i b) (hi : i ≤ s.size) (hs : s.size ≤ 10000) :
    Calls Tryd.prog 32 #[.pointer (some ⟨r, 0, none⟩)] w fun e w' => (∃ v, e = .returned v) ∧ RAt w' r s (skipTo s i) b ∧ w.grownBy w' (some r) := by
  have HRS : Hid (∀ W j, RAt W r s j b → j ≤ s.size → Calls Tryd.prog 38 #[.pointer (some ⟨r, 0, none⟩)] W fun e w' => e = .returned (.string (s.extract j s.size)) ∧ ∃ q, w' = W.drewN q) := fun W j hW hj => rest_any r s j b W hW hj hs
  have HRB : Hid (∀ W j, j ≤ s.size → Calls Tryd.prog 35 #[.string (s.extract j s.size), .func (.func 39) #[] #[]] W fun e w' => e = .returned (.int .i64 (runL blankB ((bs s).drop j))) ∧ w' = W) := fun W j hj => by
    have := run_blank (s.extract j s.size) W (by rw [ext_size s j s.size (Nat.le_refl _)]; omega)
    rwa [bs_rest] at this
  have HRL : Hid (∀ W j, j ≤ s.size → Calls Tryd.prog 35 #[.string (s.extract j s.size), .func (.func 42) #[] #[]] W fun e w' => e = .returned (.int .i64 (runL inLineB ((bs s).drop j))) ∧ w' = W) := fun W j hj => by
    have := run_inLine (s.extract j s.size) W (by rw [ext_size s j s.size (Nat.le_refl _)]; omega)
    rwa [bs_rest] at this
  have HA : Hid (RAt w r s i b) := h
  clear h
  go_enter Tryd.func32, Tryd.ntmps32
  go_wp2_with fail
  refine scope_back 0 (fun a' w' => ∃ (j : Nat) (u1 u2 u3 u4 u5 u6 u7 u8 u9 u10 u11 u12 u13 u14 u15 u16 u17 u18 u19 u20 u21 u22 u23 : Value), a' = { tmps := #[.pointer (some ⟨r, 0, none⟩), u1, u2, u3, u4, u5, u6, u7, u8, u9, u10, u11, u12, u13, u14, u15, u16, u17, u18, u19, u20, u21, u22, u23], defers := [] } ∧ RAt w' r s j b ∧ w.grownBy w' (some r) ∧ j ≤ s.size ∧ skipTo s j = skipTo s i) (fun _ w' => s.size - (intOf ((w'.cell? ⟨r, 1, none⟩).getD undef)).toNat) ⟨i, _, _, _, _, _, _, _, _, _, _, _, _, _, _, _, _, _, _, _, _, _, _, _, rfl, HA.out, grown_refl _ _, hi, rfl⟩ ?_
  · rintro a' w' ⟨j, u1, u2, u3, u4, u5, u6, u7, u8, u9, u10, u11, u12, u13, u14, u15, u16, u17, u18, u19, u20, u21, u22, u23, rfl, hR, hg, hj, hsk⟩
    have HR : Hid (RAt w' r s j b) := hR
    have HG : Hid (w.grownBy w' (some r)) := hg
    have HSK : Hid (skipTo s j = skipTo s i) := hsk
    obtain ⟨c0, c1, c2⟩ := hR.cells
    have f1 := hR.free 1
    have HRS1 : Hid (∀ q, Calls Tryd.prog 38 #[.pointer (some ⟨r, 0, none⟩)] (w'.drewN q) fun e w2 => e = .returned (.string (s.extract j s.size)) ∧ ∃ q, w2 = w'.drewN q) := fun q => (HRS.out _ j (HR.out.drewN q) hj).mono fun e w2 h => ⟨h.1, by obtain ⟨q2, h2⟩ := h.2; exact ⟨q + q2, by rw [h2]; simp⟩⟩
    have HRB1 := fun W => HRB.out W j hj
    have HRB2 : Hid (∀ W, Calls Tryd.prog 35 #[.string (s.extract j s.size), .func (.func 39) #[] #[]] W fun e w' => e = .returned (.int .i64 (runL blankB ((bs s).drop j))) ∧ w' = W) := HRB1
    have hub := run_bound blankB s j hj
    have hwr : IntKind.i64.wrap ((j : Int) + (runL blankB ((bs s).drop j) : Nat)) = (j : Int) + (runL blankB ((bs s).drop j) : Nat) := wrap_fits (by omega) (by omega)
    generalize s.extract j s.size = t at *
    generalize hu : runL blankB ((bs s).drop j) = u at *
    have HU : Hid (runL blankB ((bs s).drop j) = u) := hu
    clear hR hg hsk HRB1 hu
    go_wp2_with fail
    go_cut [] from 2 to 11 (fun wx => RAt wx r s (j + u) b ∧ w.grownBy wx (some r))
    case first =>
      go_region_with (first | (go_at_call 38; refine (HRS1.out _).mono ?_; rintro e w2 ⟨rfl, q2, rfl⟩) | (go_at_call 35; refine (HRB2.out _).mono ?_; rintro e w3 ⟨rfl, rfl⟩))
      all_goals go_wp2_with fail
      all_goals go_meet
      all_goals exact ⟨(HR.out.drewN _).setAt (j + u), grown_trans (grown_trans HG.out (grown_but _ (grown_drewN _ _))) (grown_setCell r 1 _)⟩
    case rest =>
      obtain ⟨hR1, hg1⟩ := hcut
      have HR1 : Hid (RAt wc r s (j + u) b) := hR1
      have HG1 : Hid (w.grownBy wc (some r)) := hg1
      have HBL : Hid (blankTo s j = j + u) := by show _ = _; unfold blankTo; rw [HU.out]
      have hjb : j + u ≤ s.size := hub
      have hSE := sees_hash r s (j + u) b wc hR1 hjb hs
      have HR0 : Hid (w'.cell? ⟨r, 1, none⟩ = some (.int .i64 j)) := c1
      clear hR1 hg1 HR HG c0 c1 c2 f1 hwr HRS1 HRB2
      have HSK2 : Hid (skipTo s (j + u) = skipTo s i) := by show _ = _; rw [← HSK.out, skipTo_blank s j, HBL.out]
      have HNB : Hid (blankB (chr s (j + u)) = false) := by have := blankTo_end s j; rw [HBL.out] at this; exact this
      have hjm : j ≤ j + u := Nat.le_add_right _ _
      generalize j + u = m at *
      have HC : Hid (hashB (chr s m) = decide (chr s m = 35)) := rfl
      rw [HC.out] at hSE
      by_cases hh : chr s m = 35
      · rw [decide_eq_true hh] at hSE
        have HLN : Hid (skipTo s (lineTo s m) = skipTo s i ∧ m < lineTo s m) := by
          have := skipTo_line s m hh
          exact ⟨by rw [← this.1, HSK2.out], this.2⟩
        clear HSK HSK2 hh HC
        go_wp2_with fail
        refine hSE.mono ?_
        rintro e w2 ⟨rfl, q2, hw2⟩
        have HR2 : Hid (RAt w2 r s m b) := by rw [hw2]; exact HR1.out.drewN q2
        have HG2 : Hid (w.grownBy w2 (some r)) := by rw [hw2]; exact grown_trans HG1.out (grown_but _ (grown_drewN _ _))
        clear hw2 HR1 HG1 hSE
        obtain ⟨c0, c1, c2⟩ := HR2.out.cells
        have f1 := HR2.out.free 1
        have HRS1 : Hid (∀ q, Calls Tryd.prog 38 #[.pointer (some ⟨r, 0, none⟩)] (w2.drewN q) fun e w3 => e = .returned (.string (s.extract m s.size)) ∧ ∃ q, w3 = w2.drewN q) := fun q => (HRS.out _ m (HR2.out.drewN q) hjb).mono fun e w3 h => ⟨h.1, by obtain ⟨q2, h2⟩ := h.2; exact ⟨q + q2, by rw [h2]; simp⟩⟩
        have HRB1 := fun W => HRL.out W m hjb
        have HRB2 : Hid (∀ W, Calls Tryd.prog 35 #[.string (s.extract m s.size), .func (.func 42) #[] #[]] W fun e w' => e = .returned (.int .i64 (runL inLineB ((bs s).drop m))) ∧ w' = W) := HRB1
        have hub2 := run_bound inLineB s m hjb
        have hwr : IntKind.i64.wrap ((m : Int) + (runL inLineB ((bs s).drop m) : Nat)) = (m : Int) + (runL inLineB ((bs s).drop m) : Nat) := wrap_fits (by omega) (by omega)
        have HLT : Hid (lineTo s m = m + runL inLineB ((bs s).drop m)) := rfl
        generalize s.extract m s.size = t at *
        generalize runL inLineB ((bs s).drop m) = z at *
        clear HRB1
        go_wp2_with fail
        go_cut [] from 14 to 23 (fun wx => RAt wx r s (m + z) b ∧ w.grownBy wx (some r))
        case first =>
          go_region_with (first | (go_at_call 38; refine (HRS1.out _).mono ?_; rintro e w4 ⟨rfl, q4, rfl⟩) | (go_at_call 35; refine (HRB2.out _).mono ?_; rintro e w3 ⟨rfl, rfl⟩))
          all_goals go_wp2_with fail
          all_goals go_meet
          all_goals exact ⟨(HR2.out.drewN _).setAt (m + z), grown_trans (grown_trans HG2.out (grown_but _ (grown_drewN _ _))) (grown_setCell r 1 _)⟩
        case rest =>
          obtain ⟨hR3, hg3⟩ := hcut
          have HM : Hid (skipTo s (m + z) = skipTo s i ∧ m < m + z) := by have := HLN.out; rw [HLT.out] at this; exact this
          have HR3 : Hid (RAt wc r s (m + z) b) := hR3
          have HG3 : Hid (w.grownBy wc (some r)) := hg3
          clear HRS1 HRB2 c0 c1 c2 f1 hwr HLN HLT HR2 HG2 hR3 hg3
          go_wp2_with fail
          go_step3
          refine ⟨rfl, ⟨m + z, _, _, _, _, _, _, _, _, _, _, _, _, _, _, _, _, _, _, _, _, _, _, _, rfl, HR3.out, HG3.out, hub2, HM.out.1⟩, ?_⟩
          have h1 := HR3.out.cells.2.1
          have h2 := HR0.out
          have h3 := HM.out.2
          rw [h1, h2]
          simp only [Option.getD_some, intOf]
          omega
      · rw [decide_eq_false hh] at hSE
        have HST : Hid (skipTo s i = m) := by show _ = _; rw [← HSK2.out]; exact skipTo_stop s m HNB.out hh
        clear HSK HSK2 hh HC
        go_wp2_with fail
        refine hSE.mono ?_
        rintro e w2 ⟨rfl, q2, hw2⟩
        have HFIN : Hid (RAt w2 r s (skipTo s i) b ∧ w.grownBy w2 (some r)) := by
          refine ⟨?_, ?_⟩
          · rw [hw2, HST.out]; exact HR1.out.drewN q2
          · rw [hw2]; exact grown_trans HG1.out (grown_but _ (grown_drewN _ _))
        clear hw2 HR1 HG1 hSE
        go_wp2_with fail
        simp only [Exit.jump]
        go_end0
        exact ⟨⟨_, rfl⟩, HFIN.out⟩

end Go.Proofs.YtpjckjggmcijjabDoor
