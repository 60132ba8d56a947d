import Derived.Test.YtkbjbijoekmooaaGreatQbddfpiacdobh
import Derived.BigQuiet

/-
  relate: the law RelateReads, walked.
-/
namespace Go.Proofs.YtkbjbijoekmooaaGreat.J
open Go.RowKit Go.Maps Go.Shelf

attribute [local go_sem] Oper.semAt_some

/-- What the laws that ask without the document's answer hold in memory. -/
structure LwP (w X : World) (gv wv : Array Value) (wb nb nn T kb : Nat) (a : Option Addr) (c : Nat) (tl : List It) (F : Nat → Bool) (Q : Nat → List Int) (ua : Nat → Option Addr) (uc : Nat → Nat) : Prop where
  ph : PhAt w X w.heap.size gv
  wbox : X.heap[wb]? = some (.cells wv 49 (0, 0))
  trs : X.ownsRow w.heap.size 53 2 (.slice a T c) T (itsV tl)
  nul : ValAt X nb nn 4 (fun i => .bool (F i))
  val : ValAt X kb T 24 (fun k => .slice (ua k) (Q k).length (uc k))
  ints : ∀ k, k < T → IntsAt X (ua k) (Q k)
theorem LwP.kept {w X Y : World} {gv wv : Array Value} {wb nb nn T kb : Nat} {a : Option Addr} {c : Nat} {tl : List It} {F : Nat → Bool} {Q : Nat → List Int} {ua : Nat → Option Addr} {uc : Nat → Nat} (h : LwP w X gv wv wb nb nn T kb a c tl F Q ua uc) (hg : X.grownBy Y none) : LwP w Y gv wv wb nb nn T kb a c tl F Q ua uc :=
  ⟨h.ph.kept hg, box_kept h.wbox hg, keep0 h.trs hg, h.nul.kept hg, h.val.kept hg, fun k hk => (h.ints k hk).kept hg⟩
theorem LwP.tr {w X : World} {gv wv : Array Value} {wb nb nn T kb : Nat} {a : Option Addr} {c : Nat} {tl : List It} {F : Nat → Bool} {Q : Nat → List Int} {ua : Nat → Option Addr} {uc : Nat → Nat} (h : LwP w X gv wv wb nb nn T kb a c tl F Q ua uc) (hT : T = tl.length) {j q s : Nat} (hj : j < T) (e : tl.getD j (0, 0) = ((q : Int), (s : Int))) : ∃ xg, a = some ⟨xg, 0, none⟩ ∧ X.cell? ⟨xg, j * 2, none⟩ = some (.int .i64 (q : Int)) ∧ X.cell? ⟨xg, j * 2 + 1, none⟩ = some (.int .i64 (s : Int)) := by
  have hl : j < tl.length := by rw [← hT]; exact hj
  obtain ⟨g, c, e1, h1⟩ := owns_at h.trs (by omega)
  simp only [Value.slice.injEq] at e1
  obtain ⟨h2, h3⟩ := itsV_at tl j hl
  rw [e] at h2 h3
  exact ⟨g, e1.1, h1 _ _ h2, h1 _ _ h3⟩
theorem ints_of {X : World} {B c : Nat} {a : Option Addr} {l : List Int} (h : X.ownsRow B 3 1 (.slice a l.length c) l.length (intV l)) : IntsAt X a l := by
  by_cases e : l.length = 0
  · exact .inl (List.length_eq_zero_iff.1 e)
  · obtain ⟨g, c', e1, h1⟩ := owns_at h (by omega)
    simp only [Value.slice.injEq] at e1
    refine .inr ⟨g, 0, e1.1, fun i hi => ?_⟩
    rw [Nat.zero_add]
    refine h1 i _ ?_
    unfold intV
    rw [List.getElem?_map, List.getElem?_eq_getElem hi, List.getD_eq_getElem?_getD, List.getElem?_eq_getElem hi]; rfl
theorem wv_cells {X : World} {wb : Nat} {v0 v1 v2 v3 v4 v5 v6 : Value} {t : TypeId} (h : X.heap[wb]? = some (.cells #[v0, v1, v2, v3, v4, v5, v6] t (0, 0))) : X.cell? ⟨wb, 0, none⟩ = some v0 ∧ X.cell? ⟨wb, 4, none⟩ = some v4 ∧ X.cell? ⟨wb, 5, none⟩ = some v5 ∧ X.cell? ⟨wb, 6, none⟩ = some v6 := by
  refine ⟨?_, ?_, ?_, ?_⟩ <;> rw [cell_of_row _ _ _ _ _ _ h] <;> rfl

section
variable (ta na la pa : Option Addr) (tc nc lc pc : Nat) (n : Nat) (st : Int) (w : World) (tn nn ln : Nat)

set_option maxRecDepth 100000 in
set_option maxHeartbeats 1000000 in
theorem ureadsL_bad (hAS : ∀ X, w.grownBy X none → Calls Tryz.prog 18 #[.agg #[.slice ta tn tc, .slice na nn nc, .slice la ln lc, .int .i64 st, .slice pa n pc]] X fun e y => e = .returned (.tuple #[.pointer none, .bool true]) ∧ X.grownBy y none) : Calls Tryz.prog 4 #[.agg #[.slice ta tn tc, .slice na nn nc, .slice la ln lc, .int .i64 st, .slice pa n pc]] w fun e y => e = .returned (.bool true) ∧ w.grownBy y none := by
  have HAS := show Hid _ from hAS
  have HP0 : Hid (PhAt w (w.alloc (.cells #[.slice ta tn tc, .slice na nn nc, .slice la ln lc, .int .i64 st, .slice pa n pc] 27)) w.heap.size #[.slice ta tn tc, .slice na nn nc, .slice la ln lc, .int .i64 st, .slice pa n pc]) := ⟨World.grownBy_alloc _ _ none, heap_alloc_last w _⟩
  clear hAS
  go_enter Tryz.func4, Tryz.ntmps4
  go_wp2_with fail
  refine Calls.mono (uawake_any _) ?_
  rintro e w1 ⟨rfl, hg1⟩
  have HP1 : Hid (PhAt w w1 w.heap.size #[.slice ta tn tc, .slice na nn nc, .slice la ln lc, .int .i64 st, .slice pa n pc]) := HP0.out.kept hg1
  clear hg1 HP0
  obtain ⟨k0, k1, k2, k3, k4⟩ := HP1.out.cells
  go_wp2_with fail
  refine Calls.mono (HAS.out _ HP1.out.grown) ?_
  rintro e w2 ⟨rfl, hg2⟩
  have HG2 : Hid (w.grownBy w2 none) := grown_trans HP1.out.grown hg2
  clear hg2 HP1 k0 k1 k2 k3 k4
  go_wp2_with fail
  go_ret
  exact ⟨rfl, HG2.out⟩

set_option maxRecDepth 100000 in
set_option maxHeartbeats 4000000 in
theorem ureadsL_ok (N T : Nat) (tl : List It) (F : Nat → Bool) (Q : Nat → List Int) (bF : Nat → Nat) (hT : T = tl.length) (hT4 : T ≤ 40000) (hnn : nn ≤ 65) (_htn : tn ≤ 65)
    (htb : ∀ j, j < T → ∃ q s : Nat, tl.getD j (0, 0) = ((q : Int), (s : Int)) ∧ q < N ∧ tn ≤ s ∧ s < tn + nn)
    (hAS : ∀ X, w.grownBy X none → Calls Tryz.prog 18 #[.agg #[.slice ta tn tc, .slice na nn nc, .slice la ln lc, .int .i64 st, .slice pa n pc]] X fun e y => UAskTold ta na la pa tc nc lc pc n st tn nn ln tl F X e y)
    (hRD : ∀ X, w.grownBy X none → Calls Tryz.prog 12 #[.agg #[.slice ta tn tc, .slice na nn nc, .slice la ln lc, .int .i64 st, .slice pa n pc]] X fun e y => RelTold tl.length Q X e y)
    (hWK : ∀ X i q s b, w.grownBy X none → i < T → tl.getD i (0, 0) = ((q : Int), (s : Int)) → IntsAt X (some ⟨b, 0, none⟩) [(s : Int)] → Calls Tryz.prog 19 #[.agg #[.slice ta tn tc, .slice na nn nc, .slice la ln lc, .int .i64 st, .slice pa n pc], .int .i64 (q : Int), .slice (some ⟨b, 0, none⟩) 1 1] X fun e y => e = .returned (.tuple #[.int .i64 (bF i : Int), .int .i64 0]) ∧ X.grownBy y none)
    (hSP : ∀ i, i < T → (Q i).length ≤ 40000 ∧ (Q i).Pairwise (· < ·) ∧ (∀ x ∈ Q i, 0 ≤ x ∧ x < (T : Int)) ∧ ∀ k q s : Nat, k < T → tl.getD k (0, 0) = ((q : Int), (s : Int)) → ((k : Int) ∈ Q i ↔ q = bF i ∧ F (s - tn) = true)) :
    Calls Tryz.prog 4 #[.agg #[.slice ta tn tc, .slice na nn nc, .slice la ln lc, .int .i64 st, .slice pa n pc]] w fun e y => e = .returned (.bool true) ∧ w.grownBy y none := by
  have HAS := show Hid _ from hAS
  have HRD := show Hid _ from hRD
  have HWK := show Hid _ from hWK
  have HSP := show Hid _ from hSP
  have HTB := show Hid _ from htb
  have HT := show Hid _ from hT
  have HP0 : Hid (PhAt w (w.alloc (.cells #[.slice ta tn tc, .slice na nn nc, .slice la ln lc, .int .i64 st, .slice pa n pc] 27)) w.heap.size #[.slice ta tn tc, .slice na nn nc, .slice la ln lc, .int .i64 st, .slice pa n pc]) := ⟨World.grownBy_alloc _ _ none, heap_alloc_last w _⟩
  rw [← hT] at HRD
  clear hAS hRD hWK hSP htb
  go_enter Tryz.func4, Tryz.ntmps4
  go_wp2_with fail
  refine Calls.mono (uawake_any _) ?_
  rintro e w1 ⟨rfl, hg1⟩
  have HP1 : Hid (PhAt w w1 w.heap.size #[.slice ta tn tc, .slice na nn nc, .slice la ln lc, .int .i64 st, .slice pa n pc]) := HP0.out.kept hg1
  clear hg1 HP0
  obtain ⟨k0, k1, k2, k3, k4⟩ := HP1.out.cells
  go_wp2_with fail
  refine Calls.mono (HAS.out _ HP1.out.grown) ?_
  rintro e w2 ⟨wb, a, c, nb, rfl, hwb, hrow, hnul, hg2⟩
  rw [← hT] at hwb hrow
  have HP2 : Hid (PhAt w w2 w.heap.size #[.slice ta tn tc, .slice na nn nc, .slice la ln lc, .int .i64 st, .slice pa n pc]) := HP1.out.kept hg2
  have HWB := show Hid _ from hwb
  have HROW : Hid (w2.ownsRow w.heap.size 53 2 (.slice a T c) T (itsV tl)) := owns_base hrow HP1.out.grown.size
  have HNUL : Hid (ValAt w2 nb nn 4 (fun i => .bool (F i))) := hnul
  clear hg2 HP1 k0 k1 k2 k3 k4 hwb hrow hnul HAS hT
  obtain ⟨k0, k1, k2, k3, k4⟩ := HP2.out.cells
  go_wp2_with fail
  refine Calls.mono (HRD.out _ HP2.out.grown) ?_
  rintro e w3 ⟨P, kb, bx, ua, uc, hP, rfl, hL⟩
  have hg3 := grown_trans hP hL.grown
  obtain ⟨wv, hwv⟩ : ∃ wv : Array Value, wv = #[.slice ta tn tc, .slice na nn nc, .slice la ln lc, .int .i64 st, .slice pa n pc, .slice a T c, .slice (some ⟨nb, 0, none⟩) nn nn] := ⟨_, rfl⟩
  have HWV := show Hid _ from hwv
  have HW3 : Hid (LwP w w3 #[.slice ta tn tc, .slice na nn nc, .slice la ln lc, .int .i64 st, .slice pa n pc] wv wb nb nn T kb a c tl F Q ua uc) := ⟨HP2.out.kept hg3, by rw [hwv]; exact box_kept HWB.out hg3, keep0 HROW.out hg3, HNUL.out.kept hg3, hL.val, fun k hk => ints_of (hL.own k hk)⟩
  have HWF : Hid (∀ X, w3.grownBy X none → LwP w X #[.slice ta tn tc, .slice na nn nc, .slice la ln lc, .int .i64 st, .slice pa n pc] wv wb nb nn T kb a c tl F Q ua uc) := fun X hX => HW3.out.kept hX
  have HWC : Hid (∀ X, w3.grownBy X none → X.cell? ⟨wb, 5, none⟩ = some (.slice a T c) ∧ X.cell? ⟨wb, 6, none⟩ = some (.slice (some ⟨nb, 0, none⟩) nn nn)) := fun X hX => by
    have h := (HWF.out X hX).wbox
    rw [HWV.out] at h
    exact ⟨(wv_cells h).2.2.1, (wv_cells h).2.2.2⟩
  obtain ⟨b5, b6⟩ := HWC.out w3 (grown_refl _ _)
  have hTT : ((T : Int) != (T : Int)) = false := bne_self_eq_false _
  have hTT2 : (T != T) = false := bne_self_eq_false _
  clear hP hL hg3 k0 k1 k2 k3 k4 HP2 HWB HROW HNUL HRD hwv HW3
  go_wp2_with fail
  clear b5 b6 hTT hTT2
  go_loopg [8] T (fun gk v8 wr => ∃ (i : Nat), i ≤ T ∧ gk = T - i ∧ v8 = .int .i64 i ∧ w3.grownBy wr none)
  case atStart => exact ⟨0, Nat.zero_le _, rfl, rfl, grown_refl _ _⟩
  case round =>
    obtain ⟨i, hi, hgi, rfl, hg⟩ := hrel
    have HGI : Hid (gk = T - i) := hgi
    have HG : Hid (w3.grownBy wr none) := hg
    clear hgi hg
    generalize wr = Y at *
    obtain ⟨b5, b6⟩ := HWC.out Y HG.out
    by_cases hlt : i < T
    · have hid : decide (i < T) = true := decide_eq_true hlt
      have hi0 : (0 : Int) ≤ (i : Int) := by omega
      have hi1 : (i : Int) < (T : Int) := by omega
      obtain ⟨q, s, hqs, hqN, hts, hsn⟩ := HTB.out i hlt
      obtain ⟨xg, rfl, x0, x1⟩ := (HWF.out Y HG.out).tr HT.out hlt hqs
      obtain ⟨b, hb⟩ : ∃ b, b = bF i := ⟨_, rfl⟩
      have HTR : Hid (∀ X, w3.grownBy X none → ∀ j q s : Nat, j < T → tl.getD j (0, 0) = ((q : Int), (s : Int)) → X.cell? ⟨xg, j * 2, none⟩ = some (.int .i64 (q : Int)) ∧ X.cell? ⟨xg, j * 2 + 1, none⟩ = some (.int .i64 (s : Int))) := fun X hX j q s hj e => by
        obtain ⟨xg', e1, h1, h2⟩ := (HWF.out X hX).tr HT.out hj e
        simp only [Option.some.injEq, Addr.mk.injEq, and_true] at e1
        rw [e1]
        exact ⟨h1, h2⟩
      have HKS : Hid (∀ x, w3.grownBy x none → (x.cell? ⟨w.heap.size, 0, none⟩ = some (.slice ta tn tc) ∧ x.cell? ⟨w.heap.size, 1, none⟩ = some (.slice na nn nc) ∧ x.cell? ⟨w.heap.size, 2, none⟩ = some (.slice la ln lc) ∧ x.cell? ⟨w.heap.size, 3, none⟩ = some (.int .i64 st) ∧ x.cell? ⟨w.heap.size, 4, none⟩ = some (.slice pa n pc)) ∧ x.cell? ⟨wb, 5, none⟩ = some (.slice (some ⟨xg, 0, none⟩) T c) ∧ x.cell? ⟨xg, i * 2, none⟩ = some (.int .i64 (q : Int)) ∧ x.cell? ⟨xg, i * 2 + 1, none⟩ = some (.int .i64 (s : Int))) := fun x hx => ⟨(HWF.out x hx).ph.cells, (HWC.out x hx).1, HTR.out x hx i q s hlt hqs⟩
      have HCW : Hid (Calls Tryz.prog 19 #[.agg #[.slice ta tn tc, .slice na nn nc, .slice la ln lc, .int .i64 st, .slice pa n pc], .int .i64 (q : Int), .slice (some ⟨Y.heap.size, 0, none⟩) 1 1] (Y.alloc (.cells #[.int .i64 (s : Int)] 3)).drew fun e y => e = .returned (.tuple #[.int .i64 (b : Int), .int .i64 0]) ∧ (Y.alloc (.cells #[.int .i64 (s : Int)] 3)).drew.grownBy y none) := by
        rw [hb]
        refine HWK.out _ i q s Y.heap.size (grown_trans (HWF.out Y HG.out).ph.grown (grown_trans (World.grownBy_alloc _ _ none) (grown_drewN _ 1))) hlt hqs (.inr ⟨Y.heap.size, 0, rfl, fun j hj => ?_⟩)
        have hj0 : j = 0 := by simpa using hj
        subst hj0
        show (Y.alloc (.cells #[.int .i64 (s : Int)] 3)).cell? ⟨Y.heap.size, 0, none⟩ = _
        rw [cell_of_row _ _ _ _ _ _ (heap_alloc_last Y _)]; rfl
      have HGc : Hid (w3.grownBy Y none) := HG.out
      have HGd : Hid (w3.grownBy (Y.alloc (.cells #[.int .i64 (s : Int)] 3)).drew none) := grown_trans HG.out (grown_trans (World.grownBy_alloc _ _ none) (grown_drewN _ 1))
      have HB := show Hid _ from hb
      have HQS := show Hid _ from hqs
      obtain ⟨⟨k0, k1, k2, k3, k4⟩, _⟩ := HKS.out Y HG.out
      clear hb hqs
      go_wp2_with fail
      go_region_held3 (fun x => (x.cell? ⟨w.heap.size, 0, none⟩ = some (.slice ta tn tc) ∧ x.cell? ⟨w.heap.size, 1, none⟩ = some (.slice na nn nc) ∧ x.cell? ⟨w.heap.size, 2, none⟩ = some (.slice la ln lc) ∧ x.cell? ⟨w.heap.size, 3, none⟩ = some (.int .i64 st) ∧ x.cell? ⟨w.heap.size, 4, none⟩ = some (.slice pa n pc)) ∧ x.cell? ⟨wb, 5, none⟩ = some (.slice (some ⟨xg, 0, none⟩) T c) ∧ x.cell? ⟨xg, i * 2, none⟩ = some (.int .i64 (q : Int)) ∧ x.cell? ⟨xg, i * 2 + 1, none⟩ = some (.int .i64 (s : Int))) (first | exact HKS.out _ HGc.out | exact HKS.out _ (grown_trans HGc.out (World.grownBy_alloc _ _ none)) | go_keep)
        ((first
          | (go_at_call 19; refine calls_at (Y.alloc (.cells #[.int .i64 (s : Int)] 3)).drew (by with_reducible rfl) ?_; refine Calls.mono HCW.out ?_; rintro e w4 ⟨rfl, hg4⟩; have HGc : Hid (w3.grownBy w4 none) := grown_trans HGd.out hg4; clear hg4)
          | fail))
      clear b5 b6 k0 k1 k2 k3 k4 x0 x1 HCW HGd
      go_wp2_with fail
      have HG4 : Hid (w3.grownBy w4 none) := HGc.out
      clear HGc HKS
      obtain ⟨m, hm⟩ : ∃ m, m = (Q i).length := ⟨_, rfl⟩
      have hm4 : m ≤ 40000 := by rw [hm]; exact (HSP.out i hlt).1
      obtain ⟨ul, hul⟩ : ∃ x, x = ua i := ⟨_, rfl⟩
      obtain ⟨cl, hcl⟩ : ∃ x, x = uc i := ⟨_, rfl⟩
      have HLC : Hid (∀ X, w3.grownBy X none → X.cell? ⟨kb, i, none⟩ = some (.slice ul m cl)) := fun X hX => by
        rw [hul, hm, hcl]
        exact (HWF.out X hX).val.cell i hlt
      have HLI : Hid (∀ X, w3.grownBy X none → IntsAt X ul (Q i)) := fun X hX => by
        rw [hul]
        exact (HWF.out X hX).ints i hlt
      have HM := show Hid _ from hm
      clear hm hul hcl
      go_loopg [11] T (fun gk v11 wr => ∃ (k : Nat), k ≤ T ∧ gk = T - k ∧ v11 = .int .i64 k ∧ w3.grownBy wr none)
      case atStart => exact ⟨0, Nat.zero_le _, rfl, rfl, by first | exact HG4.out | exact grown_trans HG4.out (grown_drewN _ _)⟩
      case round =>
        obtain ⟨k, hk, hgk, rfl, hg⟩ := hrel
        have HGK : Hid (gk = T - k) := hgk
        have HG5 : Hid (w3.grownBy wr none) := hg
        clear hgk hg HG4
        generalize wr = X at *
        obtain ⟨b5, b6⟩ := HWC.out X HG5.out
        by_cases hltk : k < T
        · have hkd : decide (k < T) = true := decide_eq_true hltk
          have hk0 : (0 : Int) ≤ (k : Int) := by omega
          have hk1 : (k : Int) < (T : Int) := by omega
          obtain ⟨qk, sk, hqsk, hqkN, htsk, hskn⟩ := HTB.out k hltk
          obtain ⟨x0, x1⟩ := HTR.out X HG5.out k qk sk hltk hqsk
          obtain ⟨nk, hnk⟩ : ∃ nk, nk = sk - tn := ⟨_, rfl⟩
          have hnkn : nk < nn := by omega
          have hsw : IntKind.i64.wrap ((sk : Int) - (tn : Int)) = (nk : Int) := by rw [IntKind.wrap_i64]; omega
          have hn0 : decide ((nk : Int) < 0) = false := decide_eq_false (by omega)
          have hn1 : decide ((nn : Int) ≤ (nk : Int)) = false := decide_eq_false (by omega)
          have hn2 : decide (nn ≤ nk) = false := decide_eq_false (by omega)
          have hn3 : (0 : Int) ≤ (nk : Int) := by omega
          have hn4 : (nk : Int) < (nn : Int) := by omega
          have g0 : X.cell? ⟨w.heap.size, 0, none⟩ = some (.slice ta tn tc) := (HWF.out X HG5.out).ph.cells.1
          obtain ⟨fb, hfb⟩ : ∃ fb, fb = F nk := ⟨_, rfl⟩
          have y0 : X.cell? ⟨nb, nk, none⟩ = some (.bool fb) := by rw [hfb]; exact (HWF.out X HG5.out).nul.cell nk hnkn
          have l0 := HLC.out X HG5.out
          have hkw : IntKind.i64.wrap ((k : Int) + 1) = (k : Int) + 1 := by rw [IntKind.wrap_i64]; omega
          have HME : Hid ((k : Int) ∈ Q i ↔ qk = b ∧ fb = true) := by
            show _ ↔ _
            rw [hfb, hnk, HB.out]
            exact (HSP.out i hlt).2.2.2 k qk sk hltk hqsk
          have HHAS : Hid (∀ Z r, w3.grownBy Z none → r = decide ((k : Int) ∈ Q i) → Calls Tryz.prog 20 #[.slice ul m cl, .int .i64 (k : Int)] Z fun e w' => e = .returned (.bool r) ∧ w' = Z) := fun Z r hZ hr => by
            rw [HM.out]
            exact uhas_any Z ul cl (Q i) (HLI.out Z hZ) (by rw [← HM.out]; omega) (k : Int) r hr
          clear hnk hfb hqsk
          by_cases hqb : qk = b
          · have hqe : ((qk : Int) == (b : Int)) = true := by rw [hqb]; exact beq_self_eq_true _
            have HR : Hid (fb = decide ((k : Int) ∈ Q i)) := by
              show _ = _
              rw [Bool.eq_iff_iff, decide_eq_true_iff, HME.out]
              exact ⟨fun h => ⟨hqb, h⟩, fun h => h.2⟩
            have hff : (fb != fb) = false := bne_self_eq_false _
            clear hqb
            go_wp2_with fail
            go_quiet (fail)
            go_wp2_with fail
            refine Calls.mono (HHAS.out _ fb (grown_trans HG5.out (grown_drewN _ _)) HR.out) ?_
            rintro e w5 ⟨rfl, rfl⟩
            go_wp2_with fail
            go_roundg (T - (k + 1))
            all_goals first
              | exact (show ∃ (k' : Nat), _ from ⟨k + 1, by omega, rfl, by go_num, grown_trans HG5.out (grown_drewN _ _)⟩)
              | (have := HGK.out; omega)
          · have hqe : ((qk : Int) == (b : Int)) = false := beq_eq_false_iff_ne.2 (by omega)
            have HR : Hid (false = decide ((k : Int) ∈ Q i)) := by
              show _ = _
              exact (decide_eq_false fun h => hqb (HME.out.1 h).1).symm
            clear hqb
            go_wp2_with fail
            go_quiet (fail)
            go_wp2_with fail
            refine Calls.mono (HHAS.out _ false (grown_trans HG5.out (grown_drewN _ _)) HR.out) ?_
            rintro e w5 ⟨rfl, rfl⟩
            go_wp2_with fail
            go_roundg (T - (k + 1))
            all_goals first
              | exact (show ∃ (k' : Nat), _ from ⟨k + 1, by omega, rfl, by go_num, grown_trans HG5.out (grown_drewN _ _)⟩)
              | (have := HGK.out; omega)
        · have hkd : decide (k < T) = false := decide_eq_false hltk
          go_wp2_with fail
          clear b5 b6
          go_loopg [14] m (fun gk v14 wr => ∃ (j : Nat), j ≤ m ∧ gk = m - j ∧ v14 = .int .i64 j ∧ w3.grownBy wr none)
          case atStart => exact ⟨0, Nat.zero_le _, rfl, rfl, HG5.out⟩
          case round =>
            obtain ⟨j, hj, hgj, rfl, hg⟩ := hrel
            have HGJ : Hid (gk = m - j) := hgj
            have HG6 : Hid (w3.grownBy wr none) := hg
            clear hgj hg HG5
            generalize wr = Z at *
            obtain ⟨b5, b6⟩ := HWC.out Z HG6.out
            have l0 := HLC.out Z HG6.out
            by_cases hltj : j < m
            · have hjl : j < (Q i).length := by rw [← HM.out]; exact hltj
              obtain ⟨x, hx⟩ : ∃ x, x = (Q i).getD j 0 := ⟨_, rfl⟩
              have hxr := (HSP.out i hlt).2.2.1 _ (getD_in (d := 0) hjl)
              rw [← hx] at hxr
              have hx0 : decide (x < 0) = false := decide_eq_false (by omega)
              have hx1 : decide ((T : Int) ≤ x) = false := decide_eq_false (by omega)
              obtain ⟨ib, io, rfl, hc⟩ : ∃ ib io, ul = some ⟨ib, io, none⟩ ∧ ∀ j, j < (Q i).length → Z.cell? ⟨ib, io + j, none⟩ = some (.int .i64 ((Q i).getD j 0)) := by
                rcases HLI.out Z HG6.out with h | ⟨ib, io, e, h⟩
                · rw [h] at hjl; exact absurd hjl (by simp)
                · exact ⟨ib, io, e, h⟩
              have r0 := hc j hjl
              rw [← hx] at r0
              cases j with
              | zero =>
                have hjd : decide (0 < m) = true := decide_eq_true hltj
                have hm1 : (0 : Int) < (m : Int) := by omega
                rw [Nat.add_zero] at r0
                clear hx hc hxr
                go_wp2_with fail
                go_quiet (fail)
                go_wp2_with fail
                go_roundg (m - (0 + 1))
                all_goals first
                  | exact (show ∃ (j' : Nat), _ from ⟨0 + 1, by omega, rfl, by go_num, grown_trans HG6.out (grown_drewN _ _)⟩)
                  | (have := HGJ.out; omega)
              | succ j =>
                have hjd : decide (j + 1 < m) = true := decide_eq_true hltj
                obtain ⟨x', hx'⟩ : ∃ x, x = (Q i).getD j 0 := ⟨_, rfl⟩
                have r1 := hc j (by omega)
                rw [← hx'] at r1
                have hxx : decide (x ≤ x') = false := by
                  refine decide_eq_false ?_
                  have h := List.pairwise_iff_getElem.1 (HSP.out i hlt).2.1 j (j + 1) (by omega) hjl (by omega)
                  rw [hx, hx', List.getD_eq_getElem?_getD, List.getD_eq_getElem?_getD, List.getElem?_eq_getElem hjl, List.getElem?_eq_getElem (show j < (Q i).length by omega)]
                  simp only [Option.getD_some]
                  omega
                have e14 : ((j + 1 : Nat) : Int) = (j : Int) + 1 := by omega
                have hj1 : (0 : Int) ≤ (j : Int) + 1 := by omega
                have hj2 : (j : Int) + 1 < (m : Int) := by omega
                have hj3 : (0 : Int) < (j : Int) + 1 := by omega
                have hj4 : decide ((0 : Int) < (j : Int) + 1) = true := decide_eq_true hj3
                have hj5 : (j : Int) < (m : Int) := by omega
                have hj6 : (0 : Int) ≤ (j : Int) := by omega
                have hj7 : decide ((j : Int) + 1 < (m : Int)) = true := decide_eq_true hj2
                have hmw : IntKind.i64.wrap ((j : Int) + 1 - 1) = (j : Int) := by rw [IntKind.wrap_i64]; omega
                have hmw2 : IntKind.i64.wrap (j : Int) = (j : Int) := by rw [IntKind.wrap_i64]; omega
                have hmw4 : (j : Int) + 1 - 1 = (j : Int) := by omega
                have hmw5 : IntKind.i64.wrap ((j : Int) + 1 + 1) = (j : Int) + 1 + 1 := by rw [IntKind.wrap_i64]; omega
                rw [e14]
                clear hx hc hxr hx' e14
                go_wp2_with fail
                go_quiet (fail)
                go_wp2_with fail
                go_roundg (m - (j + 1 + 1))
                all_goals first
                  | exact (show ∃ (j' : Nat), _ from ⟨j + 1 + 1, by omega, rfl, by go_num, grown_trans HG6.out (grown_drewN _ _)⟩)
                  | (have := HGJ.out; omega)
            · have hjd : decide (j < m) = false := decide_eq_false hltj
              have hiw : IntKind.i64.wrap ((i : Int) + 1) = (i : Int) + 1 := by rw [IntKind.wrap_i64]; omega
              go_wp2_with fail
              go_roundg (T - (i + 1))
              all_goals first
                | exact (show ∃ (i' : Nat), _ from ⟨i + 1, by omega, rfl, by go_num, HG6.out⟩)
                | (have := HGI.out; omega)
    · have hid : decide (i < T) = false := decide_eq_false hlt
      go_wp2_with fail
      go_ret
      exact ⟨rfl, (HWF.out Y HG.out).ph.grown⟩
end

end Go.Proofs.YtkbjbijoekmooaaGreat.J

/-
  relate: the law RelateReads, for every grammar.
-/
namespace Go.Proofs.YtkbjbijoekmooaaGreat.J
open Go.RowKit Go.Maps Go.Shelf

theorem getD_some' {l : List It} {k : Nat} {x : It} (hk : k < l.length) (e : l.getD k (0, 0) = x) : l[k]? = some x := by
  rw [List.getD_eq_getElem?_getD, List.getElem?_eq_getElem hk] at e
  rw [List.getElem?_eq_getElem hk]
  exact congrArg some e
theorem nextL_of_in {tn N : Nat} {es : List (List (Nat × Nat))} {q s : Nat} (h : ((q : Int), (s : Int)) ∈ trT tn es N) : q < N ∧ tn ≤ s ∧ ∃ t : Nat, nextL (es.getD q []) (s : Int) = some (t : Int) := by
  obtain ⟨q', h1, e, h2, h3, h4⟩ := trT_mem h
  simp only [Prod.mk.injEq] at h4
  have e1 : q = q' := by omega
  have e2 : s = e.1 := by omega
  subst e1
  obtain ⟨t, h5, _⟩ := nextL_some h2
  exact ⟨h1, by omega, t, by rw [e2]; exact h5⟩

section
variable (ta na la pa : Option Addr) (tc nc lc pc : Nat) (ts : List (ByteArray × Int)) (ns : List ByteArray) (lv : List Int) (n : Nat) (L : Nat → Int) (R : Nat → List Int) (ra : Nat → Option Addr) (rc : Nat → Nat) (V : Nat → Int) (st : Int) (w : World) (tn nn ln : Nat) (hlen : ts.length = tn ∧ ns.length = nn ∧ lv.length = ln) (hG : GAt w ta na la pa tc nc lc pc ts ns lv n L R ra rc V) (hts : ∀ t ∈ ts, t.1.size ≤ 140737488355328) (hns : ∀ s ∈ ns, s.size ≤ 140737488355328)
include hlen hG hts hns
theorem closedU (r : Bool) (hr : r = true ↔ closedOK ts ns lv st n L R V) (X : World) (hX : w.grownBy X none) : Calls Tryz.prog 37 #[.agg #[.slice ta tn tc, .slice na nn nc, .slice la ln lc, .int .i64 st, .slice pa n pc]] X fun e y => e = .returned (.bool r) ∧ X.grownBy y none := by
  obtain ⟨rfl, rfl, rfl⟩ := hlen
  exact rclosed_any ta na la pa tc nc lc pc st ts ns lv n L R ra rc V X (hG.kept hX) hts hns r hr
theorem askedBad (h : ¬ closedOK ts ns lv st n L R V ∨ (closedOK ts ns lv st n L R V ∧ autoF (GG tn n L R) (tn + nn) 256 = none)) (X : World) (hX : w.grownBy X none) : Calls Tryz.prog 18 #[.agg #[.slice ta tn tc, .slice na nn nc, .slice la ln lc, .int .i64 st, .slice pa n pc]] X fun e y => e = .returned (.tuple #[.pointer none, .bool true]) ∧ X.grownBy y none := by
  rcases h with hc | ⟨hc, hau⟩
  · exact uasked_bad1 ta na la pa tc nc lc pc n st X tn nn ln
      (fun Y hY => buildBad ta na la pa tc nc lc pc ts ns lv n L R ra rc V st Y tn nn ln hlen (hG.kept (grown_trans hX hY)) hc)
      (fun Y hY => listX_bad ta na la pa tc nc lc pc n st Y tn nn ln 1 (.inl rfl) (ofBad1 ta na la pa tc nc lc pc ts ns lv n L R ra rc V st Y tn nn ln hlen (hG.kept (grown_trans hX hY)) hc))
      (fun Y hY => rel_bad ta na la pa tc nc lc pc ts ns lv n L R ra rc V st w tn nn ln hlen hG (.inl ⟨rfl, hc⟩) Y (grown_trans hX hY))
      (fun Y hY => closedU ta na la pa tc nc lc pc ts ns lv n L R ra rc V st w tn nn ln hlen hG hts hns false (by simp [hc]) Y (grown_trans hX hY))
  · exact uasked_bad11 ta na la pa tc nc lc pc n st X tn nn ln
      (fun Y hY => build_none ta na la pa tc nc lc pc ts ns lv n L R ra rc V st w tn nn ln hlen hG hc hau Y (grown_trans hX hY))
      (fun Y hY => listX_bad ta na la pa tc nc lc pc n st Y tn nn ln 11 (.inr rfl) (ofBad11 ta na la pa tc nc lc pc ts ns lv n L R ra rc V st Y tn nn ln hlen (hG.kept (grown_trans hX hY)) hc hau))
      (fun Y hY => rel_bad ta na la pa tc nc lc pc ts ns lv n L R ra rc V st w tn nn ln hlen hG (.inr ⟨rfl, hc, hau⟩) Y (grown_trans hX hY))
      (fun Y hY => closedU ta na la pa tc nc lc pc ts ns lv n L R ra rc V st w tn nn ln hlen hG hts hns true (by simp [hc]) Y (grown_trans hX hY))
theorem askedOk (hc : closedOK ts ns lv st n L R V) {ks : List (List It)} {es : List (List (Nat × Nat))} (h : autoF (GG tn n L R) (tn + nn) 256 = some (ks, es)) (X : World) (hX : w.grownBy X none) : Calls Tryz.prog 18 #[.agg #[.slice ta tn tc, .slice na nn nc, .slice la ln lc, .int .i64 st, .slice pa n pc]] X fun e y => UAskTold ta na la pa tc nc lc pc n st tn nn ln (trT tn es ks.length) (nulB tn n L R) X e y := by
  have hO := relOK ta na la pa tc nc lc pc ts ns lv n L R ra rc V st w tn nn ln hlen hG hc h
  have hM := hO.may
  exact uasked_ok ta na la pa tc nc lc pc n st X tn nn ln ks es (trT tn es ks.length) (nulB tn n L R) ks.length (trT tn es ks.length).length _ _ _
    (fun Y hY => build_some ta na la pa tc nc lc pc ts ns lv n L R ra rc V st w tn nn ln hlen hG hc h Y (grown_trans hX hY))
    (fun Y hY => listX_ok ta na la pa tc nc lc pc n st Y tn nn ln ks es hO.eok.le (fun q hq => (hO.eok.each q hq).1) (ofOk ta na la pa tc nc lc pc ts ns lv n L R ra rc V st Y tn nn ln hlen (hG.kept (grown_trans hX hY)) hc h).1)
    (fun Y hY => rel_reads ta na la pa tc nc lc pc ts ns lv n L R ra rc V st w tn nn ln hlen hG hc h Y (grown_trans hX hY))
    (fun Y hY => rel_includes ta na la pa tc nc lc pc ts ns lv n L R ra rc V st w tn nn ln hlen hG hc h Y (grown_trans hX hY))
    (fun Y hY => rel_lookback ta na la pa tc nc lc pc ts ns lv n L R ra rc V st w tn nn ln hlen hG hc h Y (grown_trans hX hY))
    (fun Y hY => closedU ta na la pa tc nc lc pc ts ns lv n L R ra rc V st w tn nn ln hlen hG hts hns true (by simp [hc]) Y (grown_trans hX hY))
    (fun Y hY => nullable_ok ta na la pa tc nc lc pc ts ns lv n L R ra rc V st Y tn nn ln hlen (hG.kept (grown_trans hX hY)) (.inr hc) (cl := true) ⟨hM.t0, hM.tmax, hM.n0, hM.nmax, hM.pmax, hM.p0, hM.left, hM.right, hM.start, hM.added⟩ (nulB tn n L R) (fun i => nulB_iff tn n L R i))
omit hts hns in
theorem walkU (hc : closedOK ts ns lv st n L R V) {ks : List (List It)} {es : List (List (Nat × Nat))} (h : autoF (GG tn n L R) (tn + nn) 256 = some (ks, es)) (X : World) (hX : w.grownBy X none) (q : Nat) (hq : q < ks.length) (a : Option Addr) (c : Nat) (row : List Int) (hI : IntsAt X a row) (hl : row.length ≤ 1000000) (hs : ∀ x ∈ row, 0 ≤ x ∧ x < ((tn + nn : Nat) : Int)) : Calls Tryz.prog 19 #[.agg #[.slice ta tn tc, .slice na nn nc, .slice la ln lc, .int .i64 st, .slice pa n pc], .int .i64 (q : Int), .slice a row.length c] X fun e y => e = .returned (.tuple #[.int .i64 (wayV (wayF es (some (q : Int)) row)), .int .i64 0]) ∧ X.grownBy y none := by
  have hO := relOK ta na la pa tc nc lc pc ts ns lv n L R ra rc V st w tn nn ln hlen hG hc h
  exact walkX_ok ta na la pa tc nc lc pc n st X tn nn ln ks es hO.may.tmax hO.may.nmax hO.eok.le hO.eok.ok (ofOk ta na la pa tc nc lc pc ts ns lv n L R ra rc V st X tn nn ln hlen (hG.kept hX) hc h).1 q hq a c row hI (by omega) (fun x hx => by
    unfold noB
    rw [decide_eq_true (hs x hx)]; rfl)
theorem ureads_core : Calls Tryz.prog 4 #[.agg #[.slice ta tn tc, .slice na nn nc, .slice la ln lc, .int .i64 st, .slice pa n pc]] w fun e y => e = .returned (.bool true) ∧ w.grownBy y none := by
  by_cases hc : closedOK ts ns lv st n L R V
  · cases hau : autoF (GG tn n L R) (tn + nn) 256 with
    | none => exact ureadsL_bad ta na la pa tc nc lc pc n st w tn nn ln (askedBad ta na la pa tc nc lc pc ts ns lv n L R ra rc V st w tn nn ln hlen hG hts hns (.inr ⟨hc, hau⟩))
    | some p =>
      obtain ⟨ks, es⟩ := p
      have hO := relOK ta na la pa tc nc lc pc ts ns lv n L R ra rc V st w tn nn ln hlen hG hc hau
      have hbh : ∀ k, k < (trT tn es ks.length).length → bhF es ((trT tn es ks.length).getD k (0, 0)) < ks.length := fun k hk => hO.rl.bh hk
      refine ureadsL_ok ta na la pa tc nc lc pc n st w tn nn ln ks.length (trT tn es ks.length).length (trT tn es ks.length) (nulB tn n L R) (foldQ (fun _ => []) (rdT es (trT tn es ks.length) tn (nulB tn n L R) (trT tn es ks.length).length)) (fun i => bhF es ((trT tn es ks.length).getD i (0, 0))) rfl hO.rl.t40 hO.may.nmax hO.may.tmax (fun j hj => ?_) (askedOk ta na la pa tc nc lc pc ts ns lv n L R ra rc V st w tn nn ln hlen hG hts hns hc hau) (rel_reads ta na la pa tc nc lc pc ts ns lv n L R ra rc V st w tn nn ln hlen hG hc hau) (fun X i q s b hX hi e hI => ?_) (fun i hi => ?_)
      · obtain ⟨q, s, e, h1, h2⟩ := hO.rl.at hj
        have hin := getD_in (l := trT tn es ks.length) (i := j) (d := (0, 0)) hj
        rw [e] at hin
        exact ⟨q, s, e, h1, (nextL_of_in hin).2.1, h2⟩
      · obtain ⟨q', s', e', h4, h5⟩ := hO.rl.at hi
        rw [e] at e'
        simp only [Prod.mk.injEq] at e'
        obtain ⟨rfl, rfl⟩ := e'
        have hin := getD_in (l := trT tn es ks.length) (i := i) (d := (0, 0)) hi
        rw [e] at hin
        obtain ⟨h1, h2, t, h3⟩ := nextL_of_in hin
        refine (walkU ta na la pa tc nc lc pc ts ns lv n L R ra rc V st w tn nn ln hlen hG hc hau X hX q' h1 (some ⟨b, 0, none⟩) 1 [(s' : Int)] hI (by simp) (fun x hx => by rw [List.mem_singleton.1 hx]; omega)).mono ?_
        rintro e2 y ⟨rfl, hg⟩
        refine ⟨?_, hg⟩
        have e4 : wayV (wayF es (some (q' : Int)) [(s' : Int)]) = (bhF es ((trT tn es ks.length).getD i (0, 0)) : Int) := by
          rw [e]
          show wayV (leadA es ((q' : Int), (s' : Int))) = _
          rw [leadA_at es (by rw [hO.aut.len]; exact h1), h3]
          unfold bhF ldF
          simp only [Int.toNat_natCast]
          rw [h3]
          rfl
        rw [e4]
      · obtain ⟨h1, h2, h3⟩ := reads_spec (F := nulB tn n L R) hO.nodup hbh i hi
        exact ⟨Nat.le_trans (asc_len h1 h2) hO.rl.t40, h1, h2, fun k q s hk e => h3 k q s (getD_some' hk e)⟩
  · exact ureadsL_bad ta na la pa tc nc lc pc n st w tn nn ln (askedBad ta na la pa tc nc lc pc ts ns lv n L R ra rc V st w tn nn ln hlen hG hts hns (.inl hc))
end

end Go.Proofs.YtkbjbijoekmooaaGreat.J
