import Derived.Test.YtckgjolaoifgkaaQcnolkpgbgihl
import Derived.Deep.RegionHeld3

/-
  trans: direct.
-/
namespace Go.Proofs.Ytckgjolaoifgkaa.J
open Go.RowKit Go.Maps Go.Shelf

attribute [local go_sem] Oper.semAt_some

theorem eq_trans (p d p' d' : Int) (w : World) : (binOp .eql 43 (.agg #[.int .i64 p, .int .i64 d]) (.agg #[.int .i64 p', .int .i64 d'])).run Try.prog w = .ok (.bool (p == p' && d == d')) w := by
  have u3 := Try.underlying3
  have a3 := Try.isAgg3
  have z3 := Try.sizeOf3
  have hS : Try.prog.underlying 43 = some (.struct (Try.prog.fieldsOf 43)) := by kernel_rfl
  have hp : Try.prog.stoodInHeld 43 = false := by kernel_rfl
  rw [run_eql_struct, show (10000 : Nat) = 9999 + 1 from rfl, run_equalIn_agg w 9999 43 _ _ hS hp]
  simp only [Program.fieldsOf, Try.underlying43]
  go_simp
  by_cases h1 : p = p' <;> by_cases h2 : d = d' <;> simp [h1, h2]
def intV (l : List Int) : List Value := l.map (Value.int .i64)
theorem intV_append (l m : List Int) : intV (l ++ m) = intV l ++ intV m := by unfold intV; rw [List.map_append]
/-- The terminals among edges. -/
def dirL (tn : Nat) (l : List (Nat × Nat)) : List Int := (l.filter fun x => decide (x.1 < tn)).map fun x => (x.1 : Int)
theorem dirL_snoc (tn : Nat) (l : List (Nat × Nat)) (s t : Nat) : dirL tn (l ++ [(s, t)]) = dirL tn l ++ (if s < tn then [(s : Int)] else []) := by
  unfold dirL
  rw [List.filter_append, List.map_append]
  by_cases h : s < tn
  · rw [if_pos h]; simp [h]
  · rw [if_neg h]; simp [h]
theorem dirL_len (tn : Nat) (l : List (Nat × Nat)) : (dirL tn l).length ≤ l.length := by
  unfold dirL
  rw [List.length_map]
  exact List.length_filter_le _ _
def preF (b : Bool) : List Int := if b then [0] else []
theorem preF_len (b : Bool) : (preF b).length ≤ 1 := by cases b <;> decide
/-- What direct tells. -/
def NumTold (l : List Int) (w : World) (e : Ending) (y : World) : Prop := ∃ (a : Option Addr) (c : Nat), e = .returned (.slice a l.length c) ∧ y.ownsRow w.heap.size 3 1 (.slice a l.length c) l.length (intV l) ∧ w.grownBy y none

section
variable (ta na la pa sa : Option Addr) (tc nc lc pc sc : Nat) (n N lb : Nat) (st : Int) (w : World) (tn nn ln : Nat)

set_option maxRecDepth 100000 in
set_option maxHeartbeats 4000000 in
theorem direct_other (B m : Nat) (ks : List (List It)) (es : List (List (Nat × Nat))) (kv ev : Nat → Value) (hN : N = ks.length) (hN256 : N ≤ 256) (hP : AutP B w (.slice sa ks.length sc) ks (elF es) kv ev) (hes : ∀ q, q < ks.length → (es.getD q []).length ≤ 130) (hL : LdAt w lb m (leadA es)) (hOK : LeadOK es) (q tq : Nat) (s : Int) (hq : q < N) (hsw : (Lit.int .i64 s).wf = true) (hto : leadA es ((q : Int), s) = some (tq : Int)) (htN : tq < N) (hst : ¬ ((q : Int) = 0 ∧ s = st)) :
    Calls Try.prog 14 #[.agg #[.slice ta tn tc, .slice na nn nc, .slice la ln lc, .int .i64 st, .slice pa n pc, .slice sa N sc, .map (some lb)], .agg #[.int .i64 (q : Int), .int .i64 s]] w fun e y => NumTold (preF false ++ dirL tn (es.getD tq [])) w e y := by
  have HN : Hid (N = ks.length) := hN
  have HP : Hid (∀ Y, w.grownBy Y none → AutP B Y (.slice sa ks.length sc) ks (elF es) kv ev) := fun Y hY => hP.kept hY
  have HES := show Hid _ from hes
  have htk : tq < ks.length := by rw [← hN]; exact htN
  obtain ⟨sb, sc', hsv, _, _⟩ := hP.st htk
  simp only [Value.slice.injEq] at hsv
  obtain ⟨rfl, _, rfl⟩ := hsv
  obtain ⟨ea, ec, hev, _⟩ := hP.edgAt htk
  obtain ⟨E, hE⟩ : ∃ E, E = (elF es tq).length := ⟨_, rfl⟩
  have HE : Hid (E = (es.getD tq []).length) := by show _ = _; rw [hE]; exact elF_len _ _
  have hEb : E ≤ 130 := by rw [HE.out]; exact hes tq htk
  have HEC : Hid (∀ Y, w.grownBy Y none → Y.cell? ⟨sb, tq * 2 + 1, none⟩ = some (.slice ea E ec) ∧ ItsAt Y ea (elF es tq)) := fun Y hY => by
    have h := HP.out Y hY
    obtain ⟨sb2, sc2, h1, _, h3⟩ := h.st htk
    simp only [Value.slice.injEq, Option.some.injEq, Addr.mk.injEq] at h1
    obtain ⟨⟨rfl, _⟩, _⟩ := h1
    obtain ⟨ea2, ec2, h4, h5⟩ := h.edgAt htk
    rw [hev] at h3 h4
    simp only [Value.slice.injEq] at h4
    rw [← hE] at h3
    exact ⟨h3, by rw [h4.1]; exact h5⟩
  have HWK : Hid (∀ Y b, w.grownBy Y none → IntsAt Y (some ⟨b, 0, none⟩) [s] → Calls Try.prog 12 #[.agg #[.slice ta tn tc, .slice na nn nc, .slice la ln lc, .int .i64 st, .slice pa n pc, .slice (some ⟨sb, 0, none⟩) N sc, .map (some lb)], .int .i64 (q : Int), .slice (some ⟨b, 0, none⟩) 1 1] Y fun e y => e = .returned (.int .i64 (tq : Int)) ∧ Y.grownBy y none) := fun Y b hY hI => by
    have h := walk_any ta na la pa (some ⟨sb, 0, none⟩) tc nc lc pc sc n N lb st Y tn nn ln m es (hL.kept hY (by simp)) hOK q (by omega) (some ⟨b, 0, none⟩) 1 [s] hI (by simp) (fun x hx => by rw [List.mem_singleton.1 hx]; exact hsw)
    have e1 : wayF es (some ((q : Nat) : Int)) [s] = some (tq : Int) := hto
    rw [e1] at h
    exact h
  obtain ⟨i0, hi0, hz0, hz1, hz2⟩ := info_parts infoInt
  obtain ⟨W, hW⟩ : ∃ W, W = (w.alloc (.cells #[.slice ta tn tc, .slice na nn nc, .slice la ln lc, .int .i64 st, .slice pa n pc, .slice (some ⟨sb, 0, none⟩) N sc, .map (some lb)] 47)).alloc (.cells #[.int .i64 (q : Int), .int .i64 s] 43) := ⟨_, rfl⟩
  have HGW : Hid (w.grownBy W none) := by rw [hW]; exact grown_trans (World.grownBy_alloc _ _ none) (World.grownBy_alloc _ _ none)
  have HB7 : Hid (W.heap[w.heap.size]? = some (.cells #[.slice ta tn tc, .slice na nn nc, .slice la ln lc, .int .i64 st, .slice pa n pc, .slice (some ⟨sb, 0, none⟩) N sc, .map (some lb)] 47 (0, 0))) := by rw [hW]; exact box_kept (heap_alloc_last w _) (World.grownBy_alloc _ _ none)
  have HB2 : Hid (W.heap[w.heap.size + 1]? = some (.cells #[.int .i64 (q : Int), .int .i64 s] 43 (0, 0))) := by
    rw [hW]
    have h := heap_alloc_last (w.alloc (.cells #[.slice ta tn tc, .slice na nn nc, .slice la ln lc, .int .i64 st, .slice pa n pc, .slice (some ⟨sb, 0, none⟩) N sc, .map (some lb)] 47)) (.cells #[.int .i64 (q : Int), .int .i64 s] 43)
    rw [World.size_alloc] at h; exact h
  have HWE := show Hid _ from hW
  have HCS : Hid (∀ Y, W.grownBy Y none → (Y.cell? ⟨w.heap.size, 0, none⟩ = some (.slice ta tn tc) ∧ Y.cell? ⟨w.heap.size, 1, none⟩ = some (.slice na nn nc) ∧ Y.cell? ⟨w.heap.size, 2, none⟩ = some (.slice la ln lc) ∧ Y.cell? ⟨w.heap.size, 3, none⟩ = some (.int .i64 st) ∧ Y.cell? ⟨w.heap.size, 4, none⟩ = some (.slice pa n pc) ∧ Y.cell? ⟨w.heap.size, 5, none⟩ = some (.slice (some ⟨sb, 0, none⟩) N sc) ∧ Y.cell? ⟨w.heap.size, 6, none⟩ = some (.map (some lb))) ∧ Y.cell? ⟨w.heap.size + 1, 0, none⟩ = some (.int .i64 (q : Int)) ∧ Y.cell? ⟨w.heap.size + 1, 1, none⟩ = some (.int .i64 s) ∧ Y.cell? ⟨sb, tq * 2 + 1, none⟩ = some (.slice ea E ec)) := fun Y hY => ⟨cells7 (box_kept HB7.out hY), by rw [cell_of_row _ _ _ _ _ _ (box_kept HB2.out hY)]; rfl, by rw [cell_of_row _ _ _ _ _ _ (box_kept HB2.out hY)]; rfl, (HEC.out Y (grown_trans HGW.out hY)).1⟩
  obtain ⟨bb, hbb⟩ : ∃ b, b = ((q : Int) == 0 && s == st) := ⟨_, rfl⟩
  have hbf : bb = false := by
    rw [hbb, Bool.and_eq_false_iff, beq_eq_false_iff_ne, beq_eq_false_iff_ne]
    by_cases h : (q : Int) = 0
    · exact .inr fun h2 => hst ⟨h, h2⟩
    · exact .inl h
  have hEQ : ∀ X : World, (binOp .eql 43 (.agg #[.int .i64 (q : Int), .int .i64 s]) (.agg #[.int .i64 0, .int .i64 st])).run Try.prog X = .ok (.bool false) X := fun X => by
    rw [← hbf, hbb]; exact eq_trans (q : Int) s 0 st X
  clear hbb hbf hst
  have ht0 : (0 : Int) ≤ (tq : Int) := by omega
  have ht1 : (tq : Int) < (N : Int) := by omega
  clear hP hes hN hL hOK hto htk hev hE hW HP HB7 HB2
  go_enter Try.func14, Try.ntmps14
  go_wp2_with fail
  rw [← HWE.out]
  obtain ⟨Z, hZ⟩ : ∃ Z, Z = W := ⟨_, rfl⟩
  rw [← hZ]
  have HGZ : Hid (W.grownBy Z none) := by rw [hZ]; exact grown_refl _ _
  have HO0 : Hid (Z.ownsRow W.heap.size 3 1 (.slice none 0 0) 0 (intV (preF false))) := World.ownsRow_nil _ _ _ _
  have HL0 : Hid (0 = (preF false).length) := rfl
  clear hZ HWE
  have HGZ2 : Hid (W.grownBy (Z.alloc (.cells #[.int .i64 s] 3)).drew none) := grown_trans HGZ.out (grown_trans (World.grownBy_alloc _ _ none) (grown_drewN _ 1))
  have HGZ1 : Hid (W.grownBy Z.drew none) := grown_trans HGZ.out (grown_drewN _ 1)
  have HGZ3 : Hid (W.grownBy (Z.drew.alloc (.cells #[.int .i64 s] 3)) none) := grown_trans HGZ1.out (World.grownBy_alloc _ _ none)
  have HIA : Hid (IntsAt (Z.alloc (.cells #[.int .i64 s] 3)).drew (some ⟨Z.heap.size, 0, none⟩) [s]) := .inr ⟨Z.heap.size, 0, rfl, fun i hi => by
    have h2 : i = 0 := by simp at hi; omega
    subst h2
    have h3 : (Z.alloc (.cells #[.int .i64 s] 3)).drew.heap[Z.heap.size]? = some (.cells #[.int .i64 s] 3 (0, 0)) := heap_alloc_last Z _
    rw [cell_of_row _ _ _ _ _ _ h3]; rfl⟩
  go_region_held3 (fun Y => (Y.cell? ⟨w.heap.size, 0, none⟩ = some (.slice ta tn tc) ∧ Y.cell? ⟨w.heap.size, 1, none⟩ = some (.slice na nn nc) ∧ Y.cell? ⟨w.heap.size, 2, none⟩ = some (.slice la ln lc) ∧ Y.cell? ⟨w.heap.size, 3, none⟩ = some (.int .i64 st) ∧ Y.cell? ⟨w.heap.size, 4, none⟩ = some (.slice pa n pc) ∧ Y.cell? ⟨w.heap.size, 5, none⟩ = some (.slice (some ⟨sb, 0, none⟩) N sc) ∧ Y.cell? ⟨w.heap.size, 6, none⟩ = some (.map (some lb))) ∧ Y.cell? ⟨w.heap.size + 1, 0, none⟩ = some (.int .i64 (q : Int)) ∧ Y.cell? ⟨w.heap.size + 1, 1, none⟩ = some (.int .i64 s) ∧ Y.cell? ⟨sb, tq * 2 + 1, none⟩ = some (.slice ea E ec)) (first | exact HCS.out _ HGZ1.out | exact HCS.out _ HGZ2.out | exact HCS.out _ HGZ3.out | exact HCS.out _ HG4.out | go_keep)
    ((first
      | (go_at_call 12; refine Calls.mono (HWK.out _ _ (grown_trans HGW.out HGZ2.out) HIA.out) ?_; rintro e w4 ⟨rfl, hg4⟩; have HG4 : Hid (W.grownBy w4 none) := grown_trans HGZ2.out hg4; have HO4 : Hid (w4.ownsRow W.heap.size 3 1 (.slice none 0 0) 0 (intV (preF false))) := keep0 HO0.out (grown_trans (World.grownBy_alloc _ _ none) (grown_trans (grown_drewN _ 1) hg4)); clear hg4)
      | fail))
  clear HGZ1 HGZ2 HGZ3 HIA HO0 HGZ HWK
  go_wp2_with fail
  go_loopg [5, 30] E (fun gk v5 v30 wr => ∃ (j L : Nat) (a : Option Addr) (c : Nat), j ≤ E ∧ gk = E - j ∧ v30 = .int .i64 j ∧ v5 = .slice a L c ∧ L = (preF false ++ dirL tn ((es.getD tq []).take j)).length ∧ wr.ownsRow W.heap.size 3 1 (.slice a L c) L (intV (preF false ++ dirL tn ((es.getD tq []).take j))) ∧ W.grownBy wr none)
  case atStart => exact ⟨0, 0, none, 0, Nat.zero_le _, rfl, rfl, rfl, by simpa [dirL] using HL0.out, by simpa [dirL] using HO4.out, HG4.out⟩
  case round =>
    obtain ⟨j, L2, a2, c2, hj, hgj, rfl, rfl, hL2, hown2, hg2⟩ := hrel
    have HGJ : Hid (gk = E - j) := hgj
    have HL2 : Hid (L2 = (preF false ++ dirL tn ((es.getD tq []).take j)).length) := hL2
    have HO2 : Hid (wr.ownsRow W.heap.size 3 1 (.slice a2 L2 c2) L2 (intV (preF false ++ dirL tn ((es.getD tq []).take j)))) := hown2
    have HG2 : Hid (W.grownBy wr none) := hg2
    have hL2b : L2 ≤ 131 := by
      rw [hL2, List.length_append]
      have h1 := dirL_len tn ((es.getD tq []).take j)
      have h2 : ((es.getD tq []).take j).length ≤ j := by rw [List.length_take]; omega
      have h3 := preF_len (false)
      omega
    clear hgj hL2 hown2 hg2 HO4
    by_cases hlj : j < E
    · have hjd : decide (j < E) = true := decide_eq_true hlj
      have hj0 : (0 : Int) ≤ (j : Int) := by omega
      have hj1 : (j : Int) < (E : Int) := by omega
      have hje : j < (es.getD tq []).length := by rw [← HE.out]; exact hlj
      obtain ⟨eb, eo, hea, d0, d1⟩ := (HEC.out wr (grown_trans HGW.out HG2.out)).2.cellAt (i := j) (by rw [elF_len]; exact hje)
      subst hea
      rw [(elF_at hje).2] at d0 d1
      obtain ⟨x, hx⟩ : ∃ x, x = (es.getD tq []).getD j (0, 0) := ⟨_, rfl⟩
      rw [← hx] at d0 d1
      obtain ⟨u, t⟩ := x
      simp only at d0 d1
      have HTK : Hid (dirL tn ((es.getD tq []).take (j + 1)) = dirL tn ((es.getD tq []).take j) ++ (if u < tn then [(u : Int)] else [])) := by
        show _ = _
        rw [take_snocE hje hx.symm, dirL_snoc]
      have HA : Hid (W.grownBy (wr.alloc (.cells #[.int .i64 (u : Int), .int .i64 (t : Int)] 68)) none) := grown_trans HG2.out (World.grownBy_alloc _ _ none)
      obtain ⟨⟨k0, k1, k2, k3, k4, k5, k6⟩, _⟩ := HCS.out _ HA.out
      by_cases hts : u < tn
      · have HIT := show Hid _ from isTerm_any ta na la pa (some ⟨sb, 0, none⟩) tc nc lc pc sc n N lb st (wr.alloc (.cells #[.int .i64 (u : Int), .int .i64 (t : Int)] 68)) tn nn ln (u : Int) true (decide_eq_true (by omega)).symm
        clear hx hje
        go_wp2_with fail
        refine Calls.mono HIT.out ?_
        rintro e w5 ⟨rfl, hg5⟩
        have HG5 : Hid (W.grownBy w5 none) := grown_trans HA.out hg5
        have HO5 : Hid (w5.ownsRow W.heap.size 3 1 (.slice a2 L2 c2) L2 (intV (preF false ++ dirL tn ((es.getD tq []).take j)))) := keep0 HO2.out (grown_trans (World.grownBy_alloc _ _ none) hg5)
        have hbx : w5.heap[wr.heap.size]? = some (.cells #[.int .i64 (u : Int), .int .i64 (t : Int)] 68 (0, 0)) := box_kept (heap_alloc_last wr _) hg5
        have r0 : w5.cell? ⟨wr.heap.size, 0, none⟩ = some (.int .i64 (u : Int)) := by rw [cell_of_row _ _ _ _ _ _ hbx]; rfl
        have hsz := HG5.out.size
        clear hg5 hbx HIT k0 k1 k2 k3 k4 k5 k6 d0 d1
        go_wp2_with (at_builtin; refine wpList_append_lies _ rfl (.tmp 38) (.tmp 41) 24 rfl W.heap.size 3 i0 (.int .i64 0) 1 8 Try.underlying24 hi0 hz0 hz1 hz2 rfl (by decide) (.slice a2 L2 c2) L2 (intV (preF false ++ dirL tn ((es.getD tq []).take j))) rfl (HO5.out.alloc _) ⟨w5.heap.size, 0, none⟩ 1 1 [.int .i64 (u : Int)] rfl rfl (World.news_of_block (heap_alloc_last w5 _)) (by simp [Value.oneCell']) (by decide) (by unfold maxLen; omega) (by omega) (by simp; omega) _ rfl ?_)
        intro g7 c7 V hoV hgV _ _
        have HOV : Hid (V.ownsRow W.heap.size 3 1 (.slice (some ⟨g7, 0, none⟩) (L2 + 1) c7) (L2 + 1) (intV (preF false ++ dirL tn ((es.getD tq []).take (j + 1))))) := by
          rw [HTK.out, if_pos hts, ← List.append_assoc, intV_append]; exact hoV
        have HLV : Hid (L2 + 1 = (preF false ++ dirL tn ((es.getD tq []).take (j + 1))).length) := by
          show _ = _
          rw [HTK.out, if_pos hts, ← List.append_assoc, List.length_append, ← HL2.out]; rfl
        have HGV : Hid (W.grownBy V none) := grown_owned (grown_trans HG5.out (World.grownBy_alloc _ _ none)) (HO5.out.alloc _) (Nat.le_refl _) hgV
        clear hoV hgV r0
        go_wp2_with fail
        go_roundg (E - (j + 1))
        case measure => have := HGJ.out; omega
        case rel => exact ⟨j + 1, L2 + 1, some ⟨g7, 0, none⟩, c7, by omega, rfl, by go_num, rfl, HLV.out, HOV.out, HGV.out⟩
      · have HIT := show Hid _ from isTerm_any ta na la pa (some ⟨sb, 0, none⟩) tc nc lc pc sc n N lb st (wr.alloc (.cells #[.int .i64 (u : Int), .int .i64 (t : Int)] 68)) tn nn ln (u : Int) false (decide_eq_false (by omega)).symm
        clear hx hje
        go_wp2_with fail
        refine Calls.mono HIT.out ?_
        rintro e w5 ⟨rfl, hg5⟩
        have HG5 : Hid (W.grownBy w5 none) := grown_trans HA.out hg5
        have HO5 : Hid (w5.ownsRow W.heap.size 3 1 (.slice a2 L2 c2) L2 (intV (preF false ++ dirL tn ((es.getD tq []).take (j + 1))))) := by
          rw [HTK.out, if_neg hts, List.append_nil]; exact keep0 HO2.out (grown_trans (World.grownBy_alloc _ _ none) hg5)
        have HL5 : Hid (L2 = (preF false ++ dirL tn ((es.getD tq []).take (j + 1))).length) := by
          show _ = _
          rw [HTK.out, if_neg hts, List.append_nil]; exact HL2.out
        clear hg5 HIT k0 k1 k2 k3 k4 k5 k6 d0 d1
        go_wp2_with fail
        go_roundg (E - (j + 1))
        case measure => have := HGJ.out; omega
        case rel => exact ⟨j + 1, L2, a2, c2, by omega, rfl, by go_num, rfl, HL5.out, HO5.out, HG5.out⟩
    · have hjE : E = j := by omega
      subst hjE
      have hjd : decide (E < E) = false := decide_eq_false (by omega)
      have e9 : (es.getD tq []).take E = es.getD tq [] := by rw [HE.out, List.take_length]
      rw [e9] at HO2 HL2
      clear e9
      go_wp2_with fail
      go_ret
      exact ⟨a2, c2, by rw [← HL2.out]; rfl, by rw [← HL2.out]; exact owns_base HO2.out HGW.out.size, grown_trans HGW.out HG2.out⟩
set_option maxRecDepth 100000 in
set_option maxHeartbeats 4000000 in
theorem direct_start (B m : Nat) (ks : List (List It)) (es : List (List (Nat × Nat))) (kv ev : Nat → Value) (hN : N = ks.length) (hP : AutP B w (.slice sa ks.length sc) ks (elF es) kv ev) (hes : ∀ q, q < ks.length → (es.getD q []).length ≤ 130) (hL : LdAt w lb m (leadA es)) (hOK : LeadOK es) (tq : Nat) (hsw : (Lit.int .i64 st).wf = true) (hto : leadA es (0, st) = some (tq : Int)) (htN : tq < N) :
    Calls Try.prog 14 #[.agg #[.slice ta tn tc, .slice na nn nc, .slice la ln lc, .int .i64 st, .slice pa n pc, .slice sa N sc, .map (some lb)], .agg #[.int .i64 0, .int .i64 st]] w fun e y => NumTold (preF true ++ dirL tn (es.getD tq [])) w e y := by
  have HN : Hid (N = ks.length) := hN
  have HP : Hid (∀ Y, w.grownBy Y none → AutP B Y (.slice sa ks.length sc) ks (elF es) kv ev) := fun Y hY => hP.kept hY
  have HES := show Hid _ from hes
  have htk : tq < ks.length := by rw [← hN]; exact htN
  obtain ⟨sb, sc', hsv, _, _⟩ := hP.st htk
  simp only [Value.slice.injEq] at hsv
  obtain ⟨rfl, _, rfl⟩ := hsv
  obtain ⟨ea, ec, hev, _⟩ := hP.edgAt htk
  obtain ⟨E, hE⟩ : ∃ E, E = (elF es tq).length := ⟨_, rfl⟩
  have HE : Hid (E = (es.getD tq []).length) := by show _ = _; rw [hE]; exact elF_len _ _
  have hEb : E ≤ 130 := by rw [HE.out]; exact hes tq htk
  have HEC : Hid (∀ Y, w.grownBy Y none → Y.cell? ⟨sb, tq * 2 + 1, none⟩ = some (.slice ea E ec) ∧ ItsAt Y ea (elF es tq)) := fun Y hY => by
    have h := HP.out Y hY
    obtain ⟨sb2, sc2, h1, _, h3⟩ := h.st htk
    simp only [Value.slice.injEq, Option.some.injEq, Addr.mk.injEq] at h1
    obtain ⟨⟨rfl, _⟩, _⟩ := h1
    obtain ⟨ea2, ec2, h4, h5⟩ := h.edgAt htk
    rw [hev] at h3 h4
    simp only [Value.slice.injEq] at h4
    rw [← hE] at h3
    exact ⟨h3, by rw [h4.1]; exact h5⟩
  have HWK : Hid (∀ Y b, w.grownBy Y none → IntsAt Y (some ⟨b, 0, none⟩) [st] → Calls Try.prog 12 #[.agg #[.slice ta tn tc, .slice na nn nc, .slice la ln lc, .int .i64 st, .slice pa n pc, .slice (some ⟨sb, 0, none⟩) N sc, .map (some lb)], .int .i64 0, .slice (some ⟨b, 0, none⟩) 1 1] Y fun e y => e = .returned (.int .i64 (tq : Int)) ∧ Y.grownBy y none) := fun Y b hY hI => by
    have h := walk_any ta na la pa (some ⟨sb, 0, none⟩) tc nc lc pc sc n N lb st Y tn nn ln m es (hL.kept hY (by simp)) hOK 0 (by omega) (some ⟨b, 0, none⟩) 1 [st] hI (by simp) (fun x hx => by rw [List.mem_singleton.1 hx]; exact hsw)
    have e1 : wayF es (some ((0 : Nat) : Int)) [st] = some (tq : Int) := hto
    rw [e1] at h
    exact h
  obtain ⟨i0, hi0, hz0, hz1, hz2⟩ := info_parts infoInt
  obtain ⟨W, hW⟩ : ∃ W, W = (w.alloc (.cells #[.slice ta tn tc, .slice na nn nc, .slice la ln lc, .int .i64 st, .slice pa n pc, .slice (some ⟨sb, 0, none⟩) N sc, .map (some lb)] 47)).alloc (.cells #[.int .i64 0, .int .i64 st] 43) := ⟨_, rfl⟩
  have HGW : Hid (w.grownBy W none) := by rw [hW]; exact grown_trans (World.grownBy_alloc _ _ none) (World.grownBy_alloc _ _ none)
  have HB7 : Hid (W.heap[w.heap.size]? = some (.cells #[.slice ta tn tc, .slice na nn nc, .slice la ln lc, .int .i64 st, .slice pa n pc, .slice (some ⟨sb, 0, none⟩) N sc, .map (some lb)] 47 (0, 0))) := by rw [hW]; exact box_kept (heap_alloc_last w _) (World.grownBy_alloc _ _ none)
  have HB2 : Hid (W.heap[w.heap.size + 1]? = some (.cells #[.int .i64 0, .int .i64 st] 43 (0, 0))) := by
    rw [hW]
    have h := heap_alloc_last (w.alloc (.cells #[.slice ta tn tc, .slice na nn nc, .slice la ln lc, .int .i64 st, .slice pa n pc, .slice (some ⟨sb, 0, none⟩) N sc, .map (some lb)] 47)) (.cells #[.int .i64 0, .int .i64 st] 43)
    rw [World.size_alloc] at h; exact h
  have HWE := show Hid _ from hW
  have HCS : Hid (∀ Y, W.grownBy Y none → (Y.cell? ⟨w.heap.size, 0, none⟩ = some (.slice ta tn tc) ∧ Y.cell? ⟨w.heap.size, 1, none⟩ = some (.slice na nn nc) ∧ Y.cell? ⟨w.heap.size, 2, none⟩ = some (.slice la ln lc) ∧ Y.cell? ⟨w.heap.size, 3, none⟩ = some (.int .i64 st) ∧ Y.cell? ⟨w.heap.size, 4, none⟩ = some (.slice pa n pc) ∧ Y.cell? ⟨w.heap.size, 5, none⟩ = some (.slice (some ⟨sb, 0, none⟩) N sc) ∧ Y.cell? ⟨w.heap.size, 6, none⟩ = some (.map (some lb))) ∧ Y.cell? ⟨w.heap.size + 1, 0, none⟩ = some (.int .i64 0) ∧ Y.cell? ⟨w.heap.size + 1, 1, none⟩ = some (.int .i64 st) ∧ Y.cell? ⟨sb, tq * 2 + 1, none⟩ = some (.slice ea E ec)) := fun Y hY => ⟨cells7 (box_kept HB7.out hY), by rw [cell_of_row _ _ _ _ _ _ (box_kept HB2.out hY)]; rfl, by rw [cell_of_row _ _ _ _ _ _ (box_kept HB2.out hY)]; rfl, (HEC.out Y (grown_trans HGW.out hY)).1⟩
  have hEQ : ∀ X : World, (binOp .eql 43 (.agg #[.int .i64 0, .int .i64 st]) (.agg #[.int .i64 0, .int .i64 st])).run Try.prog X = .ok (.bool true) X := fun X => by
    have h := eq_trans 0 st 0 st X
    simpa using h
  have hWs : W.heap.size = w.heap.size + 1 + 1 := by rw [HWE.out, World.size_alloc, World.size_alloc]
  have HWS : Hid (W.heap.size = w.heap.size + 1 + 1) := hWs
  have HNB : Hid ((((w.alloc (.cells #[.slice ta tn tc, .slice na nn nc, .slice la ln lc, .int .i64 st, .slice pa n pc, .slice (some ⟨sb, 0, none⟩) N sc, .map (some lb)] 47)).alloc (.cells #[.int .i64 0, .int .i64 st] 43)).alloc (.cells #[.int .i64 0] 3)).heap[w.heap.size + 1 + 1]? = some (.cells #[.int .i64 0] 3 (0, 0))) := by
    have h := heap_alloc_last ((w.alloc (.cells #[.slice ta tn tc, .slice na nn nc, .slice la ln lc, .int .i64 st, .slice pa n pc, .slice (some ⟨sb, 0, none⟩) N sc, .map (some lb)] 47)).alloc (.cells #[.int .i64 0, .int .i64 st] 43)) (.cells #[.int .i64 0] 3)
    rw [World.size_alloc, World.size_alloc] at h; exact h
  clear hWs
  have ht0 : (0 : Int) ≤ (tq : Int) := by omega
  have ht1 : (tq : Int) < (N : Int) := by omega
  clear hP hes hN hL hOK hto htk hev hE hW HP HB7 HB2
  go_enter Try.func14, Try.ntmps14
  go_wp2_with (at_builtin; refine wpList_append_lies _ rfl (.tmp 14) (.tmp 15) 24 rfl (w.heap.size + 1 + 1) 3 i0 (.int .i64 0) 1 8 Try.underlying24 hi0 hz0 hz1 hz2 rfl (by decide) (.slice none 0 0) 0 [] rfl (World.ownsRow_nil _ _ _ _) ⟨w.heap.size + 1 + 1, 0, none⟩ 1 1 [.int .i64 0] rfl rfl (World.news_of_block HNB.out) (by simp [Value.oneCell']) (by decide) (by unfold maxLen; omega) (by omega) (by simp) _ rfl ?_)
  intro g0 c0 Z hoZ hgZ _ _
  have HGZ : Hid (W.grownBy Z none) := by rw [HWE.out]; exact grown_trans (World.grownBy_alloc _ _ none) hgZ
  have HO0 : Hid (Z.ownsRow W.heap.size 3 1 (.slice (some ⟨g0, 0, none⟩) 1 c0) 1 (intV (preF true))) := by rw [HWS.out]; exact hoZ
  have HL0 : Hid (1 = (preF true).length) := rfl
  clear hoZ hgZ HWE HWS HNB
  go_wp2_with fail
  have HGZ2 : Hid (W.grownBy (Z.alloc (.cells #[.int .i64 st] 3)).drew none) := grown_trans HGZ.out (grown_trans (World.grownBy_alloc _ _ none) (grown_drewN _ 1))
  have HGZ1 : Hid (W.grownBy Z.drew none) := grown_trans HGZ.out (grown_drewN _ 1)
  have HGZ3 : Hid (W.grownBy (Z.drew.alloc (.cells #[.int .i64 st] 3)) none) := grown_trans HGZ1.out (World.grownBy_alloc _ _ none)
  have HIA : Hid (IntsAt (Z.alloc (.cells #[.int .i64 st] 3)).drew (some ⟨Z.heap.size, 0, none⟩) [st]) := .inr ⟨Z.heap.size, 0, rfl, fun i hi => by
    have h2 : i = 0 := by simp at hi; omega
    subst h2
    have h3 : (Z.alloc (.cells #[.int .i64 st] 3)).drew.heap[Z.heap.size]? = some (.cells #[.int .i64 st] 3 (0, 0)) := heap_alloc_last Z _
    rw [cell_of_row _ _ _ _ _ _ h3]; rfl⟩
  go_region_held3 (fun Y => (Y.cell? ⟨w.heap.size, 0, none⟩ = some (.slice ta tn tc) ∧ Y.cell? ⟨w.heap.size, 1, none⟩ = some (.slice na nn nc) ∧ Y.cell? ⟨w.heap.size, 2, none⟩ = some (.slice la ln lc) ∧ Y.cell? ⟨w.heap.size, 3, none⟩ = some (.int .i64 st) ∧ Y.cell? ⟨w.heap.size, 4, none⟩ = some (.slice pa n pc) ∧ Y.cell? ⟨w.heap.size, 5, none⟩ = some (.slice (some ⟨sb, 0, none⟩) N sc) ∧ Y.cell? ⟨w.heap.size, 6, none⟩ = some (.map (some lb))) ∧ Y.cell? ⟨w.heap.size + 1, 0, none⟩ = some (.int .i64 0) ∧ Y.cell? ⟨w.heap.size + 1, 1, none⟩ = some (.int .i64 st) ∧ Y.cell? ⟨sb, tq * 2 + 1, none⟩ = some (.slice ea E ec)) (first | exact HCS.out _ HGZ1.out | exact HCS.out _ HGZ2.out | exact HCS.out _ HGZ3.out | exact HCS.out _ HG4.out | go_keep)
    ((first
      | (go_at_call 12; refine Calls.mono (HWK.out _ _ (grown_trans HGW.out HGZ2.out) HIA.out) ?_; rintro e w4 ⟨rfl, hg4⟩; have HG4 : Hid (W.grownBy w4 none) := grown_trans HGZ2.out hg4; have HO4 : Hid (w4.ownsRow W.heap.size 3 1 (.slice (some ⟨g0, 0, none⟩) 1 c0) 1 (intV (preF true))) := keep0 HO0.out (grown_trans (World.grownBy_alloc _ _ none) (grown_trans (grown_drewN _ 1) hg4)); clear hg4)
      | fail))
  clear HGZ1 HGZ2 HGZ3 HIA HO0 HGZ HWK
  go_wp2_with fail
  go_loopg [5, 30] E (fun gk v5 v30 wr => ∃ (j L : Nat) (a : Option Addr) (c : Nat), j ≤ E ∧ gk = E - j ∧ v30 = .int .i64 j ∧ v5 = .slice a L c ∧ L = (preF true ++ dirL tn ((es.getD tq []).take j)).length ∧ wr.ownsRow W.heap.size 3 1 (.slice a L c) L (intV (preF true ++ dirL tn ((es.getD tq []).take j))) ∧ W.grownBy wr none)
  case atStart => exact ⟨0, 1, some ⟨g0, 0, none⟩, c0, Nat.zero_le _, rfl, rfl, rfl, by simpa [dirL] using HL0.out, by simpa [dirL] using HO4.out, HG4.out⟩
  case round =>
    obtain ⟨j, L2, a2, c2, hj, hgj, rfl, rfl, hL2, hown2, hg2⟩ := hrel
    have HGJ : Hid (gk = E - j) := hgj
    have HL2 : Hid (L2 = (preF true ++ dirL tn ((es.getD tq []).take j)).length) := hL2
    have HO2 : Hid (wr.ownsRow W.heap.size 3 1 (.slice a2 L2 c2) L2 (intV (preF true ++ dirL tn ((es.getD tq []).take j)))) := hown2
    have HG2 : Hid (W.grownBy wr none) := hg2
    have hL2b : L2 ≤ 131 := by
      rw [hL2, List.length_append]
      have h1 := dirL_len tn ((es.getD tq []).take j)
      have h2 : ((es.getD tq []).take j).length ≤ j := by rw [List.length_take]; omega
      have h3 := preF_len (true)
      omega
    clear hgj hL2 hown2 hg2 HO4
    by_cases hlj : j < E
    · have hjd : decide (j < E) = true := decide_eq_true hlj
      have hj0 : (0 : Int) ≤ (j : Int) := by omega
      have hj1 : (j : Int) < (E : Int) := by omega
      have hje : j < (es.getD tq []).length := by rw [← HE.out]; exact hlj
      obtain ⟨eb, eo, hea, d0, d1⟩ := (HEC.out wr (grown_trans HGW.out HG2.out)).2.cellAt (i := j) (by rw [elF_len]; exact hje)
      subst hea
      rw [(elF_at hje).2] at d0 d1
      obtain ⟨x, hx⟩ : ∃ x, x = (es.getD tq []).getD j (0, 0) := ⟨_, rfl⟩
      rw [← hx] at d0 d1
      obtain ⟨u, t⟩ := x
      simp only at d0 d1
      have HTK : Hid (dirL tn ((es.getD tq []).take (j + 1)) = dirL tn ((es.getD tq []).take j) ++ (if u < tn then [(u : Int)] else [])) := by
        show _ = _
        rw [take_snocE hje hx.symm, dirL_snoc]
      have HA : Hid (W.grownBy (wr.alloc (.cells #[.int .i64 (u : Int), .int .i64 (t : Int)] 68)) none) := grown_trans HG2.out (World.grownBy_alloc _ _ none)
      obtain ⟨⟨k0, k1, k2, k3, k4, k5, k6⟩, _⟩ := HCS.out _ HA.out
      by_cases hts : u < tn
      · have HIT := show Hid _ from isTerm_any ta na la pa (some ⟨sb, 0, none⟩) tc nc lc pc sc n N lb st (wr.alloc (.cells #[.int .i64 (u : Int), .int .i64 (t : Int)] 68)) tn nn ln (u : Int) true (decide_eq_true (by omega)).symm
        clear hx hje
        go_wp2_with fail
        refine Calls.mono HIT.out ?_
        rintro e w5 ⟨rfl, hg5⟩
        have HG5 : Hid (W.grownBy w5 none) := grown_trans HA.out hg5
        have HO5 : Hid (w5.ownsRow W.heap.size 3 1 (.slice a2 L2 c2) L2 (intV (preF true ++ dirL tn ((es.getD tq []).take j)))) := keep0 HO2.out (grown_trans (World.grownBy_alloc _ _ none) hg5)
        have hbx : w5.heap[wr.heap.size]? = some (.cells #[.int .i64 (u : Int), .int .i64 (t : Int)] 68 (0, 0)) := box_kept (heap_alloc_last wr _) hg5
        have r0 : w5.cell? ⟨wr.heap.size, 0, none⟩ = some (.int .i64 (u : Int)) := by rw [cell_of_row _ _ _ _ _ _ hbx]; rfl
        have hsz := HG5.out.size
        clear hg5 hbx HIT k0 k1 k2 k3 k4 k5 k6 d0 d1
        go_wp2_with (at_builtin; refine wpList_append_lies _ rfl (.tmp 38) (.tmp 41) 24 rfl W.heap.size 3 i0 (.int .i64 0) 1 8 Try.underlying24 hi0 hz0 hz1 hz2 rfl (by decide) (.slice a2 L2 c2) L2 (intV (preF true ++ dirL tn ((es.getD tq []).take j))) rfl (HO5.out.alloc _) ⟨w5.heap.size, 0, none⟩ 1 1 [.int .i64 (u : Int)] rfl rfl (World.news_of_block (heap_alloc_last w5 _)) (by simp [Value.oneCell']) (by decide) (by unfold maxLen; omega) (by omega) (by simp; omega) _ rfl ?_)
        intro g7 c7 V hoV hgV _ _
        have HOV : Hid (V.ownsRow W.heap.size 3 1 (.slice (some ⟨g7, 0, none⟩) (L2 + 1) c7) (L2 + 1) (intV (preF true ++ dirL tn ((es.getD tq []).take (j + 1))))) := by
          rw [HTK.out, if_pos hts, ← List.append_assoc, intV_append]; exact hoV
        have HLV : Hid (L2 + 1 = (preF true ++ dirL tn ((es.getD tq []).take (j + 1))).length) := by
          show _ = _
          rw [HTK.out, if_pos hts, ← List.append_assoc, List.length_append, ← HL2.out]; rfl
        have HGV : Hid (W.grownBy V none) := grown_owned (grown_trans HG5.out (World.grownBy_alloc _ _ none)) (HO5.out.alloc _) (Nat.le_refl _) hgV
        clear hoV hgV r0
        go_wp2_with fail
        go_roundg (E - (j + 1))
        case measure => have := HGJ.out; omega
        case rel => exact ⟨j + 1, L2 + 1, some ⟨g7, 0, none⟩, c7, by omega, rfl, by go_num, rfl, HLV.out, HOV.out, HGV.out⟩
      · have HIT := show Hid _ from isTerm_any ta na la pa (some ⟨sb, 0, none⟩) tc nc lc pc sc n N lb st (wr.alloc (.cells #[.int .i64 (u : Int), .int .i64 (t : Int)] 68)) tn nn ln (u : Int) false (decide_eq_false (by omega)).symm
        clear hx hje
        go_wp2_with fail
        refine Calls.mono HIT.out ?_
        rintro e w5 ⟨rfl, hg5⟩
        have HG5 : Hid (W.grownBy w5 none) := grown_trans HA.out hg5
        have HO5 : Hid (w5.ownsRow W.heap.size 3 1 (.slice a2 L2 c2) L2 (intV (preF true ++ dirL tn ((es.getD tq []).take (j + 1))))) := by
          rw [HTK.out, if_neg hts, List.append_nil]; exact keep0 HO2.out (grown_trans (World.grownBy_alloc _ _ none) hg5)
        have HL5 : Hid (L2 = (preF true ++ dirL tn ((es.getD tq []).take (j + 1))).length) := by
          show _ = _
          rw [HTK.out, if_neg hts, List.append_nil]; exact HL2.out
        clear hg5 HIT k0 k1 k2 k3 k4 k5 k6 d0 d1
        go_wp2_with fail
        go_roundg (E - (j + 1))
        case measure => have := HGJ.out; omega
        case rel => exact ⟨j + 1, L2, a2, c2, by omega, rfl, by go_num, rfl, HL5.out, HO5.out, HG5.out⟩
    · have hjE : E = j := by omega
      subst hjE
      have hjd : decide (E < E) = false := decide_eq_false (by omega)
      have e9 : (es.getD tq []).take E = es.getD tq [] := by rw [HE.out, List.take_length]
      rw [e9] at HO2 HL2
      clear e9
      go_wp2_with fail
      go_ret
      exact ⟨a2, c2, by rw [← HL2.out]; rfl, by rw [← HL2.out]; exact owns_base HO2.out HGW.out.size, grown_trans HGW.out HG2.out⟩
end

end Go.Proofs.Ytckgjolaoifgkaa.J

/-
  trans: Direct, exported.
-/
namespace Go.Proofs.Ytckgjolaoifgkaa.J
open Go.RowKit Go.Maps Go.Shelf

attribute [local go_sem] Oper.semAt_some

theorem trI_mem {tn : Nat} {l : List (Nat × Nat)} {i : Nat} {x : It} (h : x ∈ trI tn l i) : ∃ e ∈ l, tn ≤ e.1 ∧ x = ((i : Int), (e.1 : Int)) := by
  unfold trI at h
  obtain ⟨e, he, rfl⟩ := List.mem_map.1 h
  obtain ⟨h1, h2⟩ := List.mem_filter.1 he
  exact ⟨e, h1, by simpa using h2, rfl⟩
theorem trT_mem {tn : Nat} {es : List (List (Nat × Nat))} : ∀ {i : Nat} {x : It}, x ∈ trT tn es i → ∃ q, q < i ∧ ∃ e ∈ es.getD q [], tn ≤ e.1 ∧ x = ((q : Int), (e.1 : Int))
  | 0, x, h => by cases h
  | i + 1, x, h => by
    rcases List.mem_append.1 h with h | h
    · obtain ⟨q, h1, h2⟩ := trT_mem h
      exact ⟨q, by omega, h2⟩
    · exact ⟨i, Nat.lt_succ_self _, trI_mem h⟩
theorem nextL_some {l : List (Nat × Nat)} {e : Nat × Nat} (h : e ∈ l) : ∃ t : Nat, nextL l (e.1 : Int) = some (t : Int) ∧ ∃ e' ∈ l, e'.1 = e.1 ∧ e'.2 = t := by
  unfold nextL
  cases h1 : l.find? (fun x => decide ((x.1 : Int) = (e.1 : Int))) with
  | none =>
    have := List.find?_eq_none.1 h1 e h
    simp at this
  | some x =>
    have h2 := List.find?_some h1
    refine ⟨x.2, rfl, x, List.mem_of_find?_eq_some h1, ?_, rfl⟩
    have : (x.1 : Int) = (e.1 : Int) := by simpa using h2
    omega
/-- What stands right behind a transition. -/
def dirOf (tn : Nat) (st : Int) (es : List (List (Nat × Nat))) (x : It) : List Int := preF (x.1 == 0 && x.2 == st) ++ dirL tn (es.getD ((leadA es x).getD 0).toNat [])
/-- What always holds of the edges that are walked. -/
structure EsOK (ks : List (List It)) (es : List (List (Nat × Nat))) : Prop where
  le : ks.length ≤ 256
  len : es.length = ks.length
  each : ∀ q, q < ks.length → (es.getD q []).length ≤ 130 ∧ ((es.getD q []).map Prod.fst).Nodup ∧ ∀ x ∈ es.getD q [], x.1 < 130 ∧ x.2 < ks.length
theorem EsOK.lead {ks : List (List It)} {es : List (List (Nat × Nat))} (h : EsOK ks es) {x : It} {v : Int} (hx : leadA es x = some v) : 0 ≤ v ∧ v < (ks.length : Int) := by
  unfold leadA leadT at hx
  split at hx
  · rename_i hc
    obtain ⟨e, he, _, h2⟩ := nextL_mem hx
    have := ((h.each x.1.toNat (by rw [← h.len]; omega)).2.2 e he).2
    omega
  · split at hx
    · simp [nextL] at hx
    · cases hx
theorem EsOK.ok {ks : List (List It)} {es : List (List (Nat × Nat))} (h : EsOK ks es) : LeadOK es := fun x v hx => by
  have := h.lead hx
  have := h.le
  omega
theorem EsOK.trans {ks : List (List It)} {es : List (List (Nat × Nat))} (h : EsOK ks es) {tn : Nat} {x : It} (hx : x ∈ trT tn es ks.length) : ∃ q s tq : Nat, x = ((q : Int), (s : Int)) ∧ q < ks.length ∧ tn ≤ s ∧ s < 130 ∧ leadA es ((q : Int), (s : Int)) = some (tq : Int) ∧ tq < ks.length := by
  obtain ⟨q, hq, e, he, h1, rfl⟩ := trT_mem hx
  obtain ⟨t, h2, e', he', _, h4⟩ := nextL_some he
  have h5 := (h.each q hq).2.2 e' he'
  have h6 := (h.each q hq).2.2 e he
  exact ⟨q, e.1, t, rfl, hq, h1, h6.1, by rw [leadA_at es (by rw [h.len]; exact hq)]; exact h2, by rw [← h4]; exact h5.2⟩

/-- What Direct tells. -/
def DirErr (l : List It) (D : It → List Int) (w : World) (e : Ending) (y : World) : Prop := ∃ (rb : Nat) (ua : Nat → Option Addr) (uc : Nat → Nat), e = .returned (.tuple #[.slice (some ⟨rb, 0, none⟩) l.length l.length, .int .i64 0]) ∧ ValAt y rb l.length 24 (fun k => .slice (ua k) (D (l.getD k (0, 0))).length (uc k)) ∧ (∀ k, k < l.length → y.ownsRow w.heap.size 3 1 (.slice (ua k) (D (l.getD k (0, 0))).length (uc k)) (D (l.getD k (0, 0))).length (intV (D (l.getD k (0, 0))))) ∧ w.grownBy y none

/-- Direct's row is new. -/
def DirLo (w : World) (e : Ending) : Prop := ∀ (a : Option Addr) (k c : Nat) (x : Value), e = .returned (.tuple #[.slice a k c, x]) → ∀ rb, a = some ⟨rb, 0, none⟩ → w.heap.size ≤ rb

section
variable (ta na la pa : Option Addr) (tc nc lc pc : Nat) (n : Nat) (st : Int) (w : World) (tn nn ln : Nat)
/-- direct, of any transition. -/
theorem direct_any (sa : Option Addr) (sc lb B m : Nat) (ks : List (List It)) (es : List (List (Nat × Nat))) (kv ev : Nat → Value) (h : EsOK ks es) (hP : AutP B w (.slice sa ks.length sc) ks (elF es) kv ev) (hL : LdAt w lb m (leadA es)) (x : It) (hx : x ∈ trT tn es ks.length) :
    Calls Try.prog 14 #[.agg #[.slice ta tn tc, .slice na nn nc, .slice la ln lc, .int .i64 st, .slice pa n pc, .slice sa ks.length sc, .map (some lb)], .agg #[.int .i64 x.1, .int .i64 x.2]] w fun e y => NumTold (dirOf tn st es x) w e y := by
  obtain ⟨q, s, tq, rfl, hq, h1, h2, h3, h4⟩ := h.trans hx
  have e1 : dirOf tn st es ((q : Int), (s : Int)) = preF ((q : Int) == 0 && (s : Int) == st) ++ dirL tn (es.getD tq []) := by
    unfold dirOf
    rw [h3]; rfl
  rw [e1]
  by_cases hst : (q : Int) = 0 ∧ (s : Int) = st
  · obtain ⟨hq0, hs⟩ := hst
    obtain rfl : q = 0 := by omega
    subst hs
    have e2 : ((((0 : Nat) : Int) == 0 && (s : Int) == (s : Int))) = true := by simp
    rw [e2]
    exact direct_start ta na la pa sa tc nc lc pc sc n ks.length lb (s : Int) w tn nn ln B m ks es kv ev rfl hP (fun q hq => (h.each q hq).1) hL h.ok tq (WalkArith.wf_i64 ⟨by omega, by omega⟩) h3 h4
  · have e2 : ((q : Int) == 0 && (s : Int) == st) = false := by
      rw [Bool.and_eq_false_iff, beq_eq_false_iff_ne, beq_eq_false_iff_ne]
      by_cases h5 : (q : Int) = 0
      · exact .inr fun h6 => hst ⟨h5, h6⟩
      · exact .inl h5
    rw [e2]
    exact direct_other ta na la pa sa tc nc lc pc sc n ks.length lb st w tn nn ln B m ks es kv ev rfl h.le hP (fun q hq => (h.each q hq).1) hL h.ok q tq (s : Int) hq (WalkArith.wf_i64 ⟨by omega, by omega⟩) h3 h4 hst

set_option maxRecDepth 100000 in
set_option maxHeartbeats 4000000 in
theorem directX_lo (ks : List (List It)) (es : List (List (Nat × Nat))) (h : EsOK ks es) (hO : OfOk ta na la pa tc nc lc pc n st w tn nn ln ks es) : Calls Try.prog 8 #[.agg #[.slice ta tn tc, .slice na nn nc, .slice la ln lc, .int .i64 st, .slice pa n pc]] w fun e y => DirErr (trT tn es ks.length) (dirOf tn st es) w e y ∧ DirLo w e := by
  have HO : Hid (OfOk ta na la pa tc nc lc pc n st w tn nn ln ks es) := hO
  have HE : Hid (EsOK ks es) := h
  have HX0 : Hid (w.grownBy (w.alloc (.cells #[.slice ta tn tc, .slice na nn nc, .slice la ln lc, .int .i64 st, .slice pa n pc] 27)) none) := World.grownBy_alloc _ _ none
  have infoInts : (Try.prog.info? 24).map (fun i => (i.zero, i.size, i.bytes)) = some (some (.slice none 0 0), 1, 24) := by kernel_rfl
  obtain ⟨i1, hi1, hy0, hy1, hy2⟩ := info_parts infoInts
  obtain ⟨l, hl⟩ : ∃ l, l = trT tn es ks.length := ⟨_, rfl⟩
  have HLE : Hid (l = trT tn es ks.length) := hl
  rw [← hl]
  clear hO h infoInts hl
  go_enter Try.func8, Try.ntmps8
  go_wp2_with fail
  refine Calls.mono (HO.out _ HX0.out) ?_
  rintro e w1 ⟨sa, sc, kv, ev, lb, m, rfl, hAP, hLd, hg1⟩
  obtain ⟨W, hW⟩ : ∃ W, W = w1.alloc (.cells #[.slice ta tn tc, .slice na nn nc, .slice la ln lc, .int .i64 st, .slice pa n pc, .slice sa ks.length sc, .map (some lb)] 47) := ⟨_, rfl⟩
  obtain ⟨bx, hbx⟩ : ∃ b, b = w1.heap.size := ⟨_, rfl⟩
  have HGW : Hid (w.grownBy W none) := by rw [hW]; exact grown_trans HX0.out (grown_trans hg1 (World.grownBy_alloc _ _ none))
  have HAP : Hid (∀ Y, W.grownBy Y none → ∃ B, AutP B Y (.slice sa ks.length sc) ks (elF es) kv ev) := fun Y hY => ⟨_, hAP.kept (grown_trans (by rw [hW]; exact World.grownBy_alloc _ _ none) hY)⟩
  have HLD : Hid (∀ Y, W.grownBy Y none → LdAt Y lb m (leadA es)) := fun Y hY => hLd.kept (grown_trans (by rw [hW]; exact World.grownBy_alloc _ _ none) hY) (by simp)
  have HBX : Hid (W.heap[bx]? = some (.cells #[.slice ta tn tc, .slice na nn nc, .slice la ln lc, .int .i64 st, .slice pa n pc, .slice sa ks.length sc, .map (some lb)] 47 (0, 0))) := by rw [hW, hbx]; exact heap_alloc_last w1 _
  have HTR : Hid (Calls Try.prog 13 #[.agg #[.slice ta tn tc, .slice na nn nc, .slice la ln lc, .int .i64 st, .slice pa n pc, .slice sa ks.length sc, .map (some lb)]] W fun e y => TrTold (trT tn es ks.length) W e y) := by
    obtain ⟨B, hB⟩ := HAP.out W (grown_refl _ _)
    exact trans_any ta na la pa sa tc nc lc pc sc n ks.length lb st W tn nn ln B ks es kv ev rfl HE.out.le hB (fun q hq => (HE.out.each q hq).1)
  have HDI : Hid (∀ Y x, W.grownBy Y none → x ∈ trT tn es ks.length → Calls Try.prog 14 #[.agg #[.slice ta tn tc, .slice na nn nc, .slice la ln lc, .int .i64 st, .slice pa n pc, .slice sa ks.length sc, .map (some lb)], .agg #[.int .i64 x.1, .int .i64 x.2]] Y fun e y => NumTold (dirOf tn st es x) Y e y) := fun Y x hY hx => by
    obtain ⟨B, hB⟩ := HAP.out Y hY
    exact direct_any ta na la pa tc nc lc pc n st Y tn nn ln sa sc lb B m ks es kv ev HE.out hB (HLD.out Y hY) x hx
  have HWE := show Hid _ from hW
  have HBE := show Hid _ from hbx
  have hlb : l.length ≤ 33280 := by
    rw [HLE.out]
    have h1 := trT_len (tn := tn) (c := 130) ks.length (fun q hq => (HE.out.each q hq).1)
    have h2 : ks.length * 130 ≤ 256 * 130 := Nat.mul_le_mul_right _ HE.out.le
    omega
  rw [← HLE.out] at HTR HDI
  obtain ⟨N, hN⟩ : ∃ n, n = ks.length := ⟨_, rfl⟩
  rw [← hN] at HBX HTR HDI HWE ⊢
  clear hg1 hAP hLd hW hbx hN HAP HLD HE HLE
  go_wp2_with fail
  rw [← HWE.out, ← HBE.out]
  refine Calls.mono HTR.out ?_
  rintro e w2 ⟨a2, c2, rfl, ho2, hg2⟩
  have HG2 : Hid (W.grownBy w2 none) := hg2
  have HI2 : Hid (∀ Y, w2.grownBy Y none → ItsAt Y a2 l) := fun Y hY => (ItsAt.ofT ho2).kept hY
  obtain ⟨K, hK⟩ : ∃ k, k = l.length := ⟨_, rfl⟩
  have HK : Hid (K = l.length) := hK
  rw [← hK] at hlb ⊢
  clear hg2 ho2 HTR HWE HBE hK
  go_wp2_with (at_make; refine wpList_make_full _ rfl _ _ 39 rfl w2.heap.size 24 i1 (.slice none 0 0) 1 Try.underlying39 hi1 hy0 hy1 .i64 .i64 _ _ K rfl rfl (by simp) (by simp) (by rw [hy2]; omega) (by unfold maxLen; omega) (by simp) ?_)
  intro P hown hgrow
  have hval : ValAt P w2.heap.size K 24 (fun _ => .slice none 0 0) := made_rowK (B := w2.heap.size) rfl (by simpa [Value.cells] using hown)
  obtain ⟨rb, hrb⟩ : ∃ rb, rb = w2.heap.size := ⟨_, rfl⟩
  rw [← hrb] at hval
  rw [← hrb]
  have HGP : Hid (W.grownBy P none) := grown_trans HG2.out hgrow
  have HIP : Hid (∀ Y, P.grownBy Y none → ItsAt Y a2 l) := fun Y hY => HI2.out Y (grown_trans hgrow hY)
  have HVP : Hid (ValAt P rb K 24 (fun _ => .slice none 0 0)) := hval
  have HRL : Hid (W.heap.size ≤ rb) := by show _ ≤ _; rw [hrb]; exact HG2.out.size
  have HRI : Hid (∀ Y, w2.grownBy Y none → ItsAt Y a2 l) := HI2.out
  have HW2 : Hid (w2.heap.size ≤ rb) := by show _ ≤ _; omega
  have HWP : Hid (w2.grownBy P none) := hgrow
  clear hown hgrow hval hrb HI2
  go_wp2_with fail
  go_loopg [25] K (fun gk v25 wr => ∃ (k : Nat) (ua : Nat → Option Addr) (uc : Nat → Nat), k ≤ K ∧ gk = K - k ∧ v25 = .int .i64 k ∧ w2.grownBy wr none ∧ ValAt wr rb K 24 (fun i => if i < k then .slice (ua i) (dirOf tn st es (l.getD i (0, 0))).length (uc i) else .slice none 0 0) ∧ ∀ i, i < k → wr.ownsRow w.heap.size 3 1 (.slice (ua i) (dirOf tn st es (l.getD i (0, 0))).length (uc i)) (dirOf tn st es (l.getD i (0, 0))).length (intV (dirOf tn st es (l.getD i (0, 0)))))
  case atStart => exact ⟨0, fun _ => none, fun _ => 0, Nat.zero_le _, rfl, rfl, HWP.out, HVP.out.ext (fun i _ => by rw [if_neg (by omega)]), fun i hi => absurd hi (Nat.not_lt_zero _)⟩
  case round =>
    obtain ⟨k, ua, uc, hk, hgk, rfl, hg, hv, hr⟩ := hrel
    have HGK : Hid (gk = K - k) := hgk
    have HG : Hid (w2.grownBy wr none) := hg
    have HV : Hid (ValAt wr rb K 24 (fun i => if i < k then .slice (ua i) (dirOf tn st es (l.getD i (0, 0))).length (uc i) else .slice none 0 0)) := hv
    have HR := show Hid _ from hr
    clear hgk hg hv hr
    by_cases hlt : k < K
    · have hkd : decide (k < K) = true := decide_eq_true hlt
      have hk0 : (0 : Int) ≤ (k : Int) := by omega
      have hk1 : (k : Int) < (K : Int) := by omega
      have hkl : k < l.length := by rw [← HK.out]; exact hlt
      obtain ⟨tb, to_, hta, c0, c1⟩ := (HRI.out wr HG.out).cellAt hkl
      subst hta
      have hmem : l.getD k (0, 0) ∈ l := by rw [List.getD_eq_getElem?_getD, List.getElem?_eq_getElem hkl]; exact List.getElem_mem hkl
      obtain ⟨x, hx⟩ : ∃ x, x = l.getD k (0, 0) := ⟨_, rfl⟩
      have HX : Hid (x = l.getD k (0, 0)) := hx
      rw [← hx] at c0 c1 hmem
      have HD := show Hid _ from HDI.out (wr.alloc (.cells #[.int .i64 x.1, .int .i64 x.2] 43)) x (grown_trans HG2.out (grown_trans HG.out (World.grownBy_alloc _ _ none))) hmem
      obtain ⟨k0, k1, k2, k3, k4, k5, k6⟩ := cells7 (box_kept HBX.out (grown_trans HG2.out (grown_trans HG.out (World.grownBy_alloc wr (.cells #[.int .i64 x.1, .int .i64 x.2] 43) none))))
      clear hx hmem hkl
      obtain ⟨p, d⟩ := x
      simp only at c0 c1 HD k0 k1 k2 k3 k4 k5 k6
      go_wp2_with fail
      refine Calls.mono HD.out ?_
      rintro e w5 ⟨a5, c5, rfl, ho5, hg5⟩
      have HG5 : Hid (w2.grownBy w5 none) := grown_trans HG.out (grown_trans (World.grownBy_alloc _ _ none) hg5)
      have HV5 : Hid (ValAt w5 rb K 24 (fun i => if i < k then .slice (ua i) (dirOf tn st es (l.getD i (0, 0))).length (uc i) else .slice none 0 0)) := HV.out.kept (grown_trans (World.grownBy_alloc _ _ none) hg5)
      have y0 := HV5.out.cell k hlt
      rw [if_neg (by omega)] at y0
      have f0 := HV5.out.free k
      obtain ⟨dl, hdl⟩ : ∃ m, m = (dirOf tn st es (p, d)).length := ⟨_, rfl⟩
      have HNX : Hid (∃ (ua' : Nat → Option Addr) (uc' : Nat → Nat), w2.grownBy (w5.setCell ⟨rb, k, none⟩ (.slice a5 dl c5)) none ∧ ValAt (w5.setCell ⟨rb, k, none⟩ (.slice a5 dl c5)) rb K 24 (fun i => if i < k + 1 then .slice (ua' i) (dirOf tn st es (l.getD i (0, 0))).length (uc' i) else .slice none 0 0) ∧ ∀ i, i < k + 1 → (w5.setCell ⟨rb, k, none⟩ (.slice a5 dl c5)).ownsRow w.heap.size 3 1 (.slice (ua' i) (dirOf tn st es (l.getD i (0, 0))).length (uc' i)) (dirOf tn st es (l.getD i (0, 0))).length (intV (dirOf tn st es (l.getD i (0, 0))))) := by
        have hgs : w5.grownBy (w5.setCell ⟨rb, k, none⟩ (.slice a5 dl c5)) (some rb) := grown_setCell _ _ _
        refine ⟨updL ua k a5, updL uc k c5, grown_new HG5.out hgs HW2.out, (HV5.out.set k _).ext (fun i _ => ?_), fun i hi => ?_⟩
        · unfold put
          by_cases e : i = k
          · subst e
            rw [if_pos rfl, if_pos (by omega), updL_same, updL_same, hdl, HX.out]
          · rw [if_neg e, updL_other _ _ e, updL_other _ _ e]
            simp only
            by_cases e2 : i < k
            · rw [if_pos e2, if_pos (by omega)]
            · rw [if_neg e2, if_neg (by omega)]
        · by_cases e : i = k
          · subst e
            rw [updL_same, updL_same, ← HX.out]
            have h9 := owns_base ho5 (B' := w.heap.size) (Nat.le_trans HGW.out.size (grown_trans HG2.out (grown_trans HG.out (World.grownBy_alloc _ _ none))).size)
            exact h9.kept hgs (owns_nebox h9 HV5.out (by decide))
          · rw [updL_other _ _ e, updL_other _ _ e]
            have h9 := keep0 (HR.out i (by omega)) (grown_trans (World.grownBy_alloc wr (.cells #[.int .i64 p, .int .i64 d] 43) none) hg5)
            exact h9.kept hgs (owns_nebox h9 HV5.out (by decide))
      rw [← hdl]
      clear ho5 hg5 hdl k0 k1 k2 k3 k4 k5 k6 c0 c1 HD
      go_wp2_with fail
      go_roundg (K - (k + 1))
      case measure => have := HGK.out; omega
      case rel =>
        obtain ⟨ua', uc', h1, h2, h3⟩ := HNX.out
        exact ⟨k + 1, ua', uc', by omega, rfl, by go_num, h1, h2, h3⟩
    · have hkK : K = k := by omega
      subst hkK
      have hkd : decide (K < K) = false := decide_eq_false (by omega)
      go_wp2_with fail
      go_ret2
      refine ⟨⟨rb, ua, uc, by rw [← HK.out]; rfl, by rw [← HK.out]; exact HV.out.ext (fun i hi => by rw [if_pos hi]), fun i hi => HR.out i (by rw [HK.out]; exact hi), grown_trans HGW.out (grown_trans HG2.out HG.out)⟩, fun a k c x e rb' ha => ?_⟩
      simp at e
      obtain ⟨⟨e1, _⟩, _⟩ := e
      rw [← e1] at ha
      simp only [Option.some.injEq, Addr.mk.injEq] at ha
      have h1 := HRL.out
      have h2 := HGW.out.size
      omega
theorem directX_ok (ks : List (List It)) (es : List (List (Nat × Nat))) (h : EsOK ks es) (hO : OfOk ta na la pa tc nc lc pc n st w tn nn ln ks es) : Calls Try.prog 8 #[.agg #[.slice ta tn tc, .slice na nn nc, .slice la ln lc, .int .i64 st, .slice pa n pc]] w fun e y => DirErr (trT tn es ks.length) (dirOf tn st es) w e y :=
  (directX_lo ta na la pa tc nc lc pc n st w tn nn ln ks es h hO).mono fun _ _ h => h.1
end

end Go.Proofs.Ytckgjolaoifgkaa.J

/-
  trans: automatonOf of any grammar; the law's awake.
-/
namespace Go.Proofs.Ytckgjolaoifgkaa.J
open Go.RowKit Go.Maps Go.Shelf

attribute [local go_sem] Oper.semAt_some

theorem esOK_of {G : List It → Nat → List It} {n : Nat} {R : Nat → List Int} {S : Nat} {ks : List (List It)} {es : List (List (Nat × Nat))} (h : AutF G n R S ks es) (hS : S ≤ 130) : EsOK ks es :=
  ⟨h.kok.le, h.len, fun q hq => ⟨by rw [h.elen hq]; exact Nat.le_trans (symsT_len _ _) hS, by rw [h.fst q hq]; exact symsT_nodup _ _, fun x hx => by
    have := h.snd q hq x hx
    omega⟩⟩

section
variable (ta na la pa : Option Addr) (tc nc lc pc : Nat) (ts : List (ByteArray × Int)) (ns : List ByteArray) (lv : List Int) (n : Nat) (L : Nat → Int) (R : Nat → List Int) (ra : Nat → Option Addr) (rc : Nat → Nat) (V : Nat → Int) (st : Int) (w : World) (tn nn ln : Nat) (hlen : ts.length = tn ∧ ns.length = nn ∧ lv.length = ln) (hG : GAt w ta na la pa tc nc lc pc ts ns lv n L R ra rc V)
include hlen hG
theorem ofBad1 (hc : ¬ closedOK ts ns lv st n L R V) : OfBad ta na la pa tc nc lc pc n st w tn nn ln 1 := fun X hX =>
  of_bad ta na la pa tc nc lc pc n st X tn nn ln 1 (.inl rfl) fun Y hY => buildBad ta na la pa tc nc lc pc ts ns lv n L R ra rc V st Y tn nn ln hlen (hG.kept (grown_trans hX hY)) hc
theorem ofBad11 (hc : closedOK ts ns lv st n L R V) (h : autoF (GG tn n L R) (tn + nn) 256 = none) : OfBad ta na la pa tc nc lc pc n st w tn nn ln 11 := fun X hX =>
  of_bad ta na la pa tc nc lc pc n st X tn nn ln 11 (.inr rfl) fun Y hY => build_none ta na la pa tc nc lc pc ts ns lv n L R ra rc V st w tn nn ln hlen hG hc h Y (grown_trans hX hY)
theorem ofOk (hc : closedOK ts ns lv st n L R V) {ks : List (List It)} {es : List (List (Nat × Nat))} (h : autoF (GG tn n L R) (tn + nn) 256 = some (ks, es)) : OfOk ta na la pa tc nc lc pc n st w tn nn ln ks es ∧ EsOK ks es := by
  have hM : MayOK tn nn n st L R true := by obtain ⟨rfl, rfl, rfl⟩ := hlen; exact mayOK_closed hc
  have hE : EsOK ks es := esOK_of (autF hM.p0 h) (by have := hM.tmax; have := hM.nmax; omega)
  refine ⟨fun X hX => of_ok ta na la pa tc nc lc pc n st X tn nn ln (askN es) ks es hE.le hE.len (fun q hq => ⟨(hE.each q hq).1, (hE.each q hq).2.1, fun x hx => by have := (hE.each q hq).2.2 x hx; have := hE.le; omega⟩) fun Y hY => ?_, hE⟩
  refine (build_some ta na la pa tc nc lc pc ts ns lv n L R ra rc V st w tn nn ln hlen hG hc h Y (grown_trans hX hY)).mono ?_
  rintro e y ⟨sa, sc, kv, ev, he, hAP, hg⟩
  exact ⟨sa, sc, kv, ev, he, hAP.base hY.size, hg⟩
end

theorem k_ggT : autoF (GG 3 3 kL kR) 5 256 = some (kKs, kEs) := by
  have h : ∀ k ∈ kKs, IsClo 3 3 kL kR k (CLo 3 3 kL kR k) := fun k hk => by
    have h1 := k_clo k hk
    rw [CLo_eq h1 (by
      simp only [kKs, List.mem_cons, List.not_mem_nil, or_false] at hk
      rcases hk with rfl | rfl | rfl | rfl | rfl <;> decide)]
    exact h1
  exact k_auto h
theorem k_trT : trT 3 kEs 5 = [(0, 4)] := by decide
theorem k_way : wayF kEs (some 0) [4, 1, 2] = some 4 := by decide
theorem k_dir : dirOf 3 4 kEs (0, 4) = [0, 1] := by decide

set_option maxRecDepth 100000 in
set_option maxHeartbeats 2000000 in
theorem awake_any (w : World) : Calls Try.prog 4 #[] w fun e w' => e = .returned (.bool true) ∧ w.grownBy w' none := by
  have hE : ∀ X : World, (binOp .eql 43 (.agg #[.int .i64 0, .int .i64 4]) (.agg #[.int .i64 0, .int .i64 4])).run Try.prog X = .ok (.bool true) X := fun X => eq_trans 0 4 0 4 X
  go_enter Try.func4, Try.ntmps4
  go_wp2_with fail
  refine Calls.mono (small_any w) ?_
  rintro e w1 ⟨b1, b2, b6, ra, rc, rfl, hG1, hg1⟩
  obtain ⟨hOf, hEs⟩ := ofOk (some ⟨b1, 0, none⟩) (some ⟨b2, 0, none⟩) none (some ⟨b6, 0, none⟩) 3 2 0 3 kTs kNs [] 3 kL kR ra rc (fun _ => 0) 4 w1 3 2 0 ⟨rfl, rfl, rfl⟩ hG1 k_closed k_ggT
  have HOF : Hid (OfOk (some ⟨b1, 0, none⟩) (some ⟨b2, 0, none⟩) none (some ⟨b6, 0, none⟩) 3 2 0 3 3 4 w1 3 2 0 kKs kEs) := hOf
  have HES : Hid (EsOK kKs kEs) := hEs
  have HOX : Hid (∀ X, w1.grownBy X none → OfOk (some ⟨b1, 0, none⟩) (some ⟨b2, 0, none⟩) none (some ⟨b6, 0, none⟩) 3 2 0 3 3 4 X 3 2 0 kKs kEs) := fun X hX Y hY => HOF.out Y (grown_trans hX hY)
  have HLI : Hid (∀ X, w1.grownBy X none → Calls Try.prog 7 #[.agg #[.slice (some ⟨b1, 0, none⟩) 3 3, .slice (some ⟨b2, 0, none⟩) 2 2, .slice none 0 0, .int .i64 4, .slice (some ⟨b6, 0, none⟩) 3 3]] X fun e y => ∃ g c, e = .returned (.tuple #[.slice (some ⟨g, 0, none⟩) 1 c, .int .i64 0]) ∧ y.cell? ⟨g, 0, none⟩ = some (.int .i64 0) ∧ y.cell? ⟨g, 1, none⟩ = some (.int .i64 4) ∧ X.grownBy y none) := fun X hX => by
    refine (listX_ok _ _ _ _ _ _ _ _ 3 4 X 3 2 0 kKs kEs HES.out.le (fun q hq => (HES.out.each q hq).1) (HOX.out X hX)).mono ?_
    rintro e y ⟨a, c, rfl, ho, hg⟩
    have e1 : trT 3 kEs kKs.length = [(0, 4)] := k_trT
    rw [e1] at ho ⊢
    obtain ⟨g, c2, he, hcell⟩ := owns_at ho (by decide)
    simp only [Value.slice.injEq] at he
    obtain ⟨rfl, _, rfl⟩ := he
    exact ⟨g, c, rfl, hcell 0 _ rfl, hcell 1 _ rfl, hg⟩
  have HWA : Hid (∀ X b, w1.grownBy X none → IntsAt X (some ⟨b, 0, none⟩) [4, 1, 2] → Calls Try.prog 5 #[.agg #[.slice (some ⟨b1, 0, none⟩) 3 3, .slice (some ⟨b2, 0, none⟩) 2 2, .slice none 0 0, .int .i64 4, .slice (some ⟨b6, 0, none⟩) 3 3], .int .i64 0, .slice (some ⟨b, 0, none⟩) 3 3] X fun e y => e = .returned (.tuple #[.int .i64 4, .int .i64 0]) ∧ X.grownBy y none) := fun X b hX hI => by
    have h := walkX_ok _ _ _ _ 3 2 0 3 3 4 X 3 2 0 kKs kEs (by decide) (by decide) HES.out.le HES.out.ok (HOX.out X hX) 0 (by decide) (some ⟨b, 0, none⟩) 3 [4, 1, 2] hI (by decide) (by decide)
    have e1 : wayV (wayF kEs (some ((0 : Nat) : Int)) [4, 1, 2]) = 4 := by rw [show ((0 : Nat) : Int) = 0 from rfl, k_way]; rfl
    rw [e1] at h
    exact h
  have HDI : Hid (∀ X, w1.grownBy X none → Calls Try.prog 8 #[.agg #[.slice (some ⟨b1, 0, none⟩) 3 3, .slice (some ⟨b2, 0, none⟩) 2 2, .slice none 0 0, .int .i64 4, .slice (some ⟨b6, 0, none⟩) 3 3]] X fun e y => ∃ rb a c, e = .returned (.tuple #[.slice (some ⟨rb, 0, none⟩) 1 1, .int .i64 0]) ∧ y.cell? ⟨rb, 0, none⟩ = some (.slice a 2 c) ∧ X.grownBy y none) := fun X hX => by
    refine (directX_ok _ _ _ _ 3 2 0 3 3 4 X 3 2 0 kKs kEs HES.out (HOX.out X hX)).mono ?_
    rintro e y ⟨rb, ua, uc, rfl, hv, _, hg⟩
    have e1 : trT 3 kEs kKs.length = [(0, 4)] := k_trT
    rw [e1] at hv ⊢
    have h1 := hv.cell 0 (by decide)
    rw [show ([((0 : Int), (4 : Int))] : List It).getD 0 (0, 0) = (0, 4) from rfl, k_dir] at h1
    exact ⟨rb, ua 0, uc 0, rfl, h1, hg⟩
  obtain ⟨gb, hgb⟩ : ∃ gb, gb = w1.heap.size := ⟨_, rfl⟩
  obtain ⟨X1, hX1⟩ : ∃ X1, X1 = w1.alloc (.cells #[.slice (some ⟨b1, 0, none⟩) 3 3, .slice (some ⟨b2, 0, none⟩) 2 2, .slice none 0 0, .int .i64 4, .slice (some ⟨b6, 0, none⟩) 3 3] 27) := ⟨_, rfl⟩
  have HP1 : Hid (PhAt w1 X1 gb #[.slice (some ⟨b1, 0, none⟩) 3 3, .slice (some ⟨b2, 0, none⟩) 2 2, .slice none 0 0, .int .i64 4, .slice (some ⟨b6, 0, none⟩) 3 3]) := ⟨by rw [hX1]; exact World.grownBy_alloc _ _ none, by rw [hX1, hgb]; exact heap_alloc_last w1 _⟩
  have HGW : Hid (w.grownBy w1 none) := hg1
  have HXE := show Hid _ from hX1
  have HGE := show Hid _ from hgb
  clear hG1 hg1 hX1 hgb hOf hEs HOF HOX HES
  go_wp2_with fail
  rw [← HXE.out, ← HGE.out]
  refine Calls.mono (HLI.out X1 HP1.out.grown) ?_
  rintro e w2 ⟨g2, c2, rfl, r0, r1, hg2⟩
  have HP2 : Hid (PhAt w1 w2 gb #[.slice (some ⟨b1, 0, none⟩) 3 3, .slice (some ⟨b2, 0, none⟩) 2 2, .slice none 0 0, .int .i64 4, .slice (some ⟨b6, 0, none⟩) 3 3]) := HP1.out.kept hg2
  clear hg2 HP1 HXE HGE HLI
  obtain ⟨k0, k1, k2, k3, k4⟩ := HP2.out.cells
  have HWC : Hid (Calls Try.prog 5 #[.agg #[.slice (some ⟨b1, 0, none⟩) 3 3, .slice (some ⟨b2, 0, none⟩) 2 2, .slice none 0 0, .int .i64 4, .slice (some ⟨b6, 0, none⟩) 3 3], .int .i64 0, .slice (some ⟨w2.heap.size, 0, none⟩) 3 3] (w2.alloc (.cells #[.int .i64 4, .int .i64 1, .int .i64 2] 3)) fun e y => e = .returned (.tuple #[.int .i64 4, .int .i64 0]) ∧ (w2.alloc (.cells #[.int .i64 4, .int .i64 1, .int .i64 2] 3)).grownBy y none) := HWA.out _ _ (grown_trans HP2.out.grown (World.grownBy_alloc _ _ none)) (.inr ⟨w2.heap.size, 0, rfl, fun i hi => by
    have h2 : i = 0 ∨ i = 1 ∨ i = 2 := by simp at hi; omega
    rcases h2 with rfl | rfl | rfl <;> (rw [cell_of_row _ _ _ _ _ _ (heap_alloc_last w2 _)]; rfl)⟩)
  go_wp2_with fail
  refine Calls.mono HWC.out ?_
  rintro e w3 ⟨rfl, hg3⟩
  have HP3 : Hid (PhAt w1 w3 gb #[.slice (some ⟨b1, 0, none⟩) 3 3, .slice (some ⟨b2, 0, none⟩) 2 2, .slice none 0 0, .int .i64 4, .slice (some ⟨b6, 0, none⟩) 3 3]) := HP2.out.kept (grown_trans (World.grownBy_alloc _ _ none) hg3)
  have r0' := hg3.cell ((World.grownBy_alloc w2 (.cells #[.int .i64 4, .int .i64 1, .int .i64 2] 3) none).cell r0 (by simp)) (by simp)
  have r1' := hg3.cell ((World.grownBy_alloc w2 (.cells #[.int .i64 4, .int .i64 1, .int .i64 2] 3) none).cell r1 (by simp)) (by simp)
  clear hg3 HP2 HWC HWA k0 k1 k2 k3 k4 r0 r1
  obtain ⟨k0, k1, k2, k3, k4⟩ := HP3.out.cells
  go_wp2_with fail
  refine Calls.mono (HDI.out w3 HP3.out.grown) ?_
  rintro e w4 ⟨rb, a4, c4, rfl, y0, hg4⟩
  have q0 := hg4.cell r0' (by simp)
  have q1 := hg4.cell r1' (by simp)
  have HG4 : Hid (w.grownBy w4 none) := grown_trans HGW.out (grown_trans HP3.out.grown hg4)
  clear hg4 HP3 HDI k0 k1 k2 k3 k4 r0' r1' HGW
  go_wp2_with fail
  go_ret
  exact ⟨rfl, HG4.out⟩

end Go.Proofs.Ytckgjolaoifgkaa.J

/-
  trans: the law TransTwice, walked.
-/
namespace Go.Proofs.Ytckgjolaoifgkaa.J
open Go.RowKit Go.Maps Go.Shelf

attribute [local go_sem] Oper.semAt_some

theorem intV_len (l : List Int) : (intV l).length = l.length := by unfold intV; rw [List.length_map]
theorem intV_one (l : List Int) : ∀ u ∈ intV l, u.oneCell' = true := by
  intro u h
  unfold intV at h
  obtain ⟨i, _, rfl⟩ := List.mem_map.1 h
  rfl
theorem ints_cells {X : World} {a : Option Addr} {l : List Int} (h : IntsAt X a l) (ad : Addr) (e : a = some ad) (j : Nat) (u : Value) (hu : (intV l)[j]? = some u) : X.cell? (ad.add j) = some u := by
  rcases h with h | ⟨b, off, e2, h⟩
  · rw [h] at hu; simp [intV] at hu
  · rw [e2] at e
    have e3 : ad = ⟨b, off, none⟩ := by simpa using e.symm
    subst e3
    have hj : j < l.length := by
      have := (List.getElem?_eq_some_iff.1 hu).1
      rwa [intV_len] at this
    rw [Addr.add_mid, h j hj]
    unfold intV at hu
    rw [List.getElem?_map, List.getElem?_eq_getElem hj] at hu
    rw [List.getD_eq_getElem?_getD, List.getElem?_eq_getElem hj]
    simpa using hu
theorem ints_of {X : World} {B c : Nat} {a : Option Addr} {l : List Int} (h : X.ownsRow B 3 1 (.slice a l.length c) l.length (intV l)) : IntsAt X a l := by
  rcases h.2 with ⟨_, h2⟩ | ⟨g, cap, cur, hv, hB, hh, _, _, hs, ht⟩
  · exact .inl (List.eq_nil_of_length_eq_zero h2)
  · right
    simp only [Value.slice.injEq] at hv
    refine ⟨g, 0, hv.1, fun i hi => ?_⟩
    have h3 : (intV l)[i]? = some (.int .i64 (l.getD i 0)) := by
      unfold intV
      rw [List.getElem?_map, List.getElem?_eq_getElem hi, List.getD_eq_getElem?_getD, List.getElem?_eq_getElem hi]; rfl
    rw [← ht, List.getElem?_take, if_pos (by omega)] at h3
    rw [Nat.zero_add, cell_of_row _ _ _ _ _ _ hh]
    simpa using h3

section
variable (ta na la pa : Option Addr) (tc nc lc pc : Nat) (n : Nat) (st : Int) (w : World) (tn nn ln : Nat)

set_option maxRecDepth 100000 in
set_option maxHeartbeats 4000000 in
theorem twice_err (z : Int) (oa wa : Option Addr) (oc wc : Nat) (one two : List Int) (h1 : IntsAt w oa one) (h2 : IntsAt w wa two) (n1 : oa = none → one.length = 0 ∧ oc = 0) (n2 : wa = none → two.length = 0 ∧ wc = 0) (hb1 : one.length ≤ 1048576) (hb2 : two.length ≤ 1048576) (e1 f1 : Int) (he1 : e1 ≠ 0) (hf1 : f1 ≠ 0)
    (hW1 : ∀ X, w.grownBy X none → Calls Try.prog 5 #[.agg #[.slice ta tn tc, .slice na nn nc, .slice la ln lc, .int .i64 st, .slice pa n pc], .int .i64 z, .slice oa one.length oc] X fun e y => e = .returned (.tuple #[.int .i64 0, .int .i64 e1]) ∧ X.grownBy y none)
    (hW2 : ∀ X a' c', w.grownBy X none → IntsAt X a' (one ++ two) → Calls Try.prog 5 #[.agg #[.slice ta tn tc, .slice na nn nc, .slice la ln lc, .int .i64 st, .slice pa n pc], .int .i64 z, .slice a' (one ++ two).length c'] X fun e y => e = .returned (.tuple #[.int .i64 0, .int .i64 f1]) ∧ X.grownBy y none) :
    Calls Try.prog 3 #[.agg #[.slice ta tn tc, .slice na nn nc, .slice la ln lc, .int .i64 st, .slice pa n pc], .int .i64 z, .agg #[.slice oa one.length oc, .slice wa two.length wc]] w fun e w' => e = .returned (.bool true) ∧ w.grownBy w' none := by
  have HW1 := show Hid _ from hW1
  have HW2 := show Hid _ from hW2
  have d1 : (e1 != 0) = true := bne_iff_ne.2 he1
  have d2 : (f1 != 0) = true := bne_iff_ne.2 hf1
  clear he1 hf1
  obtain ⟨on, hon⟩ : ∃ m, m = one.length := ⟨_, rfl⟩
  obtain ⟨wn, hwn⟩ : ∃ m, m = two.length := ⟨_, rfl⟩
  have HL : Hid ((one ++ two).length = on + wn) := by show _ = _; rw [List.length_append, hon, hwn]
  have HI1 : Hid (∀ Y, w.grownBy Y none → IntsAt Y oa one) := fun Y hY => h1.kept hY
  have HI2 : Hid (∀ Y, w.grownBy Y none → IntsAt Y wa two) := fun Y hY => h2.kept hY
  have HV1 : Hid ((intV one).length = on * 1) := by show _ = _; rw [intV_len, hon]; omega
  have HV2 : Hid ((intV two).length = wn * 1) := by show _ = _; rw [intV_len, hwn]; omega
  have HN1 : Hid (oa = none → on = 0 ∧ oc = 0) := by rw [hon]; exact n1
  have HN2 : Hid (wa = none → wn = 0 ∧ wc = 0) := by rw [hwn]; exact n2
  rw [← hon] at HW1 hb1
  rw [← hwn] at hb2
  rw [← hon, ← hwn]
  obtain ⟨i0, hi0, hz0, hz1, hz2⟩ := info_parts infoInt
  have HX0 : Hid (PhAt w ((w.alloc (.cells #[.slice ta tn tc, .slice na nn nc, .slice la ln lc, .int .i64 st, .slice pa n pc] 27)).alloc (.cells #[.slice oa on oc, .slice wa wn wc] 29)) w.heap.size #[.slice ta tn tc, .slice na nn nc, .slice la ln lc, .int .i64 st, .slice pa n pc]) := PhAt.kept ⟨World.grownBy_alloc _ _ none, heap_alloc_last w _⟩ (World.grownBy_alloc _ _ none)
  have HR0 : Hid (((w.alloc (.cells #[.slice ta tn tc, .slice na nn nc, .slice la ln lc, .int .i64 st, .slice pa n pc] 27)).alloc (.cells #[.slice oa on oc, .slice wa wn wc] 29)).heap[w.heap.size + 1]? = some (.cells #[.slice oa on oc, .slice wa wn wc] 29 (0, 0))) := by
    have h := heap_alloc_last (w.alloc (.cells #[.slice ta tn tc, .slice na nn nc, .slice la ln lc, .int .i64 st, .slice pa n pc] 27)) (.cells #[.slice oa on oc, .slice wa wn wc] 29)
    rw [World.size_alloc] at h; exact h
  clear hW1 hW2 h1 h2 n1 n2 hon hwn
  go_enter Try.func3, Try.ntmps3
  go_wp2_with fail
  refine Calls.mono (awake_any _) ?_
  rintro e w1 ⟨rfl, hg1⟩
  have HX1 : Hid (PhAt w w1 w.heap.size #[.slice ta tn tc, .slice na nn nc, .slice la ln lc, .int .i64 st, .slice pa n pc]) := HX0.out.kept hg1
  have hr := box_kept HR0.out hg1
  have r0 : w1.cell? ⟨w.heap.size + 1, 0, none⟩ = some (.slice oa on oc) := by rw [cell_of_row _ _ _ _ _ _ hr]; rfl
  have r1 : w1.cell? ⟨w.heap.size + 1, 1, none⟩ = some (.slice wa wn wc) := by rw [cell_of_row _ _ _ _ _ _ hr]; rfl
  have HS1 : Hid (∀ ad, oa = some ad → ∀ j u, (intV one)[j]? = some u → w1.cell? (ad.add j) = some u) := fun ad e j u hu => ints_cells (HI1.out w1 HX1.out.grown) ad e j u hu
  clear hg1 HX0 HR0 hr
  go_wp2_with (at_builtin; first | (refine wpList_append_srcW rfl (.tmp 22) (.tmp 23) 24 rfl w1.heap.size 3 i0 (.int .i64 0) 1 8 Try.underlying24 hi0 hz0 hz1 hz2 rfl (by decide) (.slice none 0 0) 0 [] rfl (World.ownsRow_nil _ _ _ _) oa on oc (intV one) rfl HN1.out HV1.out HS1.out (intV_one _) (by unfold maxLen; omega) (by omega) (Nat.le_refl _) ?_; intro v8 w2 ho hg; rw [Nat.zero_add, List.nil_append] at ho; obtain ⟨p2, q2, rfl⟩ := owns_slice ho; have HO2 : Hid (w2.ownsRow w1.heap.size 3 1 (.slice p2 on q2) on (intV one)) := ho; have HG2 : Hid (w1.grownBy w2 none) := hg; have HS2 : Hid (∀ ad, wa = some ad → ∀ j u, (intV two)[j]? = some u → w2.cell? (ad.add j) = some u) := fun ad e j u hu => ints_cells (HI2.out w2 (grown_trans HX1.out.grown HG2.out)) ad e j u hu; clear ho hg) | (refine wpList_append_srcW rfl (.tmp 25) (.tmp 26) 24 rfl w1.heap.size 3 i0 (.int .i64 0) 1 8 Try.underlying24 hi0 hz0 hz1 hz2 rfl (by decide) (.slice p2 on q2) on (intV one) rfl HO2.out wa wn wc (intV two) rfl HN2.out HV2.out HS2.out (intV_one _) (by unfold maxLen; omega) (by omega) HG2.out.size ?_; intro v9 w3 ho hg; rw [← intV_append] at ho; obtain ⟨p3, q3, rfl⟩ := owns_slice ho; have HO3 : Hid (w3.ownsRow w1.heap.size 3 1 (.slice p3 (on + wn) q3) (on + wn) (intV (one ++ two))) := ho; have HG3 : Hid (w1.grownBy w3 none) := grown_owned HG2.out HO2.out (Nat.le_refl _) hg; obtain ⟨k0, k1, k2, k3, k4⟩ := (HX1.out.kept HG3.out).cells; clear ho hg) | fail)
  have HX3 : Hid (PhAt w w3 w.heap.size #[.slice ta tn tc, .slice na nn nc, .slice la ln lc, .int .i64 st, .slice pa n pc]) := HX1.out.kept HG3.out
  have HI3 : Hid (∀ Y, w3.grownBy Y none → IntsAt Y p3 (one ++ two)) := fun Y hY => (ints_of (by rw [HL.out]; exact HO3.out)).kept hY
  clear HO2 HO3 HG2 HG3 HS1 HS2 HX1 r0 r1 k0 k1 k2 k3 k4
  refine Calls.mono (HW1.out w3 HX3.out.grown) ?_
  rintro e w4 ⟨rfl, hg4⟩
  have HX4 : Hid (PhAt w w4 w.heap.size #[.slice ta tn tc, .slice na nn nc, .slice la ln lc, .int .i64 st, .slice pa n pc]) := HX3.out.kept hg4
  have HW2C := show Hid _ from HW2.out w4 p3 q3 HX4.out.grown (HI3.out w4 hg4)
  rw [HL.out] at HW2C
  obtain ⟨k0, k1, k2, k3, k4⟩ := HX4.out.cells
  clear hg4 HX3
  go_wp2_with fail
  refine Calls.mono HW2C.out ?_
  rintro e w5 ⟨rfl, hg5⟩
  have HX5 : Hid (PhAt w w5 w.heap.size #[.slice ta tn tc, .slice na nn nc, .slice la ln lc, .int .i64 st, .slice pa n pc]) := HX4.out.kept hg5
  clear hg5 HW2C HX4 k0 k1 k2 k3 k4
  go_wp2_with fail
  go_ret
  exact ⟨rfl, HX5.out.grown⟩

set_option maxRecDepth 100000 in
set_option maxHeartbeats 4000000 in
theorem twice_lost0 (z : Int) (oa wa : Option Addr) (oc wc : Nat) (one two : List Int) (h1 : IntsAt w oa one) (h2 : IntsAt w wa two) (n1 : oa = none → one.length = 0 ∧ oc = 0) (n2 : wa = none → two.length = 0 ∧ wc = 0) (hb1 : one.length ≤ 1048576) (hb2 : two.length ≤ 1048576) 
    (hW1 : ∀ X, w.grownBy X none → Calls Try.prog 5 #[.agg #[.slice ta tn tc, .slice na nn nc, .slice la ln lc, .int .i64 st, .slice pa n pc], .int .i64 z, .slice oa one.length oc] X fun e y => e = .returned (.tuple #[.int .i64 (-1), .int .i64 0]) ∧ X.grownBy y none)
    (hW2 : ∀ X a' c', w.grownBy X none → IntsAt X a' (one ++ two) → Calls Try.prog 5 #[.agg #[.slice ta tn tc, .slice na nn nc, .slice la ln lc, .int .i64 st, .slice pa n pc], .int .i64 z, .slice a' (one ++ two).length c'] X fun e y => e = .returned (.tuple #[.int .i64 (-1), .int .i64 0]) ∧ X.grownBy y none) :
    Calls Try.prog 3 #[.agg #[.slice ta tn tc, .slice na nn nc, .slice la ln lc, .int .i64 st, .slice pa n pc], .int .i64 z, .agg #[.slice oa one.length oc, .slice wa two.length wc]] w fun e w' => e = .returned (.bool true) ∧ w.grownBy w' none := by
  have HW1 := show Hid _ from hW1
  have HW2 := show Hid _ from hW2
  obtain ⟨on, hon⟩ : ∃ m, m = one.length := ⟨_, rfl⟩
  obtain ⟨wn, hwn⟩ : ∃ m, m = two.length := ⟨_, rfl⟩
  have HL : Hid ((one ++ two).length = on + wn) := by show _ = _; rw [List.length_append, hon, hwn]
  have HI1 : Hid (∀ Y, w.grownBy Y none → IntsAt Y oa one) := fun Y hY => h1.kept hY
  have HI2 : Hid (∀ Y, w.grownBy Y none → IntsAt Y wa two) := fun Y hY => h2.kept hY
  have HV1 : Hid ((intV one).length = on * 1) := by show _ = _; rw [intV_len, hon]; omega
  have HV2 : Hid ((intV two).length = wn * 1) := by show _ = _; rw [intV_len, hwn]; omega
  have HN1 : Hid (oa = none → on = 0 ∧ oc = 0) := by rw [hon]; exact n1
  have HN2 : Hid (wa = none → wn = 0 ∧ wc = 0) := by rw [hwn]; exact n2
  rw [← hon] at HW1 hb1
  rw [← hwn] at hb2
  rw [← hon, ← hwn]
  obtain ⟨i0, hi0, hz0, hz1, hz2⟩ := info_parts infoInt
  have HX0 : Hid (PhAt w ((w.alloc (.cells #[.slice ta tn tc, .slice na nn nc, .slice la ln lc, .int .i64 st, .slice pa n pc] 27)).alloc (.cells #[.slice oa on oc, .slice wa wn wc] 29)) w.heap.size #[.slice ta tn tc, .slice na nn nc, .slice la ln lc, .int .i64 st, .slice pa n pc]) := PhAt.kept ⟨World.grownBy_alloc _ _ none, heap_alloc_last w _⟩ (World.grownBy_alloc _ _ none)
  have HR0 : Hid (((w.alloc (.cells #[.slice ta tn tc, .slice na nn nc, .slice la ln lc, .int .i64 st, .slice pa n pc] 27)).alloc (.cells #[.slice oa on oc, .slice wa wn wc] 29)).heap[w.heap.size + 1]? = some (.cells #[.slice oa on oc, .slice wa wn wc] 29 (0, 0))) := by
    have h := heap_alloc_last (w.alloc (.cells #[.slice ta tn tc, .slice na nn nc, .slice la ln lc, .int .i64 st, .slice pa n pc] 27)) (.cells #[.slice oa on oc, .slice wa wn wc] 29)
    rw [World.size_alloc] at h; exact h
  clear hW1 hW2 h1 h2 n1 n2 hon hwn
  go_enter Try.func3, Try.ntmps3
  go_wp2_with fail
  refine Calls.mono (awake_any _) ?_
  rintro e w1 ⟨rfl, hg1⟩
  have HX1 : Hid (PhAt w w1 w.heap.size #[.slice ta tn tc, .slice na nn nc, .slice la ln lc, .int .i64 st, .slice pa n pc]) := HX0.out.kept hg1
  have hr := box_kept HR0.out hg1
  have r0 : w1.cell? ⟨w.heap.size + 1, 0, none⟩ = some (.slice oa on oc) := by rw [cell_of_row _ _ _ _ _ _ hr]; rfl
  have r1 : w1.cell? ⟨w.heap.size + 1, 1, none⟩ = some (.slice wa wn wc) := by rw [cell_of_row _ _ _ _ _ _ hr]; rfl
  have HS1 : Hid (∀ ad, oa = some ad → ∀ j u, (intV one)[j]? = some u → w1.cell? (ad.add j) = some u) := fun ad e j u hu => ints_cells (HI1.out w1 HX1.out.grown) ad e j u hu
  clear hg1 HX0 HR0 hr
  go_wp2_with (at_builtin; first | (refine wpList_append_srcW rfl (.tmp 22) (.tmp 23) 24 rfl w1.heap.size 3 i0 (.int .i64 0) 1 8 Try.underlying24 hi0 hz0 hz1 hz2 rfl (by decide) (.slice none 0 0) 0 [] rfl (World.ownsRow_nil _ _ _ _) oa on oc (intV one) rfl HN1.out HV1.out HS1.out (intV_one _) (by unfold maxLen; omega) (by omega) (Nat.le_refl _) ?_; intro v8 w2 ho hg; rw [Nat.zero_add, List.nil_append] at ho; obtain ⟨p2, q2, rfl⟩ := owns_slice ho; have HO2 : Hid (w2.ownsRow w1.heap.size 3 1 (.slice p2 on q2) on (intV one)) := ho; have HG2 : Hid (w1.grownBy w2 none) := hg; have HS2 : Hid (∀ ad, wa = some ad → ∀ j u, (intV two)[j]? = some u → w2.cell? (ad.add j) = some u) := fun ad e j u hu => ints_cells (HI2.out w2 (grown_trans HX1.out.grown HG2.out)) ad e j u hu; clear ho hg) | (refine wpList_append_srcW rfl (.tmp 25) (.tmp 26) 24 rfl w1.heap.size 3 i0 (.int .i64 0) 1 8 Try.underlying24 hi0 hz0 hz1 hz2 rfl (by decide) (.slice p2 on q2) on (intV one) rfl HO2.out wa wn wc (intV two) rfl HN2.out HV2.out HS2.out (intV_one _) (by unfold maxLen; omega) (by omega) HG2.out.size ?_; intro v9 w3 ho hg; rw [← intV_append] at ho; obtain ⟨p3, q3, rfl⟩ := owns_slice ho; have HO3 : Hid (w3.ownsRow w1.heap.size 3 1 (.slice p3 (on + wn) q3) (on + wn) (intV (one ++ two))) := ho; have HG3 : Hid (w1.grownBy w3 none) := grown_owned HG2.out HO2.out (Nat.le_refl _) hg; obtain ⟨k0, k1, k2, k3, k4⟩ := (HX1.out.kept HG3.out).cells; clear ho hg) | fail)
  have HX3 : Hid (PhAt w w3 w.heap.size #[.slice ta tn tc, .slice na nn nc, .slice la ln lc, .int .i64 st, .slice pa n pc]) := HX1.out.kept HG3.out
  have HI3 : Hid (∀ Y, w3.grownBy Y none → IntsAt Y p3 (one ++ two)) := fun Y hY => (ints_of (by rw [HL.out]; exact HO3.out)).kept hY
  clear HO2 HO3 HG2 HG3 HS1 HS2 HX1 r0 r1 k0 k1 k2 k3 k4
  refine Calls.mono (HW1.out w3 HX3.out.grown) ?_
  rintro e w4 ⟨rfl, hg4⟩
  have HX4 : Hid (PhAt w w4 w.heap.size #[.slice ta tn tc, .slice na nn nc, .slice la ln lc, .int .i64 st, .slice pa n pc]) := HX3.out.kept hg4
  have HW2C := show Hid _ from HW2.out w4 p3 q3 HX4.out.grown (HI3.out w4 hg4)
  rw [HL.out] at HW2C
  obtain ⟨k0, k1, k2, k3, k4⟩ := HX4.out.cells
  clear hg4 HX3
  go_wp2_with fail
  refine Calls.mono HW2C.out ?_
  rintro e w5 ⟨rfl, hg5⟩
  have HX5 : Hid (PhAt w w5 w.heap.size #[.slice ta tn tc, .slice na nn nc, .slice la ln lc, .int .i64 st, .slice pa n pc]) := HX4.out.kept hg5
  clear hg5 HW2C HX4 k0 k1 k2 k3 k4
  go_wp2_with fail
  go_ret
  exact ⟨rfl, HX5.out.grown⟩

set_option maxRecDepth 100000 in
set_option maxHeartbeats 4000000 in
theorem twice_lost1 (z : Int) (oa wa : Option Addr) (oc wc : Nat) (one two : List Int) (h1 : IntsAt w oa one) (h2 : IntsAt w wa two) (n1 : oa = none → one.length = 0 ∧ oc = 0) (n2 : wa = none → two.length = 0 ∧ wc = 0) (hb1 : one.length ≤ 1048576) (hb2 : two.length ≤ 1048576) 
    (hW1 : ∀ X, w.grownBy X none → Calls Try.prog 5 #[.agg #[.slice ta tn tc, .slice na nn nc, .slice la ln lc, .int .i64 st, .slice pa n pc], .int .i64 z, .slice oa one.length oc] X fun e y => e = .returned (.tuple #[.int .i64 (-1), .int .i64 0]) ∧ X.grownBy y none)
    (hW2 : ∀ X a' c', w.grownBy X none → IntsAt X a' (one ++ two) → Calls Try.prog 5 #[.agg #[.slice ta tn tc, .slice na nn nc, .slice la ln lc, .int .i64 st, .slice pa n pc], .int .i64 z, .slice a' (one ++ two).length c'] X fun e y => e = .returned (.tuple #[.int .i64 0, .int .i64 1]) ∧ X.grownBy y none) :
    Calls Try.prog 3 #[.agg #[.slice ta tn tc, .slice na nn nc, .slice la ln lc, .int .i64 st, .slice pa n pc], .int .i64 z, .agg #[.slice oa one.length oc, .slice wa two.length wc]] w fun e w' => e = .returned (.bool true) ∧ w.grownBy w' none := by
  have HW1 := show Hid _ from hW1
  have HW2 := show Hid _ from hW2
  obtain ⟨on, hon⟩ : ∃ m, m = one.length := ⟨_, rfl⟩
  obtain ⟨wn, hwn⟩ : ∃ m, m = two.length := ⟨_, rfl⟩
  have HL : Hid ((one ++ two).length = on + wn) := by show _ = _; rw [List.length_append, hon, hwn]
  have HI1 : Hid (∀ Y, w.grownBy Y none → IntsAt Y oa one) := fun Y hY => h1.kept hY
  have HI2 : Hid (∀ Y, w.grownBy Y none → IntsAt Y wa two) := fun Y hY => h2.kept hY
  have HV1 : Hid ((intV one).length = on * 1) := by show _ = _; rw [intV_len, hon]; omega
  have HV2 : Hid ((intV two).length = wn * 1) := by show _ = _; rw [intV_len, hwn]; omega
  have HN1 : Hid (oa = none → on = 0 ∧ oc = 0) := by rw [hon]; exact n1
  have HN2 : Hid (wa = none → wn = 0 ∧ wc = 0) := by rw [hwn]; exact n2
  rw [← hon] at HW1 hb1
  rw [← hwn] at hb2
  rw [← hon, ← hwn]
  obtain ⟨i0, hi0, hz0, hz1, hz2⟩ := info_parts infoInt
  have HX0 : Hid (PhAt w ((w.alloc (.cells #[.slice ta tn tc, .slice na nn nc, .slice la ln lc, .int .i64 st, .slice pa n pc] 27)).alloc (.cells #[.slice oa on oc, .slice wa wn wc] 29)) w.heap.size #[.slice ta tn tc, .slice na nn nc, .slice la ln lc, .int .i64 st, .slice pa n pc]) := PhAt.kept ⟨World.grownBy_alloc _ _ none, heap_alloc_last w _⟩ (World.grownBy_alloc _ _ none)
  have HR0 : Hid (((w.alloc (.cells #[.slice ta tn tc, .slice na nn nc, .slice la ln lc, .int .i64 st, .slice pa n pc] 27)).alloc (.cells #[.slice oa on oc, .slice wa wn wc] 29)).heap[w.heap.size + 1]? = some (.cells #[.slice oa on oc, .slice wa wn wc] 29 (0, 0))) := by
    have h := heap_alloc_last (w.alloc (.cells #[.slice ta tn tc, .slice na nn nc, .slice la ln lc, .int .i64 st, .slice pa n pc] 27)) (.cells #[.slice oa on oc, .slice wa wn wc] 29)
    rw [World.size_alloc] at h; exact h
  clear hW1 hW2 h1 h2 n1 n2 hon hwn
  go_enter Try.func3, Try.ntmps3
  go_wp2_with fail
  refine Calls.mono (awake_any _) ?_
  rintro e w1 ⟨rfl, hg1⟩
  have HX1 : Hid (PhAt w w1 w.heap.size #[.slice ta tn tc, .slice na nn nc, .slice la ln lc, .int .i64 st, .slice pa n pc]) := HX0.out.kept hg1
  have hr := box_kept HR0.out hg1
  have r0 : w1.cell? ⟨w.heap.size + 1, 0, none⟩ = some (.slice oa on oc) := by rw [cell_of_row _ _ _ _ _ _ hr]; rfl
  have r1 : w1.cell? ⟨w.heap.size + 1, 1, none⟩ = some (.slice wa wn wc) := by rw [cell_of_row _ _ _ _ _ _ hr]; rfl
  have HS1 : Hid (∀ ad, oa = some ad → ∀ j u, (intV one)[j]? = some u → w1.cell? (ad.add j) = some u) := fun ad e j u hu => ints_cells (HI1.out w1 HX1.out.grown) ad e j u hu
  clear hg1 HX0 HR0 hr
  go_wp2_with (at_builtin; first | (refine wpList_append_srcW rfl (.tmp 22) (.tmp 23) 24 rfl w1.heap.size 3 i0 (.int .i64 0) 1 8 Try.underlying24 hi0 hz0 hz1 hz2 rfl (by decide) (.slice none 0 0) 0 [] rfl (World.ownsRow_nil _ _ _ _) oa on oc (intV one) rfl HN1.out HV1.out HS1.out (intV_one _) (by unfold maxLen; omega) (by omega) (Nat.le_refl _) ?_; intro v8 w2 ho hg; rw [Nat.zero_add, List.nil_append] at ho; obtain ⟨p2, q2, rfl⟩ := owns_slice ho; have HO2 : Hid (w2.ownsRow w1.heap.size 3 1 (.slice p2 on q2) on (intV one)) := ho; have HG2 : Hid (w1.grownBy w2 none) := hg; have HS2 : Hid (∀ ad, wa = some ad → ∀ j u, (intV two)[j]? = some u → w2.cell? (ad.add j) = some u) := fun ad e j u hu => ints_cells (HI2.out w2 (grown_trans HX1.out.grown HG2.out)) ad e j u hu; clear ho hg) | (refine wpList_append_srcW rfl (.tmp 25) (.tmp 26) 24 rfl w1.heap.size 3 i0 (.int .i64 0) 1 8 Try.underlying24 hi0 hz0 hz1 hz2 rfl (by decide) (.slice p2 on q2) on (intV one) rfl HO2.out wa wn wc (intV two) rfl HN2.out HV2.out HS2.out (intV_one _) (by unfold maxLen; omega) (by omega) HG2.out.size ?_; intro v9 w3 ho hg; rw [← intV_append] at ho; obtain ⟨p3, q3, rfl⟩ := owns_slice ho; have HO3 : Hid (w3.ownsRow w1.heap.size 3 1 (.slice p3 (on + wn) q3) (on + wn) (intV (one ++ two))) := ho; have HG3 : Hid (w1.grownBy w3 none) := grown_owned HG2.out HO2.out (Nat.le_refl _) hg; obtain ⟨k0, k1, k2, k3, k4⟩ := (HX1.out.kept HG3.out).cells; clear ho hg) | fail)
  have HX3 : Hid (PhAt w w3 w.heap.size #[.slice ta tn tc, .slice na nn nc, .slice la ln lc, .int .i64 st, .slice pa n pc]) := HX1.out.kept HG3.out
  have HI3 : Hid (∀ Y, w3.grownBy Y none → IntsAt Y p3 (one ++ two)) := fun Y hY => (ints_of (by rw [HL.out]; exact HO3.out)).kept hY
  clear HO2 HO3 HG2 HG3 HS1 HS2 HX1 r0 r1 k0 k1 k2 k3 k4
  refine Calls.mono (HW1.out w3 HX3.out.grown) ?_
  rintro e w4 ⟨rfl, hg4⟩
  have HX4 : Hid (PhAt w w4 w.heap.size #[.slice ta tn tc, .slice na nn nc, .slice la ln lc, .int .i64 st, .slice pa n pc]) := HX3.out.kept hg4
  have HW2C := show Hid _ from HW2.out w4 p3 q3 HX4.out.grown (HI3.out w4 hg4)
  rw [HL.out] at HW2C
  obtain ⟨k0, k1, k2, k3, k4⟩ := HX4.out.cells
  clear hg4 HX3
  go_wp2_with fail
  refine Calls.mono HW2C.out ?_
  rintro e w5 ⟨rfl, hg5⟩
  have HX5 : Hid (PhAt w w5 w.heap.size #[.slice ta tn tc, .slice na nn nc, .slice la ln lc, .int .i64 st, .slice pa n pc]) := HX4.out.kept hg5
  clear hg5 HW2C HX4 k0 k1 k2 k3 k4
  go_wp2_with fail
  go_ret
  exact ⟨rfl, HX5.out.grown⟩

set_option maxRecDepth 100000 in
set_option maxHeartbeats 4000000 in
theorem twice_there (z : Int) (oa wa : Option Addr) (oc wc : Nat) (one two : List Int) (h1 : IntsAt w oa one) (h2 : IntsAt w wa two) (n1 : oa = none → one.length = 0 ∧ oc = 0) (n2 : wa = none → two.length = 0 ∧ wc = 0) (hb1 : one.length ≤ 1048576) (hb2 : two.length ≤ 1048576) (p : Nat) (b1 f1 : Int)
    (hW1 : ∀ X, w.grownBy X none → Calls Try.prog 5 #[.agg #[.slice ta tn tc, .slice na nn nc, .slice la ln lc, .int .i64 st, .slice pa n pc], .int .i64 z, .slice oa one.length oc] X fun e y => e = .returned (.tuple #[.int .i64 (p : Int), .int .i64 0]) ∧ X.grownBy y none)
    (hW2 : ∀ X a' c', w.grownBy X none → IntsAt X a' (one ++ two) → Calls Try.prog 5 #[.agg #[.slice ta tn tc, .slice na nn nc, .slice la ln lc, .int .i64 st, .slice pa n pc], .int .i64 z, .slice a' (one ++ two).length c'] X fun e y => e = .returned (.tuple #[.int .i64 b1, .int .i64 f1]) ∧ X.grownBy y none)
    (hW3 : ∀ X, w.grownBy X none → Calls Try.prog 5 #[.agg #[.slice ta tn tc, .slice na nn nc, .slice la ln lc, .int .i64 st, .slice pa n pc], .int .i64 (p : Int), .slice wa two.length wc] X fun e y => e = .returned (.tuple #[.int .i64 b1, .int .i64 f1]) ∧ X.grownBy y none) :
    Calls Try.prog 3 #[.agg #[.slice ta tn tc, .slice na nn nc, .slice la ln lc, .int .i64 st, .slice pa n pc], .int .i64 z, .agg #[.slice oa one.length oc, .slice wa two.length wc]] w fun e w' => e = .returned (.bool true) ∧ w.grownBy w' none := by
  have HW1 := show Hid _ from hW1
  have HW2 := show Hid _ from hW2
  have HW3 := show Hid _ from hW3
  have d1 : ((p : Int) == -1) = false := beq_eq_false_iff_ne.2 (by omega)
  have d2 : (b1 == b1) = true := beq_self_eq_true _
  have d3 : (f1 == f1) = true := beq_self_eq_true _
  obtain ⟨on, hon⟩ : ∃ m, m = one.length := ⟨_, rfl⟩
  obtain ⟨wn, hwn⟩ : ∃ m, m = two.length := ⟨_, rfl⟩
  have HL : Hid ((one ++ two).length = on + wn) := by show _ = _; rw [List.length_append, hon, hwn]
  have HI1 : Hid (∀ Y, w.grownBy Y none → IntsAt Y oa one) := fun Y hY => h1.kept hY
  have HI2 : Hid (∀ Y, w.grownBy Y none → IntsAt Y wa two) := fun Y hY => h2.kept hY
  have HV1 : Hid ((intV one).length = on * 1) := by show _ = _; rw [intV_len, hon]; omega
  have HV2 : Hid ((intV two).length = wn * 1) := by show _ = _; rw [intV_len, hwn]; omega
  have HN1 : Hid (oa = none → on = 0 ∧ oc = 0) := by rw [hon]; exact n1
  have HN2 : Hid (wa = none → wn = 0 ∧ wc = 0) := by rw [hwn]; exact n2
  rw [← hon] at HW1 hb1
  rw [← hwn] at hb2
  rw [← hon, ← hwn]
  rw [← hwn] at HW3
  obtain ⟨i0, hi0, hz0, hz1, hz2⟩ := info_parts infoInt
  have HX0 : Hid (PhAt w ((w.alloc (.cells #[.slice ta tn tc, .slice na nn nc, .slice la ln lc, .int .i64 st, .slice pa n pc] 27)).alloc (.cells #[.slice oa on oc, .slice wa wn wc] 29)) w.heap.size #[.slice ta tn tc, .slice na nn nc, .slice la ln lc, .int .i64 st, .slice pa n pc]) := PhAt.kept ⟨World.grownBy_alloc _ _ none, heap_alloc_last w _⟩ (World.grownBy_alloc _ _ none)
  have HR0 : Hid (((w.alloc (.cells #[.slice ta tn tc, .slice na nn nc, .slice la ln lc, .int .i64 st, .slice pa n pc] 27)).alloc (.cells #[.slice oa on oc, .slice wa wn wc] 29)).heap[w.heap.size + 1]? = some (.cells #[.slice oa on oc, .slice wa wn wc] 29 (0, 0))) := by
    have h := heap_alloc_last (w.alloc (.cells #[.slice ta tn tc, .slice na nn nc, .slice la ln lc, .int .i64 st, .slice pa n pc] 27)) (.cells #[.slice oa on oc, .slice wa wn wc] 29)
    rw [World.size_alloc] at h; exact h
  clear hW1 hW2 h1 h2 n1 n2 hon hwn hW3
  go_enter Try.func3, Try.ntmps3
  go_wp2_with fail
  refine Calls.mono (awake_any _) ?_
  rintro e w1 ⟨rfl, hg1⟩
  have HX1 : Hid (PhAt w w1 w.heap.size #[.slice ta tn tc, .slice na nn nc, .slice la ln lc, .int .i64 st, .slice pa n pc]) := HX0.out.kept hg1
  have hr := box_kept HR0.out hg1
  have r0 : w1.cell? ⟨w.heap.size + 1, 0, none⟩ = some (.slice oa on oc) := by rw [cell_of_row _ _ _ _ _ _ hr]; rfl
  have r1 : w1.cell? ⟨w.heap.size + 1, 1, none⟩ = some (.slice wa wn wc) := by rw [cell_of_row _ _ _ _ _ _ hr]; rfl
  have HS1 : Hid (∀ ad, oa = some ad → ∀ j u, (intV one)[j]? = some u → w1.cell? (ad.add j) = some u) := fun ad e j u hu => ints_cells (HI1.out w1 HX1.out.grown) ad e j u hu
  clear hg1 HX0 HR0 hr
  go_wp2_with (at_builtin; first | (refine wpList_append_srcW rfl (.tmp 22) (.tmp 23) 24 rfl w1.heap.size 3 i0 (.int .i64 0) 1 8 Try.underlying24 hi0 hz0 hz1 hz2 rfl (by decide) (.slice none 0 0) 0 [] rfl (World.ownsRow_nil _ _ _ _) oa on oc (intV one) rfl HN1.out HV1.out HS1.out (intV_one _) (by unfold maxLen; omega) (by omega) (Nat.le_refl _) ?_; intro v8 w2 ho hg; rw [Nat.zero_add, List.nil_append] at ho; obtain ⟨p2, q2, rfl⟩ := owns_slice ho; have HO2 : Hid (w2.ownsRow w1.heap.size 3 1 (.slice p2 on q2) on (intV one)) := ho; have HG2 : Hid (w1.grownBy w2 none) := hg; have HS2 : Hid (∀ ad, wa = some ad → ∀ j u, (intV two)[j]? = some u → w2.cell? (ad.add j) = some u) := fun ad e j u hu => ints_cells (HI2.out w2 (grown_trans HX1.out.grown HG2.out)) ad e j u hu; clear ho hg) | (refine wpList_append_srcW rfl (.tmp 25) (.tmp 26) 24 rfl w1.heap.size 3 i0 (.int .i64 0) 1 8 Try.underlying24 hi0 hz0 hz1 hz2 rfl (by decide) (.slice p2 on q2) on (intV one) rfl HO2.out wa wn wc (intV two) rfl HN2.out HV2.out HS2.out (intV_one _) (by unfold maxLen; omega) (by omega) HG2.out.size ?_; intro v9 w3 ho hg; rw [← intV_append] at ho; obtain ⟨p3, q3, rfl⟩ := owns_slice ho; have HO3 : Hid (w3.ownsRow w1.heap.size 3 1 (.slice p3 (on + wn) q3) (on + wn) (intV (one ++ two))) := ho; have HG3 : Hid (w1.grownBy w3 none) := grown_owned HG2.out HO2.out (Nat.le_refl _) hg; obtain ⟨k0, k1, k2, k3, k4⟩ := (HX1.out.kept HG3.out).cells; clear ho hg) | fail)
  have HX3 : Hid (PhAt w w3 w.heap.size #[.slice ta tn tc, .slice na nn nc, .slice la ln lc, .int .i64 st, .slice pa n pc]) := HX1.out.kept HG3.out
  have HI3 : Hid (∀ Y, w3.grownBy Y none → IntsAt Y p3 (one ++ two)) := fun Y hY => (ints_of (by rw [HL.out]; exact HO3.out)).kept hY
  clear HO2 HO3 HG2 HG3 HS1 HS2 HX1 r0 r1 k0 k1 k2 k3 k4
  refine Calls.mono (HW1.out w3 HX3.out.grown) ?_
  rintro e w4 ⟨rfl, hg4⟩
  have HX4 : Hid (PhAt w w4 w.heap.size #[.slice ta tn tc, .slice na nn nc, .slice la ln lc, .int .i64 st, .slice pa n pc]) := HX3.out.kept hg4
  have HW2C := show Hid _ from HW2.out w4 p3 q3 HX4.out.grown (HI3.out w4 hg4)
  rw [HL.out] at HW2C
  obtain ⟨k0, k1, k2, k3, k4⟩ := HX4.out.cells
  clear hg4 HX3
  go_wp2_with fail
  refine Calls.mono HW2C.out ?_
  rintro e w5 ⟨rfl, hg5⟩
  have HX5 : Hid (PhAt w w5 w.heap.size #[.slice ta tn tc, .slice na nn nc, .slice la ln lc, .int .i64 st, .slice pa n pc]) := HX4.out.kept hg5
  clear hg5 HW2C HX4 k0 k1 k2 k3 k4
  obtain ⟨k0, k1, k2, k3, k4⟩ := HX5.out.cells
  go_wp2_with fail
  refine Calls.mono (HW3.out w5 HX5.out.grown) ?_
  rintro e w6 ⟨rfl, hg6⟩
  have HG6 : Hid (w.grownBy w6 none) := grown_trans HX5.out.grown hg6
  clear hg6 k0 k1 k2 k3 k4
  go_wp2_with fail
  go_ret
  exact ⟨rfl, HG6.out⟩

end

end Go.Proofs.Ytckgjolaoifgkaa.J
