/-
  trans: direct.
-/
import Derived.Test.YtfcholpleeiddaaGreatQbjlkfceonjic
import Derived.Deep.RegionHeld3
namespace Go.Proofs.YtfcholpleeiddaaGreat.J
open Go.RowKit Go.Maps Go.Shelf

attribute [local go_sem] Oper.semAt_some

theorem eq_trans (p d p' d' : Int) (w : World) : (binOp .eql 39 (.agg #[.int .i64 p, .int .i64 d]) (.agg #[.int .i64 p', .int .i64 d'])).run Tryz.prog w = .ok (.bool (p == p' && d == d')) w := by
  have u3 := Tryz.underlying3
  have a3 := Tryz.isAgg3
  have z3 := Tryz.sizeOf3
  have hS : Tryz.prog.underlying 39 = some (.struct (Tryz.prog.fieldsOf 39)) := by kernel_rfl
  have hp : Tryz.prog.stoodInHeld 39 = false := by kernel_rfl
  rw [run_eql_struct, show (10000 : Nat) = 9999 + 1 from rfl, run_equalIn_agg w 9999 39 _ _ hS hp]
  simp only [Program.fieldsOf, Tryz.underlying39]
  go_simp
  by_cases h1 : p = p' <;> by_cases h2 : d = d' <;> simp [h1, h2]
def intV (l : List Int) : List Value := l.map (Value.int .i64)
theorem intV_append (l m : List Int) : intV (l ++ m) = intV l ++ intV m := by unfold intV; rw [List.map_append]
/-- The terminals among edges. -/
def dirL (tn : Nat) (l : List (Nat × Nat)) : List Int := (l.filter fun x => decide (x.1 < tn)).map fun x => (x.1 : Int)
theorem dirL_snoc (tn : Nat) (l : List (Nat × Nat)) (s t : Nat) : dirL tn (l ++ [(s, t)]) = dirL tn l ++ (if s < tn then [(s : Int)] else []) := by
  unfold dirL
  rw [List.filter_append, List.map_append]
  by_cases h : s < tn
  · rw [if_pos h]; simp [h]
  · rw [if_neg h]; simp [h]
theorem dirL_len (tn : Nat) (l : List (Nat × Nat)) : (dirL tn l).length ≤ l.length := by
  unfold dirL
  rw [List.length_map]
  exact List.length_filter_le _ _
def preF (b : Bool) : List Int := if b then [0] else []
theorem preF_len (b : Bool) : (preF b).length ≤ 1 := by cases b <;> decide
/-- What direct tells. -/
def NumTold (l : List Int) (w : World) (e : Ending) (y : World) : Prop := ∃ (a : Option Addr) (c : Nat), e = .returned (.slice a l.length c) ∧ y.ownsRow w.heap.size 3 1 (.slice a l.length c) l.length (intV l) ∧ w.grownBy y none

section
variable (ta na la pa sa : Option Addr) (tc nc lc pc sc : Nat) (n N lb : Nat) (st : Int) (w : World) (tn nn ln : Nat)

set_option maxRecDepth 100000 in
set_option maxHeartbeats 4000000 in
theorem direct_other (B m : Nat) (ks : List (List It)) (es : List (List (Nat × Nat))) (kv ev : Nat → Value) (hN : N = ks.length) (hN256 : N ≤ 256) (hP : AutP B w (.slice sa ks.length sc) ks (elF es) kv ev) (hes : ∀ q, q < ks.length → (es.getD q []).length ≤ 130) (hL : LdAt w lb m (leadA es)) (hOK : LeadOK es) (q tq : Nat) (s : Int) (hq : q < N) (hsw : (Lit.int .i64 s).wf = true) (hto : leadA es ((q : Int), s) = some (tq : Int)) (htN : tq < N) (hst : ¬ ((q : Int) = 0 ∧ s = st)) :
    Calls Tryz.prog 19 #[.agg #[.slice ta tn tc, .slice na nn nc, .slice la ln lc, .int .i64 st, .slice pa n pc, .slice sa N sc, .map (some lb)], .agg #[.int .i64 (q : Int), .int .i64 s]] w fun e y => NumTold (preF false ++ dirL tn (es.getD tq [])) w e y := by
  have HN : Hid (N = ks.length) := hN
  have HP : Hid (∀ Y, w.grownBy Y none → AutP B Y (.slice sa ks.length sc) ks (elF es) kv ev) := fun Y hY => hP.kept hY
  have HES := show Hid _ from hes
  have htk : tq < ks.length := by rw [← hN]; exact htN
  obtain ⟨sb, sc', hsv, _, _⟩ := hP.st htk
  simp only [Value.slice.injEq] at hsv
  obtain ⟨rfl, _, rfl⟩ := hsv
  obtain ⟨ea, ec, hev, _⟩ := hP.edgAt htk
  obtain ⟨E, hE⟩ : ∃ E, E = (elF es tq).length := ⟨_, rfl⟩
  have HE : Hid (E = (es.getD tq []).length) := by show _ = _; rw [hE]; exact elF_len _ _
  have hEb : E ≤ 130 := by rw [HE.out]; exact hes tq htk
  have HEC : Hid (∀ Y, w.grownBy Y none → Y.cell? ⟨sb, tq * 2 + 1, none⟩ = some (.slice ea E ec) ∧ ItsAt Y ea (elF es tq)) := fun Y hY => by
    have h := HP.out Y hY
    obtain ⟨sb2, sc2, h1, _, h3⟩ := h.st htk
    simp only [Value.slice.injEq, Option.some.injEq, Addr.mk.injEq] at h1
    obtain ⟨⟨rfl, _⟩, _⟩ := h1
    obtain ⟨ea2, ec2, h4, h5⟩ := h.edgAt htk
    rw [hev] at h3 h4
    simp only [Value.slice.injEq] at h4
    rw [← hE] at h3
    exact ⟨h3, by rw [h4.1]; exact h5⟩
  have HWK : Hid (∀ Y b, w.grownBy Y none → IntsAt Y (some ⟨b, 0, none⟩) [s] → Calls Tryz.prog 24 #[.agg #[.slice ta tn tc, .slice na nn nc, .slice la ln lc, .int .i64 st, .slice pa n pc, .slice (some ⟨sb, 0, none⟩) N sc, .map (some lb)], .int .i64 (q : Int), .slice (some ⟨b, 0, none⟩) 1 1] Y fun e y => e = .returned (.int .i64 (tq : Int)) ∧ Y.grownBy y none) := fun Y b hY hI => by
    have h := walk_any ta na la pa (some ⟨sb, 0, none⟩) tc nc lc pc sc n N lb st Y tn nn ln m es (hL.kept hY (by simp)) hOK q (by omega) (some ⟨b, 0, none⟩) 1 [s] hI (by simp) (fun x hx => by rw [List.mem_singleton.1 hx]; exact hsw)
    have e1 : wayF es (some ((q : Nat) : Int)) [s] = some (tq : Int) := hto
    rw [e1] at h
    exact h
  obtain ⟨i0, hi0, hz0, hz1, hz2⟩ := info_parts infoInt
  obtain ⟨W, hW⟩ : ∃ W, W = (w.alloc (.cells #[.slice ta tn tc, .slice na nn nc, .slice la ln lc, .int .i64 st, .slice pa n pc, .slice (some ⟨sb, 0, none⟩) N sc, .map (some lb)] 56)).alloc (.cells #[.int .i64 (q : Int), .int .i64 s] 39) := ⟨_, rfl⟩
  have HGW : Hid (w.grownBy W none) := by rw [hW]; exact grown_trans (World.grownBy_alloc _ _ none) (World.grownBy_alloc _ _ none)
  have HB7 : Hid (W.heap[w.heap.size]? = some (.cells #[.slice ta tn tc, .slice na nn nc, .slice la ln lc, .int .i64 st, .slice pa n pc, .slice (some ⟨sb, 0, none⟩) N sc, .map (some lb)] 56 (0, 0))) := by rw [hW]; exact box_kept (heap_alloc_last w _) (World.grownBy_alloc _ _ none)
  have HB2 : Hid (W.heap[w.heap.size + 1]? = some (.cells #[.int .i64 (q : Int), .int .i64 s] 39 (0, 0))) := by
    rw [hW]
    have h := heap_alloc_last (w.alloc (.cells #[.slice ta tn tc, .slice na nn nc, .slice la ln lc, .int .i64 st, .slice pa n pc, .slice (some ⟨sb, 0, none⟩) N sc, .map (some lb)] 56)) (.cells #[.int .i64 (q : Int), .int .i64 s] 39)
    rw [World.size_alloc] at h; exact h
  have HWE := show Hid _ from hW
  have HCS : Hid (∀ Y, W.grownBy Y none → (Y.cell? ⟨w.heap.size, 0, none⟩ = some (.slice ta tn tc) ∧ Y.cell? ⟨w.heap.size, 1, none⟩ = some (.slice na nn nc) ∧ Y.cell? ⟨w.heap.size, 2, none⟩ = some (.slice la ln lc) ∧ Y.cell? ⟨w.heap.size, 3, none⟩ = some (.int .i64 st) ∧ Y.cell? ⟨w.heap.size, 4, none⟩ = some (.slice pa n pc) ∧ Y.cell? ⟨w.heap.size, 5, none⟩ = some (.slice (some ⟨sb, 0, none⟩) N sc) ∧ Y.cell? ⟨w.heap.size, 6, none⟩ = some (.map (some lb))) ∧ Y.cell? ⟨w.heap.size + 1, 0, none⟩ = some (.int .i64 (q : Int)) ∧ Y.cell? ⟨w.heap.size + 1, 1, none⟩ = some (.int .i64 s) ∧ Y.cell? ⟨sb, tq * 2 + 1, none⟩ = some (.slice ea E ec)) := fun Y hY => ⟨cells7 (box_kept HB7.out hY), by rw [cell_of_row _ _ _ _ _ _ (box_kept HB2.out hY)]; rfl, by rw [cell_of_row _ _ _ _ _ _ (box_kept HB2.out hY)]; rfl, (HEC.out Y (grown_trans HGW.out hY)).1⟩
  obtain ⟨bb, hbb⟩ : ∃ b, b = ((q : Int) == 0 && s == st) := ⟨_, rfl⟩
  have hbf : bb = false := by
    rw [hbb, Bool.and_eq_false_iff, beq_eq_false_iff_ne, beq_eq_false_iff_ne]
    by_cases h : (q : Int) = 0
    · exact .inr fun h2 => hst ⟨h, h2⟩
    · exact .inl h
  have hEQ : ∀ X : World, (binOp .eql 39 (.agg #[.int .i64 (q : Int), .int .i64 s]) (.agg #[.int .i64 0, .int .i64 st])).run Tryz.prog X = .ok (.bool false) X := fun X => by
    rw [← hbf, hbb]; exact eq_trans (q : Int) s 0 st X
  clear hbb hbf hst
  have ht0 : (0 : Int) ≤ (tq : Int) := by omega
  have ht1 : (tq : Int) < (N : Int) := by omega
  clear hP hes hN hL hOK hto htk hev hE hW HP HB7 HB2
  go_enter Tryz.func19, Tryz.ntmps19
  go_wp2_with fail
  rw [← HWE.out]
  obtain ⟨Z, hZ⟩ : ∃ Z, Z = W := ⟨_, rfl⟩
  rw [← hZ]
  have HGZ : Hid (W.grownBy Z none) := by rw [hZ]; exact grown_refl _ _
  have HO0 : Hid (Z.ownsRow W.heap.size 3 1 (.slice none 0 0) 0 (intV (preF false))) := World.ownsRow_nil _ _ _ _
  have HL0 : Hid (0 = (preF false).length) := rfl
  clear hZ HWE
  have HGZ2 : Hid (W.grownBy (Z.alloc (.cells #[.int .i64 s] 3)).drew none) := grown_trans HGZ.out (grown_trans (World.grownBy_alloc _ _ none) (grown_drewN _ 1))
  have HGZ1 : Hid (W.grownBy Z.drew none) := grown_trans HGZ.out (grown_drewN _ 1)
  have HGZ3 : Hid (W.grownBy (Z.drew.alloc (.cells #[.int .i64 s] 3)) none) := grown_trans HGZ1.out (World.grownBy_alloc _ _ none)
  have HIA : Hid (IntsAt (Z.alloc (.cells #[.int .i64 s] 3)).drew (some ⟨Z.heap.size, 0, none⟩) [s]) := .inr ⟨Z.heap.size, 0, rfl, fun i hi => by
    have h2 : i = 0 := by simp at hi; omega
    subst h2
    have h3 : (Z.alloc (.cells #[.int .i64 s] 3)).drew.heap[Z.heap.size]? = some (.cells #[.int .i64 s] 3 (0, 0)) := heap_alloc_last Z _
    rw [cell_of_row _ _ _ _ _ _ h3]; rfl⟩
  go_region_held3 (fun Y => (Y.cell? ⟨w.heap.size, 0, none⟩ = some (.slice ta tn tc) ∧ Y.cell? ⟨w.heap.size, 1, none⟩ = some (.slice na nn nc) ∧ Y.cell? ⟨w.heap.size, 2, none⟩ = some (.slice la ln lc) ∧ Y.cell? ⟨w.heap.size, 3, none⟩ = some (.int .i64 st) ∧ Y.cell? ⟨w.heap.size, 4, none⟩ = some (.slice pa n pc) ∧ Y.cell? ⟨w.heap.size, 5, none⟩ = some (.slice (some ⟨sb, 0, none⟩) N sc) ∧ Y.cell? ⟨w.heap.size, 6, none⟩ = some (.map (some lb))) ∧ Y.cell? ⟨w.heap.size + 1, 0, none⟩ = some (.int .i64 (q : Int)) ∧ Y.cell? ⟨w.heap.size + 1, 1, none⟩ = some (.int .i64 s) ∧ Y.cell? ⟨sb, tq * 2 + 1, none⟩ = some (.slice ea E ec)) (first | exact HCS.out _ HGZ1.out | exact HCS.out _ HGZ2.out | exact HCS.out _ HGZ3.out | exact HCS.out _ HG4.out | go_keep)
    ((first
      | (go_at_call 24; refine Calls.mono (HWK.out _ _ (grown_trans HGW.out HGZ2.out) HIA.out) ?_; rintro e w4 ⟨rfl, hg4⟩; have HG4 : Hid (W.grownBy w4 none) := grown_trans HGZ2.out hg4; have HO4 : Hid (w4.ownsRow W.heap.size 3 1 (.slice none 0 0) 0 (intV (preF false))) := keep0 HO0.out (grown_trans (World.grownBy_alloc _ _ none) (grown_trans (grown_drewN _ 1) hg4)); clear hg4)
      | fail))
  clear HGZ1 HGZ2 HGZ3 HIA HO0 HGZ HWK
  go_wp2_with fail
  go_loopg [5, 30] E (fun gk v5 v30 wr => ∃ (j L : Nat) (a : Option Addr) (c : Nat), j ≤ E ∧ gk = E - j ∧ v30 = .int .i64 j ∧ v5 = .slice a L c ∧ L = (preF false ++ dirL tn ((es.getD tq []).take j)).length ∧ wr.ownsRow W.heap.size 3 1 (.slice a L c) L (intV (preF false ++ dirL tn ((es.getD tq []).take j))) ∧ W.grownBy wr none)
  case atStart => exact ⟨0, 0, none, 0, Nat.zero_le _, rfl, rfl, rfl, by simpa [dirL] using HL0.out, by simpa [dirL] using HO4.out, HG4.out⟩
  case round =>
    obtain ⟨j, L2, a2, c2, hj, hgj, rfl, rfl, hL2, hown2, hg2⟩ := hrel
    have HGJ : Hid (gk = E - j) := hgj
    have HL2 : Hid (L2 = (preF false ++ dirL tn ((es.getD tq []).take j)).length) := hL2
    have HO2 : Hid (wr.ownsRow W.heap.size 3 1 (.slice a2 L2 c2) L2 (intV (preF false ++ dirL tn ((es.getD tq []).take j)))) := hown2
    have HG2 : Hid (W.grownBy wr none) := hg2
    have hL2b : L2 ≤ 131 := by
      rw [hL2, List.length_append]
      have h1 := dirL_len tn ((es.getD tq []).take j)
      have h2 : ((es.getD tq []).take j).length ≤ j := by rw [List.length_take]; omega
      have h3 := preF_len (false)
      omega
    clear hgj hL2 hown2 hg2 HO4
    by_cases hlj : j < E
    · have hjd : decide (j < E) = true := decide_eq_true hlj
      have hj0 : (0 : Int) ≤ (j : Int) := by omega
      have hj1 : (j : Int) < (E : Int) := by omega
      have hje : j < (es.getD tq []).length := by rw [← HE.out]; exact hlj
      obtain ⟨eb, eo, hea, d0, d1⟩ := (HEC.out wr (grown_trans HGW.out HG2.out)).2.cellAt (i := j) (by rw [elF_len]; exact hje)
      subst hea
      rw [(elF_at hje).2] at d0 d1
      obtain ⟨x, hx⟩ : ∃ x, x = (es.getD tq []).getD j (0, 0) := ⟨_, rfl⟩
      rw [← hx] at d0 d1
      obtain ⟨u, t⟩ := x
      simp only at d0 d1
      have HTK : Hid (dirL tn ((es.getD tq []).take (j + 1)) = dirL tn ((es.getD tq []).take j) ++ (if u < tn then [(u : Int)] else [])) := by
        show _ = _
        rw [take_snocE hje hx.symm, dirL_snoc]
      have HA : Hid (W.grownBy (wr.alloc (.cells #[.int .i64 (u : Int), .int .i64 (t : Int)] 78)) none) := grown_trans HG2.out (World.grownBy_alloc _ _ none)
      obtain ⟨⟨k0, k1, k2, k3, k4, k5, k6⟩, _⟩ := HCS.out _ HA.out
      by_cases hts : u < tn
      · have HIT := show Hid _ from isTerm_any ta na la pa (some ⟨sb, 0, none⟩) tc nc lc pc sc n N lb st (wr.alloc (.cells #[.int .i64 (u : Int), .int .i64 (t : Int)] 78)) tn nn ln (u : Int) true (decide_eq_true (by omega)).symm
        clear hx hje
        go_wp2_with fail
        refine Calls.mono HIT.out ?_
        rintro e w5 ⟨rfl, hg5⟩
        have HG5 : Hid (W.grownBy w5 none) := grown_trans HA.out hg5
        have HO5 : Hid (w5.ownsRow W.heap.size 3 1 (.slice a2 L2 c2) L2 (intV (preF false ++ dirL tn ((es.getD tq []).take j)))) := keep0 HO2.out (grown_trans (World.grownBy_alloc _ _ none) hg5)
        have hbx : w5.heap[wr.heap.size]? = some (.cells #[.int .i64 (u : Int), .int .i64 (t : Int)] 78 (0, 0)) := box_kept (heap_alloc_last wr _) hg5
        have r0 : w5.cell? ⟨wr.heap.size, 0, none⟩ = some (.int .i64 (u : Int)) := by rw [cell_of_row _ _ _ _ _ _ hbx]; rfl
        have hsz := HG5.out.size
        clear hg5 hbx HIT k0 k1 k2 k3 k4 k5 k6 d0 d1
        go_wp2_with (at_builtin; refine wpList_append_lies _ rfl (.tmp 38) (.tmp 41) 24 rfl W.heap.size 3 i0 (.int .i64 0) 1 8 Tryz.underlying24 hi0 hz0 hz1 hz2 rfl (by decide) (.slice a2 L2 c2) L2 (intV (preF false ++ dirL tn ((es.getD tq []).take j))) rfl (HO5.out.alloc _) ⟨w5.heap.size, 0, none⟩ 1 1 [.int .i64 (u : Int)] rfl rfl (World.news_of_block (heap_alloc_last w5 _)) (by simp [Value.oneCell']) (by decide) (by unfold maxLen; omega) (by omega) (by simp; omega) _ rfl ?_)
        intro g7 c7 V hoV hgV _ _
        have HOV : Hid (V.ownsRow W.heap.size 3 1 (.slice (some ⟨g7, 0, none⟩) (L2 + 1) c7) (L2 + 1) (intV (preF false ++ dirL tn ((es.getD tq []).take (j + 1))))) := by
          rw [HTK.out, if_pos hts, ← List.append_assoc, intV_append]; exact hoV
        have HLV : Hid (L2 + 1 = (preF false ++ dirL tn ((es.getD tq []).take (j + 1))).length) := by
          show _ = _
          rw [HTK.out, if_pos hts, ← List.append_assoc, List.length_append, ← HL2.out]; rfl
        have HGV : Hid (W.grownBy V none) := grown_owned (grown_trans HG5.out (World.grownBy_alloc _ _ none)) (HO5.out.alloc _) (Nat.le_refl _) hgV
        clear hoV hgV r0
        go_wp2_with fail
        go_roundg (E - (j + 1))
        case measure => have := HGJ.out; omega
        case rel => exact ⟨j + 1, L2 + 1, some ⟨g7, 0, none⟩, c7, by omega, rfl, by go_num, rfl, HLV.out, HOV.out, HGV.out⟩
      · have HIT := show Hid _ from isTerm_any ta na la pa (some ⟨sb, 0, none⟩) tc nc lc pc sc n N lb st (wr.alloc (.cells #[.int .i64 (u : Int), .int .i64 (t : Int)] 78)) tn nn ln (u : Int) false (decide_eq_false (by omega)).symm
        clear hx hje
        go_wp2_with fail
        refine Calls.mono HIT.out ?_
        rintro e w5 ⟨rfl, hg5⟩
        have HG5 : Hid (W.grownBy w5 none) := grown_trans HA.out hg5
        have HO5 : Hid (w5.ownsRow W.heap.size 3 1 (.slice a2 L2 c2) L2 (intV (preF false ++ dirL tn ((es.getD tq []).take (j + 1))))) := by
          rw [HTK.out, if_neg hts, List.append_nil]; exact keep0 HO2.out (grown_trans (World.grownBy_alloc _ _ none) hg5)
        have HL5 : Hid (L2 = (preF false ++ dirL tn ((es.getD tq []).take (j + 1))).length) := by
          show _ = _
          rw [HTK.out, if_neg hts, List.append_nil]; exact HL2.out
        clear hg5 HIT k0 k1 k2 k3 k4 k5 k6 d0 d1
        go_wp2_with fail
        go_roundg (E - (j + 1))
        case measure => have := HGJ.out; omega
        case rel => exact ⟨j + 1, L2, a2, c2, by omega, rfl, by go_num, rfl, HL5.out, HO5.out, HG5.out⟩
    · have hjE : E = j := by omega
      subst hjE
      have hjd : decide (E < E) = false := decide_eq_false (by omega)
      have e9 : (es.getD tq []).take E = es.getD tq [] := by rw [HE.out, List.take_length]
      rw [e9] at HO2 HL2
      clear e9
      go_wp2_with fail
      go_ret
      exact ⟨a2, c2, by rw [← HL2.out]; rfl, by rw [← HL2.out]; exact owns_base HO2.out HGW.out.size, grown_trans HGW.out HG2.out⟩
set_option maxRecDepth 100000 in
set_option maxHeartbeats 4000000 in
theorem direct_start (B m : Nat) (ks : List (List It)) (es : List (List (Nat × Nat))) (kv ev : Nat → Value) (hN : N = ks.length) (hP : AutP B w (.slice sa ks.length sc) ks (elF es) kv ev) (hes : ∀ q, q < ks.length → (es.getD q []).length ≤ 130) (hL : LdAt w lb m (leadA es)) (hOK : LeadOK es) (tq : Nat) (hsw : (Lit.int .i64 st).wf = true) (hto : leadA es (0, st) = some (tq : Int)) (htN : tq < N) :
    Calls Tryz.prog 19 #[.agg #[.slice ta tn tc, .slice na nn nc, .slice la ln lc, .int .i64 st, .slice pa n pc, .slice sa N sc, .map (some lb)], .agg #[.int .i64 0, .int .i64 st]] w fun e y => NumTold (preF true ++ dirL tn (es.getD tq [])) w e y := by
  have HN : Hid (N = ks.length) := hN
  have HP : Hid (∀ Y, w.grownBy Y none → AutP B Y (.slice sa ks.length sc) ks (elF es) kv ev) := fun Y hY => hP.kept hY
  have HES := show Hid _ from hes
  have htk : tq < ks.length := by rw [← hN]; exact htN
  obtain ⟨sb, sc', hsv, _, _⟩ := hP.st htk
  simp only [Value.slice.injEq] at hsv
  obtain ⟨rfl, _, rfl⟩ := hsv
  obtain ⟨ea, ec, hev, _⟩ := hP.edgAt htk
  obtain ⟨E, hE⟩ : ∃ E, E = (elF es tq).length := ⟨_, rfl⟩
  have HE : Hid (E = (es.getD tq []).length) := by show _ = _; rw [hE]; exact elF_len _ _
  have hEb : E ≤ 130 := by rw [HE.out]; exact hes tq htk
  have HEC : Hid (∀ Y, w.grownBy Y none → Y.cell? ⟨sb, tq * 2 + 1, none⟩ = some (.slice ea E ec) ∧ ItsAt Y ea (elF es tq)) := fun Y hY => by
    have h := HP.out Y hY
    obtain ⟨sb2, sc2, h1, _, h3⟩ := h.st htk
    simp only [Value.slice.injEq, Option.some.injEq, Addr.mk.injEq] at h1
    obtain ⟨⟨rfl, _⟩, _⟩ := h1
    obtain ⟨ea2, ec2, h4, h5⟩ := h.edgAt htk
    rw [hev] at h3 h4
    simp only [Value.slice.injEq] at h4
    rw [← hE] at h3
    exact ⟨h3, by rw [h4.1]; exact h5⟩
  have HWK : Hid (∀ Y b, w.grownBy Y none → IntsAt Y (some ⟨b, 0, none⟩) [st] → Calls Tryz.prog 24 #[.agg #[.slice ta tn tc, .slice na nn nc, .slice la ln lc, .int .i64 st, .slice pa n pc, .slice (some ⟨sb, 0, none⟩) N sc, .map (some lb)], .int .i64 0, .slice (some ⟨b, 0, none⟩) 1 1] Y fun e y => e = .returned (.int .i64 (tq : Int)) ∧ Y.grownBy y none) := fun Y b hY hI => by
    have h := walk_any ta na la pa (some ⟨sb, 0, none⟩) tc nc lc pc sc n N lb st Y tn nn ln m es (hL.kept hY (by simp)) hOK 0 (by omega) (some ⟨b, 0, none⟩) 1 [st] hI (by simp) (fun x hx => by rw [List.mem_singleton.1 hx]; exact hsw)
    have e1 : wayF es (some ((0 : Nat) : Int)) [st] = some (tq : Int) := hto
    rw [e1] at h
    exact h
  obtain ⟨i0, hi0, hz0, hz1, hz2⟩ := info_parts infoInt
  obtain ⟨W, hW⟩ : ∃ W, W = (w.alloc (.cells #[.slice ta tn tc, .slice na nn nc, .slice la ln lc, .int .i64 st, .slice pa n pc, .slice (some ⟨sb, 0, none⟩) N sc, .map (some lb)] 56)).alloc (.cells #[.int .i64 0, .int .i64 st] 39) := ⟨_, rfl⟩
  have HGW : Hid (w.grownBy W none) := by rw [hW]; exact grown_trans (World.grownBy_alloc _ _ none) (World.grownBy_alloc _ _ none)
  have HB7 : Hid (W.heap[w.heap.size]? = some (.cells #[.slice ta tn tc, .slice na nn nc, .slice la ln lc, .int .i64 st, .slice pa n pc, .slice (some ⟨sb, 0, none⟩) N sc, .map (some lb)] 56 (0, 0))) := by rw [hW]; exact box_kept (heap_alloc_last w _) (World.grownBy_alloc _ _ none)
  have HB2 : Hid (W.heap[w.heap.size + 1]? = some (.cells #[.int .i64 0, .int .i64 st] 39 (0, 0))) := by
    rw [hW]
    have h := heap_alloc_last (w.alloc (.cells #[.slice ta tn tc, .slice na nn nc, .slice la ln lc, .int .i64 st, .slice pa n pc, .slice (some ⟨sb, 0, none⟩) N sc, .map (some lb)] 56)) (.cells #[.int .i64 0, .int .i64 st] 39)
    rw [World.size_alloc] at h; exact h
  have HWE := show Hid _ from hW
  have HCS : Hid (∀ Y, W.grownBy Y none → (Y.cell? ⟨w.heap.size, 0, none⟩ = some (.slice ta tn tc) ∧ Y.cell? ⟨w.heap.size, 1, none⟩ = some (.slice na nn nc) ∧ Y.cell? ⟨w.heap.size, 2, none⟩ = some (.slice la ln lc) ∧ Y.cell? ⟨w.heap.size, 3, none⟩ = some (.int .i64 st) ∧ Y.cell? ⟨w.heap.size, 4, none⟩ = some (.slice pa n pc) ∧ Y.cell? ⟨w.heap.size, 5, none⟩ = some (.slice (some ⟨sb, 0, none⟩) N sc) ∧ Y.cell? ⟨w.heap.size, 6, none⟩ = some (.map (some lb))) ∧ Y.cell? ⟨w.heap.size + 1, 0, none⟩ = some (.int .i64 0) ∧ Y.cell? ⟨w.heap.size + 1, 1, none⟩ = some (.int .i64 st) ∧ Y.cell? ⟨sb, tq * 2 + 1, none⟩ = some (.slice ea E ec)) := fun Y hY => ⟨cells7 (box_kept HB7.out hY), by rw [cell_of_row _ _ _ _ _ _ (box_kept HB2.out hY)]; rfl, by rw [cell_of_row _ _ _ _ _ _ (box_kept HB2.out hY)]; rfl, (HEC.out Y (grown_trans HGW.out hY)).1⟩
  have hEQ : ∀ X : World, (binOp .eql 39 (.agg #[.int .i64 0, .int .i64 st]) (.agg #[.int .i64 0, .int .i64 st])).run Tryz.prog X = .ok (.bool true) X := fun X => by
    have h := eq_trans 0 st 0 st X
    simpa using h
  have hWs : W.heap.size = w.heap.size + 1 + 1 := by rw [HWE.out, World.size_alloc, World.size_alloc]
  have HWS : Hid (W.heap.size = w.heap.size + 1 + 1) := hWs
  have HNB : Hid ((((w.alloc (.cells #[.slice ta tn tc, .slice na nn nc, .slice la ln lc, .int .i64 st, .slice pa n pc, .slice (some ⟨sb, 0, none⟩) N sc, .map (some lb)] 56)).alloc (.cells #[.int .i64 0, .int .i64 st] 39)).alloc (.cells #[.int .i64 0] 3)).heap[w.heap.size + 1 + 1]? = some (.cells #[.int .i64 0] 3 (0, 0))) := by
    have h := heap_alloc_last ((w.alloc (.cells #[.slice ta tn tc, .slice na nn nc, .slice la ln lc, .int .i64 st, .slice pa n pc, .slice (some ⟨sb, 0, none⟩) N sc, .map (some lb)] 56)).alloc (.cells #[.int .i64 0, .int .i64 st] 39)) (.cells #[.int .i64 0] 3)
    rw [World.size_alloc, World.size_alloc] at h; exact h
  clear hWs
  have ht0 : (0 : Int) ≤ (tq : Int) := by omega
  have ht1 : (tq : Int) < (N : Int) := by omega
  clear hP hes hN hL hOK hto htk hev hE hW HP HB7 HB2
  go_enter Tryz.func19, Tryz.ntmps19
  go_wp2_with (at_builtin; refine wpList_append_lies _ rfl (.tmp 14) (.tmp 15) 24 rfl (w.heap.size + 1 + 1) 3 i0 (.int .i64 0) 1 8 Tryz.underlying24 hi0 hz0 hz1 hz2 rfl (by decide) (.slice none 0 0) 0 [] rfl (World.ownsRow_nil _ _ _ _) ⟨w.heap.size + 1 + 1, 0, none⟩ 1 1 [.int .i64 0] rfl rfl (World.news_of_block HNB.out) (by simp [Value.oneCell']) (by decide) (by unfold maxLen; omega) (by omega) (by simp) _ rfl ?_)
  intro g0 c0 Z hoZ hgZ _ _
  have HGZ : Hid (W.grownBy Z none) := by rw [HWE.out]; exact grown_trans (World.grownBy_alloc _ _ none) hgZ
  have HO0 : Hid (Z.ownsRow W.heap.size 3 1 (.slice (some ⟨g0, 0, none⟩) 1 c0) 1 (intV (preF true))) := by rw [HWS.out]; exact hoZ
  have HL0 : Hid (1 = (preF true).length) := rfl
  clear hoZ hgZ HWE HWS HNB
  go_wp2_with fail
  have HGZ2 : Hid (W.grownBy (Z.alloc (.cells #[.int .i64 st] 3)).drew none) := grown_trans HGZ.out (grown_trans (World.grownBy_alloc _ _ none) (grown_drewN _ 1))
  have HGZ1 : Hid (W.grownBy Z.drew none) := grown_trans HGZ.out (grown_drewN _ 1)
  have HGZ3 : Hid (W.grownBy (Z.drew.alloc (.cells #[.int .i64 st] 3)) none) := grown_trans HGZ1.out (World.grownBy_alloc _ _ none)
  have HIA : Hid (IntsAt (Z.alloc (.cells #[.int .i64 st] 3)).drew (some ⟨Z.heap.size, 0, none⟩) [st]) := .inr ⟨Z.heap.size, 0, rfl, fun i hi => by
    have h2 : i = 0 := by simp at hi; omega
    subst h2
    have h3 : (Z.alloc (.cells #[.int .i64 st] 3)).drew.heap[Z.heap.size]? = some (.cells #[.int .i64 st] 3 (0, 0)) := heap_alloc_last Z _
    rw [cell_of_row _ _ _ _ _ _ h3]; rfl⟩
  go_region_held3 (fun Y => (Y.cell? ⟨w.heap.size, 0, none⟩ = some (.slice ta tn tc) ∧ Y.cell? ⟨w.heap.size, 1, none⟩ = some (.slice na nn nc) ∧ Y.cell? ⟨w.heap.size, 2, none⟩ = some (.slice la ln lc) ∧ Y.cell? ⟨w.heap.size, 3, none⟩ = some (.int .i64 st) ∧ Y.cell? ⟨w.heap.size, 4, none⟩ = some (.slice pa n pc) ∧ Y.cell? ⟨w.heap.size, 5, none⟩ = some (.slice (some ⟨sb, 0, none⟩) N sc) ∧ Y.cell? ⟨w.heap.size, 6, none⟩ = some (.map (some lb))) ∧ Y.cell? ⟨w.heap.size + 1, 0, none⟩ = some (.int .i64 0) ∧ Y.cell? ⟨w.heap.size + 1, 1, none⟩ = some (.int .i64 st) ∧ Y.cell? ⟨sb, tq * 2 + 1, none⟩ = some (.slice ea E ec)) (first | exact HCS.out _ HGZ1.out | exact HCS.out _ HGZ2.out | exact HCS.out _ HGZ3.out | exact HCS.out _ HG4.out | go_keep)
    ((first
      | (go_at_call 24; refine Calls.mono (HWK.out _ _ (grown_trans HGW.out HGZ2.out) HIA.out) ?_; rintro e w4 ⟨rfl, hg4⟩; have HG4 : Hid (W.grownBy w4 none) := grown_trans HGZ2.out hg4; have HO4 : Hid (w4.ownsRow W.heap.size 3 1 (.slice (some ⟨g0, 0, none⟩) 1 c0) 1 (intV (preF true))) := keep0 HO0.out (grown_trans (World.grownBy_alloc _ _ none) (grown_trans (grown_drewN _ 1) hg4)); clear hg4)
      | fail))
  clear HGZ1 HGZ2 HGZ3 HIA HO0 HGZ HWK
  go_wp2_with fail
  go_loopg [5, 30] E (fun gk v5 v30 wr => ∃ (j L : Nat) (a : Option Addr) (c : Nat), j ≤ E ∧ gk = E - j ∧ v30 = .int .i64 j ∧ v5 = .slice a L c ∧ L = (preF true ++ dirL tn ((es.getD tq []).take j)).length ∧ wr.ownsRow W.heap.size 3 1 (.slice a L c) L (intV (preF true ++ dirL tn ((es.getD tq []).take j))) ∧ W.grownBy wr none)
  case atStart => exact ⟨0, 1, some ⟨g0, 0, none⟩, c0, Nat.zero_le _, rfl, rfl, rfl, by simpa [dirL] using HL0.out, by simpa [dirL] using HO4.out, HG4.out⟩
  case round =>
    obtain ⟨j, L2, a2, c2, hj, hgj, rfl, rfl, hL2, hown2, hg2⟩ := hrel
    have HGJ : Hid (gk = E - j) := hgj
    have HL2 : Hid (L2 = (preF true ++ dirL tn ((es.getD tq []).take j)).length) := hL2
    have HO2 : Hid (wr.ownsRow W.heap.size 3 1 (.slice a2 L2 c2) L2 (intV (preF true ++ dirL tn ((es.getD tq []).take j)))) := hown2
    have HG2 : Hid (W.grownBy wr none) := hg2
    have hL2b : L2 ≤ 131 := by
      rw [hL2, List.length_append]
      have h1 := dirL_len tn ((es.getD tq []).take j)
      have h2 : ((es.getD tq []).take j).length ≤ j := by rw [List.length_take]; omega
      have h3 := preF_len (true)
      omega
    clear hgj hL2 hown2 hg2 HO4
    by_cases hlj : j < E
    · have hjd : decide (j < E) = true := decide_eq_true hlj
      have hj0 : (0 : Int) ≤ (j : Int) := by omega
      have hj1 : (j : Int) < (E : Int) := by omega
      have hje : j < (es.getD tq []).length := by rw [← HE.out]; exact hlj
      obtain ⟨eb, eo, hea, d0, d1⟩ := (HEC.out wr (grown_trans HGW.out HG2.out)).2.cellAt (i := j) (by rw [elF_len]; exact hje)
      subst hea
      rw [(elF_at hje).2] at d0 d1
      obtain ⟨x, hx⟩ : ∃ x, x = (es.getD tq []).getD j (0, 0) := ⟨_, rfl⟩
      rw [← hx] at d0 d1
      obtain ⟨u, t⟩ := x
      simp only at d0 d1
      have HTK : Hid (dirL tn ((es.getD tq []).take (j + 1)) = dirL tn ((es.getD tq []).take j) ++ (if u < tn then [(u : Int)] else [])) := by
        show _ = _
        rw [take_snocE hje hx.symm, dirL_snoc]
      have HA : Hid (W.grownBy (wr.alloc (.cells #[.int .i64 (u : Int), .int .i64 (t : Int)] 78)) none) := grown_trans HG2.out (World.grownBy_alloc _ _ none)
      obtain ⟨⟨k0, k1, k2, k3, k4, k5, k6⟩, _⟩ := HCS.out _ HA.out
      by_cases hts : u < tn
      · have HIT := show Hid _ from isTerm_any ta na la pa (some ⟨sb, 0, none⟩) tc nc lc pc sc n N lb st (wr.alloc (.cells #[.int .i64 (u : Int), .int .i64 (t : Int)] 78)) tn nn ln (u : Int) true (decide_eq_true (by omega)).symm
        clear hx hje
        go_wp2_with fail
        refine Calls.mono HIT.out ?_
        rintro e w5 ⟨rfl, hg5⟩
        have HG5 : Hid (W.grownBy w5 none) := grown_trans HA.out hg5
        have HO5 : Hid (w5.ownsRow W.heap.size 3 1 (.slice a2 L2 c2) L2 (intV (preF true ++ dirL tn ((es.getD tq []).take j)))) := keep0 HO2.out (grown_trans (World.grownBy_alloc _ _ none) hg5)
        have hbx : w5.heap[wr.heap.size]? = some (.cells #[.int .i64 (u : Int), .int .i64 (t : Int)] 78 (0, 0)) := box_kept (heap_alloc_last wr _) hg5
        have r0 : w5.cell? ⟨wr.heap.size, 0, none⟩ = some (.int .i64 (u : Int)) := by rw [cell_of_row _ _ _ _ _ _ hbx]; rfl
        have hsz := HG5.out.size
        clear hg5 hbx HIT k0 k1 k2 k3 k4 k5 k6 d0 d1
        go_wp2_with (at_builtin; refine wpList_append_lies _ rfl (.tmp 38) (.tmp 41) 24 rfl W.heap.size 3 i0 (.int .i64 0) 1 8 Tryz.underlying24 hi0 hz0 hz1 hz2 rfl (by decide) (.slice a2 L2 c2) L2 (intV (preF true ++ dirL tn ((es.getD tq []).take j))) rfl (HO5.out.alloc _) ⟨w5.heap.size, 0, none⟩ 1 1 [.int .i64 (u : Int)] rfl rfl (World.news_of_block (heap_alloc_last w5 _)) (by simp [Value.oneCell']) (by decide) (by unfold maxLen; omega) (by omega) (by simp; omega) _ rfl ?_)
        intro g7 c7 V hoV hgV _ _
        have HOV : Hid (V.ownsRow W.heap.size 3 1 (.slice (some ⟨g7, 0, none⟩) (L2 + 1) c7) (L2 + 1) (intV (preF true ++ dirL tn ((es.getD tq []).take (j + 1))))) := by
          rw [HTK.out, if_pos hts, ← List.append_assoc, intV_append]; exact hoV
        have HLV : Hid (L2 + 1 = (preF true ++ dirL tn ((es.getD tq []).take (j + 1))).length) := by
          show _ = _
          rw [HTK.out, if_pos hts, ← List.append_assoc, List.length_append, ← HL2.out]; rfl
        have HGV : Hid (W.grownBy V none) := grown_owned (grown_trans HG5.out (World.grownBy_alloc _ _ none)) (HO5.out.alloc _) (Nat.le_refl _) hgV
        clear hoV hgV r0
        go_wp2_with fail
        go_roundg (E - (j + 1))
        case measure => have := HGJ.out; omega
        case rel => exact ⟨j + 1, L2 + 1, some ⟨g7, 0, none⟩, c7, by omega, rfl, by go_num, rfl, HLV.out, HOV.out, HGV.out⟩
      · have HIT := show Hid _ from isTerm_any ta na la pa (some ⟨sb, 0, none⟩) tc nc lc pc sc n N lb st (wr.alloc (.cells #[.int .i64 (u : Int), .int .i64 (t : Int)] 78)) tn nn ln (u : Int) false (decide_eq_false (by omega)).symm
        clear hx hje
        go_wp2_with fail
        refine Calls.mono HIT.out ?_
        rintro e w5 ⟨rfl, hg5⟩
        have HG5 : Hid (W.grownBy w5 none) := grown_trans HA.out hg5
        have HO5 : Hid (w5.ownsRow W.heap.size 3 1 (.slice a2 L2 c2) L2 (intV (preF true ++ dirL tn ((es.getD tq []).take (j + 1))))) := by
          rw [HTK.out, if_neg hts, List.append_nil]; exact keep0 HO2.out (grown_trans (World.grownBy_alloc _ _ none) hg5)
        have HL5 : Hid (L2 = (preF true ++ dirL tn ((es.getD tq []).take (j + 1))).length) := by
          show _ = _
          rw [HTK.out, if_neg hts, List.append_nil]; exact HL2.out
        clear hg5 HIT k0 k1 k2 k3 k4 k5 k6 d0 d1
        go_wp2_with fail
        go_roundg (E - (j + 1))
        case measure => have := HGJ.out; omega
        case rel => exact ⟨j + 1, L2, a2, c2, by omega, rfl, by go_num, rfl, HL5.out, HO5.out, HG5.out⟩
    · have hjE : E = j := by omega
      subst hjE
      have hjd : decide (E < E) = false := decide_eq_false (by omega)
      have e9 : (es.getD tq []).take E = es.getD tq [] := by rw [HE.out, List.take_length]
      rw [e9] at HO2 HL2
      clear e9
      go_wp2_with fail
      go_ret
      exact ⟨a2, c2, by rw [← HL2.out]; rfl, by rw [← HL2.out]; exact owns_base HO2.out HGW.out.size, grown_trans HGW.out HG2.out⟩
end

end Go.Proofs.YtfcholpleeiddaaGreat.J
