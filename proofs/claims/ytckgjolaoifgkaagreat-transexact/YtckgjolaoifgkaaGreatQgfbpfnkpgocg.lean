import Derived.Test.YtckgjolaoifgkaaGreatQaohflkbcgmck
import Derived.Deep.RegionHeld3
import Derived.Test.YtckgjolaoifgkaaGreatQgbonaaddemmh
import Derived.Test.YtckgjolaoifgkaaGreatQofefkebgaaah

/-
  trans: direct.
-/
namespace Go.Proofs.YtckgjolaoifgkaaGreat.J
open Go.RowKit Go.Maps Go.Shelf

attribute [local go_sem] Oper.semAt_some

theorem eq_trans (p d p' d' : Int) (w : World) : (binOp .eql 39 (.agg #[.int .i64 p, .int .i64 d]) (.agg #[.int .i64 p', .int .i64 d'])).run Tryz.prog w = .ok (.bool (p == p' && d == d')) w := by
  have u3 := Tryz.underlying3
  have a3 := Tryz.isAgg3
  have z3 := Tryz.sizeOf3
  have hS : Tryz.prog.underlying 39 = some (.struct (Tryz.prog.fieldsOf 39)) := by kernel_rfl
  have hp : Tryz.prog.stoodInHeld 39 = false := by kernel_rfl
  rw [run_eql_struct, show (10000 : Nat) = 9999 + 1 from rfl, run_equalIn_agg w 9999 39 _ _ hS hp]
  simp only [Program.fieldsOf, Tryz.underlying39]
  go_simp
  by_cases h1 : p = p' <;> by_cases h2 : d = d' <;> simp [h1, h2]
def intV (l : List Int) : List Value := l.map (Value.int .i64)
theorem intV_append (l m : List Int) : intV (l ++ m) = intV l ++ intV m := by unfold intV; rw [List.map_append]
/-- The terminals among edges. -/
def dirL (tn : Nat) (l : List (Nat × Nat)) : List Int := (l.filter fun x => decide (x.1 < tn)).map fun x => (x.1 : Int)
theorem dirL_snoc (tn : Nat) (l : List (Nat × Nat)) (s t : Nat) : dirL tn (l ++ [(s, t)]) = dirL tn l ++ (if s < tn then [(s : Int)] else []) := by
  unfold dirL
  rw [List.filter_append, List.map_append]
  by_cases h : s < tn
  · rw [if_pos h]; simp [h]
  · rw [if_neg h]; simp [h]
theorem dirL_len (tn : Nat) (l : List (Nat × Nat)) : (dirL tn l).length ≤ l.length := by
  unfold dirL
  rw [List.length_map]
  exact List.length_filter_le _ _
def preF (b : Bool) : List Int := if b then [0] else []
theorem preF_len (b : Bool) : (preF b).length ≤ 1 := by cases b <;> decide
/-- What direct tells. -/
def NumTold (l : List Int) (w : World) (e : Ending) (y : World) : Prop := ∃ (a : Option Addr) (c : Nat), e = .returned (.slice a l.length c) ∧ y.ownsRow w.heap.size 3 1 (.slice a l.length c) l.length (intV l) ∧ w.grownBy y none

section
variable (ta na la pa sa : Option Addr) (tc nc lc pc sc : Nat) (n N lb : Nat) (st : Int) (w : World) (tn nn ln : Nat)

set_option maxRecDepth 100000 in
set_option maxHeartbeats 4000000 in
theorem direct_other (B m : Nat) (ks : List (List It)) (es : List (List (Nat × Nat))) (kv ev : Nat → Value) (hN : N = ks.length) (hN256 : N ≤ 256) (hP : AutP B w (.slice sa ks.length sc) ks (elF es) kv ev) (hes : ∀ q, q < ks.length → (es.getD q []).length ≤ 130) (hL : LdAt w lb m (leadA es)) (hOK : LeadOK es) (q tq : Nat) (s : Int) (hq : q < N) (hsw : (Lit.int .i64 s).wf = true) (hto : leadA es ((q : Int), s) = some (tq : Int)) (htN : tq < N) (hst : ¬ ((q : Int) = 0 ∧ s = st)) :
    Calls Tryz.prog 19 #[.agg #[.slice ta tn tc, .slice na nn nc, .slice la ln lc, .int .i64 st, .slice pa n pc, .slice sa N sc, .map (some lb)], .agg #[.int .i64 (q : Int), .int .i64 s]] w fun e y => NumTold (preF false ++ dirL tn (es.getD tq [])) w e y := by
  have HN : Hid (N = ks.length) := hN
  have HP : Hid (∀ Y, w.grownBy Y none → AutP B Y (.slice sa ks.length sc) ks (elF es) kv ev) := fun Y hY => hP.kept hY
  have HES := show Hid _ from hes
  have htk : tq < ks.length := by rw [← hN]; exact htN
  obtain ⟨sb, sc', hsv, _, _⟩ := hP.st htk
  simp only [Value.slice.injEq] at hsv
  obtain ⟨rfl, _, rfl⟩ := hsv
  obtain ⟨ea, ec, hev, _⟩ := hP.edgAt htk
  obtain ⟨E, hE⟩ : ∃ E, E = (elF es tq).length := ⟨_, rfl⟩
  have HE : Hid (E = (es.getD tq []).length) := by show _ = _; rw [hE]; exact elF_len _ _
  have hEb : E ≤ 130 := by rw [HE.out]; exact hes tq htk
  have HEC : Hid (∀ Y, w.grownBy Y none → Y.cell? ⟨sb, tq * 2 + 1, none⟩ = some (.slice ea E ec) ∧ ItsAt Y ea (elF es tq)) := fun Y hY => by
    have h := HP.out Y hY
    obtain ⟨sb2, sc2, h1, _, h3⟩ := h.st htk
    simp only [Value.slice.injEq, Option.some.injEq, Addr.mk.injEq] at h1
    obtain ⟨⟨rfl, _⟩, _⟩ := h1
    obtain ⟨ea2, ec2, h4, h5⟩ := h.edgAt htk
    rw [hev] at h3 h4
    simp only [Value.slice.injEq] at h4
    rw [← hE] at h3
    exact ⟨h3, by rw [h4.1]; exact h5⟩
  have HWK : Hid (∀ Y b, w.grownBy Y none → IntsAt Y (some ⟨b, 0, none⟩) [s] → Calls Tryz.prog 24 #[.agg #[.slice ta tn tc, .slice na nn nc, .slice la ln lc, .int .i64 st, .slice pa n pc, .slice (some ⟨sb, 0, none⟩) N sc, .map (some lb)], .int .i64 (q : Int), .slice (some ⟨b, 0, none⟩) 1 1] Y fun e y => e = .returned (.int .i64 (tq : Int)) ∧ Y.grownBy y none) := fun Y b hY hI => by
    have h := walk_any ta na la pa (some ⟨sb, 0, none⟩) tc nc lc pc sc n N lb st Y tn nn ln m es (hL.kept hY (by simp)) hOK q (by omega) (some ⟨b, 0, none⟩) 1 [s] hI (by simp) (fun x hx => by rw [List.mem_singleton.1 hx]; exact hsw)
    have e1 : wayF es (some ((q : Nat) : Int)) [s] = some (tq : Int) := hto
    rw [e1] at h
    exact h
  obtain ⟨i0, hi0, hz0, hz1, hz2⟩ := info_parts infoInt
  obtain ⟨W, hW⟩ : ∃ W, W = (w.alloc (.cells #[.slice ta tn tc, .slice na nn nc, .slice la ln lc, .int .i64 st, .slice pa n pc, .slice (some ⟨sb, 0, none⟩) N sc, .map (some lb)] 56)).alloc (.cells #[.int .i64 (q : Int), .int .i64 s] 39) := ⟨_, rfl⟩
  have HGW : Hid (w.grownBy W none) := by rw [hW]; exact grown_trans (World.grownBy_alloc _ _ none) (World.grownBy_alloc _ _ none)
  have HB7 : Hid (W.heap[w.heap.size]? = some (.cells #[.slice ta tn tc, .slice na nn nc, .slice la ln lc, .int .i64 st, .slice pa n pc, .slice (some ⟨sb, 0, none⟩) N sc, .map (some lb)] 56 (0, 0))) := by rw [hW]; exact box_kept (heap_alloc_last w _) (World.grownBy_alloc _ _ none)
  have HB2 : Hid (W.heap[w.heap.size + 1]? = some (.cells #[.int .i64 (q : Int), .int .i64 s] 39 (0, 0))) := by
    rw [hW]
    have h := heap_alloc_last (w.alloc (.cells #[.slice ta tn tc, .slice na nn nc, .slice la ln lc, .int .i64 st, .slice pa n pc, .slice (some ⟨sb, 0, none⟩) N sc, .map (some lb)] 56)) (.cells #[.int .i64 (q : Int), .int .i64 s] 39)
    rw [World.size_alloc] at h; exact h
  have HWE := show Hid _ from hW
  have HCS : Hid (∀ Y, W.grownBy Y none → (Y.cell? ⟨w.heap.size, 0, none⟩ = some (.slice ta tn tc) ∧ Y.cell? ⟨w.heap.size, 1, none⟩ = some (.slice na nn nc) ∧ Y.cell? ⟨w.heap.size, 2, none⟩ = some (.slice la ln lc) ∧ Y.cell? ⟨w.heap.size, 3, none⟩ = some (.int .i64 st) ∧ Y.cell? ⟨w.heap.size, 4, none⟩ = some (.slice pa n pc) ∧ Y.cell? ⟨w.heap.size, 5, none⟩ = some (.slice (some ⟨sb, 0, none⟩) N sc) ∧ Y.cell? ⟨w.heap.size, 6, none⟩ = some (.map (some lb))) ∧ Y.cell? ⟨w.heap.size + 1, 0, none⟩ = some (.int .i64 (q : Int)) ∧ Y.cell? ⟨w.heap.size + 1, 1, none⟩ = some (.int .i64 s) ∧ Y.cell? ⟨sb, tq * 2 + 1, none⟩ = some (.slice ea E ec)) := fun Y hY => ⟨cells7 (box_kept HB7.out hY), by rw [cell_of_row _ _ _ _ _ _ (box_kept HB2.out hY)]; rfl, by rw [cell_of_row _ _ _ _ _ _ (box_kept HB2.out hY)]; rfl, (HEC.out Y (grown_trans HGW.out hY)).1⟩
  obtain ⟨bb, hbb⟩ : ∃ b, b = ((q : Int) == 0 && s == st) := ⟨_, rfl⟩
  have hbf : bb = false := by
    rw [hbb, Bool.and_eq_false_iff, beq_eq_false_iff_ne, beq_eq_false_iff_ne]
    by_cases h : (q : Int) = 0
    · exact .inr fun h2 => hst ⟨h, h2⟩
    · exact .inl h
  have hEQ : ∀ X : World, (binOp .eql 39 (.agg #[.int .i64 (q : Int), .int .i64 s]) (.agg #[.int .i64 0, .int .i64 st])).run Tryz.prog X = .ok (.bool false) X := fun X => by
    rw [← hbf, hbb]; exact eq_trans (q : Int) s 0 st X
  clear hbb hbf hst
  have ht0 : (0 : Int) ≤ (tq : Int) := by omega
  have ht1 : (tq : Int) < (N : Int) := by omega
  clear hP hes hN hL hOK hto htk hev hE hW HP HB7 HB2
  go_enter Tryz.func19, Tryz.ntmps19
  go_wp2_with fail
  rw [← HWE.out]
  obtain ⟨Z, hZ⟩ : ∃ Z, Z = W := ⟨_, rfl⟩
  rw [← hZ]
  have HGZ : Hid (W.grownBy Z none) := by rw [hZ]; exact grown_refl _ _
  have HO0 : Hid (Z.ownsRow W.heap.size 3 1 (.slice none 0 0) 0 (intV (preF false))) := World.ownsRow_nil _ _ _ _
  have HL0 : Hid (0 = (preF false).length) := rfl
  clear hZ HWE
  have HGZ2 : Hid (W.grownBy (Z.alloc (.cells #[.int .i64 s] 3)).drew none) := grown_trans HGZ.out (grown_trans (World.grownBy_alloc _ _ none) (grown_drewN _ 1))
  have HGZ1 : Hid (W.grownBy Z.drew none) := grown_trans HGZ.out (grown_drewN _ 1)
  have HGZ3 : Hid (W.grownBy (Z.drew.alloc (.cells #[.int .i64 s] 3)) none) := grown_trans HGZ1.out (World.grownBy_alloc _ _ none)
  have HIA : Hid (IntsAt (Z.alloc (.cells #[.int .i64 s] 3)).drew (some ⟨Z.heap.size, 0, none⟩) [s]) := .inr ⟨Z.heap.size, 0, rfl, fun i hi => by
    have h2 : i = 0 := by simp at hi; omega
    subst h2
    have h3 : (Z.alloc (.cells #[.int .i64 s] 3)).drew.heap[Z.heap.size]? = some (.cells #[.int .i64 s] 3 (0, 0)) := heap_alloc_last Z _
    rw [cell_of_row _ _ _ _ _ _ h3]; rfl⟩
  go_region_held3 (fun Y => (Y.cell? ⟨w.heap.size, 0, none⟩ = some (.slice ta tn tc) ∧ Y.cell? ⟨w.heap.size, 1, none⟩ = some (.slice na nn nc) ∧ Y.cell? ⟨w.heap.size, 2, none⟩ = some (.slice la ln lc) ∧ Y.cell? ⟨w.heap.size, 3, none⟩ = some (.int .i64 st) ∧ Y.cell? ⟨w.heap.size, 4, none⟩ = some (.slice pa n pc) ∧ Y.cell? ⟨w.heap.size, 5, none⟩ = some (.slice (some ⟨sb, 0, none⟩) N sc) ∧ Y.cell? ⟨w.heap.size, 6, none⟩ = some (.map (some lb))) ∧ Y.cell? ⟨w.heap.size + 1, 0, none⟩ = some (.int .i64 (q : Int)) ∧ Y.cell? ⟨w.heap.size + 1, 1, none⟩ = some (.int .i64 s) ∧ Y.cell? ⟨sb, tq * 2 + 1, none⟩ = some (.slice ea E ec)) (first | exact HCS.out _ HGZ1.out | exact HCS.out _ HGZ2.out | exact HCS.out _ HGZ3.out | exact HCS.out _ HG4.out | go_keep)
    ((first
      | (go_at_call 24; refine Calls.mono (HWK.out _ _ (grown_trans HGW.out HGZ2.out) HIA.out) ?_; rintro e w4 ⟨rfl, hg4⟩; have HG4 : Hid (W.grownBy w4 none) := grown_trans HGZ2.out hg4; have HO4 : Hid (w4.ownsRow W.heap.size 3 1 (.slice none 0 0) 0 (intV (preF false))) := keep0 HO0.out (grown_trans (World.grownBy_alloc _ _ none) (grown_trans (grown_drewN _ 1) hg4)); clear hg4)
      | fail))
  clear HGZ1 HGZ2 HGZ3 HIA HO0 HGZ HWK
  go_wp2_with fail
  go_loopg [5, 30] E (fun gk v5 v30 wr => ∃ (j L : Nat) (a : Option Addr) (c : Nat), j ≤ E ∧ gk = E - j ∧ v30 = .int .i64 j ∧ v5 = .slice a L c ∧ L = (preF false ++ dirL tn ((es.getD tq []).take j)).length ∧ wr.ownsRow W.heap.size 3 1 (.slice a L c) L (intV (preF false ++ dirL tn ((es.getD tq []).take j))) ∧ W.grownBy wr none)
  case atStart => exact ⟨0, 0, none, 0, Nat.zero_le _, rfl, rfl, rfl, by simpa [dirL] using HL0.out, by simpa [dirL] using HO4.out, HG4.out⟩
  case round =>
    obtain ⟨j, L2, a2, c2, hj, hgj, rfl, rfl, hL2, hown2, hg2⟩ := hrel
    have HGJ : Hid (gk = E - j) := hgj
    have HL2 : Hid (L2 = (preF false ++ dirL tn ((es.getD tq []).take j)).length) := hL2
    have HO2 : Hid (wr.ownsRow W.heap.size 3 1 (.slice a2 L2 c2) L2 (intV (preF false ++ dirL tn ((es.getD tq []).take j)))) := hown2
    have HG2 : Hid (W.grownBy wr none) := hg2
    have hL2b : L2 ≤ 131 := by
      rw [hL2, List.length_append]
      have h1 := dirL_len tn ((es.getD tq []).take j)
      have h2 : ((es.getD tq []).take j).length ≤ j := by rw [List.length_take]; omega
      have h3 := preF_len (false)
      omega
    clear hgj hL2 hown2 hg2 HO4
    by_cases hlj : j < E
    · have hjd : decide (j < E) = true := decide_eq_true hlj
      have hj0 : (0 : Int) ≤ (j : Int) := by omega
      have hj1 : (j : Int) < (E : Int) := by omega
      have hje : j < (es.getD tq []).length := by rw [← HE.out]; exact hlj
      obtain ⟨eb, eo, hea, d0, d1⟩ := (HEC.out wr (grown_trans HGW.out HG2.out)).2.cellAt (i := j) (by rw [elF_len]; exact hje)
      subst hea
      rw [(elF_at hje).2] at d0 d1
      obtain ⟨x, hx⟩ : ∃ x, x = (es.getD tq []).getD j (0, 0) := ⟨_, rfl⟩
      rw [← hx] at d0 d1
      obtain ⟨u, t⟩ := x
      simp only at d0 d1
      have HTK : Hid (dirL tn ((es.getD tq []).take (j + 1)) = dirL tn ((es.getD tq []).take j) ++ (if u < tn then [(u : Int)] else [])) := by
        show _ = _
        rw [take_snocE hje hx.symm, dirL_snoc]
      have HA : Hid (W.grownBy (wr.alloc (.cells #[.int .i64 (u : Int), .int .i64 (t : Int)] 78)) none) := grown_trans HG2.out (World.grownBy_alloc _ _ none)
      obtain ⟨⟨k0, k1, k2, k3, k4, k5, k6⟩, _⟩ := HCS.out _ HA.out
      by_cases hts : u < tn
      · have HIT := show Hid _ from isTerm_any ta na la pa (some ⟨sb, 0, none⟩) tc nc lc pc sc n N lb st (wr.alloc (.cells #[.int .i64 (u : Int), .int .i64 (t : Int)] 78)) tn nn ln (u : Int) true (decide_eq_true (by omega)).symm
        clear hx hje
        go_wp2_with fail
        refine Calls.mono HIT.out ?_
        rintro e w5 ⟨rfl, hg5⟩
        have HG5 : Hid (W.grownBy w5 none) := grown_trans HA.out hg5
        have HO5 : Hid (w5.ownsRow W.heap.size 3 1 (.slice a2 L2 c2) L2 (intV (preF false ++ dirL tn ((es.getD tq []).take j)))) := keep0 HO2.out (grown_trans (World.grownBy_alloc _ _ none) hg5)
        have hbx : w5.heap[wr.heap.size]? = some (.cells #[.int .i64 (u : Int), .int .i64 (t : Int)] 78 (0, 0)) := box_kept (heap_alloc_last wr _) hg5
        have r0 : w5.cell? ⟨wr.heap.size, 0, none⟩ = some (.int .i64 (u : Int)) := by rw [cell_of_row _ _ _ _ _ _ hbx]; rfl
        have hsz := HG5.out.size
        clear hg5 hbx HIT k0 k1 k2 k3 k4 k5 k6 d0 d1
        go_wp2_with (at_builtin; refine wpList_append_lies _ rfl (.tmp 38) (.tmp 41) 24 rfl W.heap.size 3 i0 (.int .i64 0) 1 8 Tryz.underlying24 hi0 hz0 hz1 hz2 rfl (by decide) (.slice a2 L2 c2) L2 (intV (preF false ++ dirL tn ((es.getD tq []).take j))) rfl (HO5.out.alloc _) ⟨w5.heap.size, 0, none⟩ 1 1 [.int .i64 (u : Int)] rfl rfl (World.news_of_block (heap_alloc_last w5 _)) (by simp [Value.oneCell']) (by decide) (by unfold maxLen; omega) (by omega) (by simp; omega) _ rfl ?_)
        intro g7 c7 V hoV hgV _ _
        have HOV : Hid (V.ownsRow W.heap.size 3 1 (.slice (some ⟨g7, 0, none⟩) (L2 + 1) c7) (L2 + 1) (intV (preF false ++ dirL tn ((es.getD tq []).take (j + 1))))) := by
          rw [HTK.out, if_pos hts, ← List.append_assoc, intV_append]; exact hoV
        have HLV : Hid (L2 + 1 = (preF false ++ dirL tn ((es.getD tq []).take (j + 1))).length) := by
          show _ = _
          rw [HTK.out, if_pos hts, ← List.append_assoc, List.length_append, ← HL2.out]; rfl
        have HGV : Hid (W.grownBy V none) := grown_owned (grown_trans HG5.out (World.grownBy_alloc _ _ none)) (HO5.out.alloc _) (Nat.le_refl _) hgV
        clear hoV hgV r0
        go_wp2_with fail
        go_roundg (E - (j + 1))
        case measure => have := HGJ.out; omega
        case rel => exact ⟨j + 1, L2 + 1, some ⟨g7, 0, none⟩, c7, by omega, rfl, by go_num, rfl, HLV.out, HOV.out, HGV.out⟩
      · have HIT := show Hid _ from isTerm_any ta na la pa (some ⟨sb, 0, none⟩) tc nc lc pc sc n N lb st (wr.alloc (.cells #[.int .i64 (u : Int), .int .i64 (t : Int)] 78)) tn nn ln (u : Int) false (decide_eq_false (by omega)).symm
        clear hx hje
        go_wp2_with fail
        refine Calls.mono HIT.out ?_
        rintro e w5 ⟨rfl, hg5⟩
        have HG5 : Hid (W.grownBy w5 none) := grown_trans HA.out hg5
        have HO5 : Hid (w5.ownsRow W.heap.size 3 1 (.slice a2 L2 c2) L2 (intV (preF false ++ dirL tn ((es.getD tq []).take (j + 1))))) := by
          rw [HTK.out, if_neg hts, List.append_nil]; exact keep0 HO2.out (grown_trans (World.grownBy_alloc _ _ none) hg5)
        have HL5 : Hid (L2 = (preF false ++ dirL tn ((es.getD tq []).take (j + 1))).length) := by
          show _ = _
          rw [HTK.out, if_neg hts, List.append_nil]; exact HL2.out
        clear hg5 HIT k0 k1 k2 k3 k4 k5 k6 d0 d1
        go_wp2_with fail
        go_roundg (E - (j + 1))
        case measure => have := HGJ.out; omega
        case rel => exact ⟨j + 1, L2, a2, c2, by omega, rfl, by go_num, rfl, HL5.out, HO5.out, HG5.out⟩
    · have hjE : E = j := by omega
      subst hjE
      have hjd : decide (E < E) = false := decide_eq_false (by omega)
      have e9 : (es.getD tq []).take E = es.getD tq [] := by rw [HE.out, List.take_length]
      rw [e9] at HO2 HL2
      clear e9
      go_wp2_with fail
      go_ret
      exact ⟨a2, c2, by rw [← HL2.out]; rfl, by rw [← HL2.out]; exact owns_base HO2.out HGW.out.size, grown_trans HGW.out HG2.out⟩
set_option maxRecDepth 100000 in
set_option maxHeartbeats 4000000 in
theorem direct_start (B m : Nat) (ks : List (List It)) (es : List (List (Nat × Nat))) (kv ev : Nat → Value) (hN : N = ks.length) (hP : AutP B w (.slice sa ks.length sc) ks (elF es) kv ev) (hes : ∀ q, q < ks.length → (es.getD q []).length ≤ 130) (hL : LdAt w lb m (leadA es)) (hOK : LeadOK es) (tq : Nat) (hsw : (Lit.int .i64 st).wf = true) (hto : leadA es (0, st) = some (tq : Int)) (htN : tq < N) :
    Calls Tryz.prog 19 #[.agg #[.slice ta tn tc, .slice na nn nc, .slice la ln lc, .int .i64 st, .slice pa n pc, .slice sa N sc, .map (some lb)], .agg #[.int .i64 0, .int .i64 st]] w fun e y => NumTold (preF true ++ dirL tn (es.getD tq [])) w e y := by
  have HN : Hid (N = ks.length) := hN
  have HP : Hid (∀ Y, w.grownBy Y none → AutP B Y (.slice sa ks.length sc) ks (elF es) kv ev) := fun Y hY => hP.kept hY
  have HES := show Hid _ from hes
  have htk : tq < ks.length := by rw [← hN]; exact htN
  obtain ⟨sb, sc', hsv, _, _⟩ := hP.st htk
  simp only [Value.slice.injEq] at hsv
  obtain ⟨rfl, _, rfl⟩ := hsv
  obtain ⟨ea, ec, hev, _⟩ := hP.edgAt htk
  obtain ⟨E, hE⟩ : ∃ E, E = (elF es tq).length := ⟨_, rfl⟩
  have HE : Hid (E = (es.getD tq []).length) := by show _ = _; rw [hE]; exact elF_len _ _
  have hEb : E ≤ 130 := by rw [HE.out]; exact hes tq htk
  have HEC : Hid (∀ Y, w.grownBy Y none → Y.cell? ⟨sb, tq * 2 + 1, none⟩ = some (.slice ea E ec) ∧ ItsAt Y ea (elF es tq)) := fun Y hY => by
    have h := HP.out Y hY
    obtain ⟨sb2, sc2, h1, _, h3⟩ := h.st htk
    simp only [Value.slice.injEq, Option.some.injEq, Addr.mk.injEq] at h1
    obtain ⟨⟨rfl, _⟩, _⟩ := h1
    obtain ⟨ea2, ec2, h4, h5⟩ := h.edgAt htk
    rw [hev] at h3 h4
    simp only [Value.slice.injEq] at h4
    rw [← hE] at h3
    exact ⟨h3, by rw [h4.1]; exact h5⟩
  have HWK : Hid (∀ Y b, w.grownBy Y none → IntsAt Y (some ⟨b, 0, none⟩) [st] → Calls Tryz.prog 24 #[.agg #[.slice ta tn tc, .slice na nn nc, .slice la ln lc, .int .i64 st, .slice pa n pc, .slice (some ⟨sb, 0, none⟩) N sc, .map (some lb)], .int .i64 0, .slice (some ⟨b, 0, none⟩) 1 1] Y fun e y => e = .returned (.int .i64 (tq : Int)) ∧ Y.grownBy y none) := fun Y b hY hI => by
    have h := walk_any ta na la pa (some ⟨sb, 0, none⟩) tc nc lc pc sc n N lb st Y tn nn ln m es (hL.kept hY (by simp)) hOK 0 (by omega) (some ⟨b, 0, none⟩) 1 [st] hI (by simp) (fun x hx => by rw [List.mem_singleton.1 hx]; exact hsw)
    have e1 : wayF es (some ((0 : Nat) : Int)) [st] = some (tq : Int) := hto
    rw [e1] at h
    exact h
  obtain ⟨i0, hi0, hz0, hz1, hz2⟩ := info_parts infoInt
  obtain ⟨W, hW⟩ : ∃ W, W = (w.alloc (.cells #[.slice ta tn tc, .slice na nn nc, .slice la ln lc, .int .i64 st, .slice pa n pc, .slice (some ⟨sb, 0, none⟩) N sc, .map (some lb)] 56)).alloc (.cells #[.int .i64 0, .int .i64 st] 39) := ⟨_, rfl⟩
  have HGW : Hid (w.grownBy W none) := by rw [hW]; exact grown_trans (World.grownBy_alloc _ _ none) (World.grownBy_alloc _ _ none)
  have HB7 : Hid (W.heap[w.heap.size]? = some (.cells #[.slice ta tn tc, .slice na nn nc, .slice la ln lc, .int .i64 st, .slice pa n pc, .slice (some ⟨sb, 0, none⟩) N sc, .map (some lb)] 56 (0, 0))) := by rw [hW]; exact box_kept (heap_alloc_last w _) (World.grownBy_alloc _ _ none)
  have HB2 : Hid (W.heap[w.heap.size + 1]? = some (.cells #[.int .i64 0, .int .i64 st] 39 (0, 0))) := by
    rw [hW]
    have h := heap_alloc_last (w.alloc (.cells #[.slice ta tn tc, .slice na nn nc, .slice la ln lc, .int .i64 st, .slice pa n pc, .slice (some ⟨sb, 0, none⟩) N sc, .map (some lb)] 56)) (.cells #[.int .i64 0, .int .i64 st] 39)
    rw [World.size_alloc] at h; exact h
  have HWE := show Hid _ from hW
  have HCS : Hid (∀ Y, W.grownBy Y none → (Y.cell? ⟨w.heap.size, 0, none⟩ = some (.slice ta tn tc) ∧ Y.cell? ⟨w.heap.size, 1, none⟩ = some (.slice na nn nc) ∧ Y.cell? ⟨w.heap.size, 2, none⟩ = some (.slice la ln lc) ∧ Y.cell? ⟨w.heap.size, 3, none⟩ = some (.int .i64 st) ∧ Y.cell? ⟨w.heap.size, 4, none⟩ = some (.slice pa n pc) ∧ Y.cell? ⟨w.heap.size, 5, none⟩ = some (.slice (some ⟨sb, 0, none⟩) N sc) ∧ Y.cell? ⟨w.heap.size, 6, none⟩ = some (.map (some lb))) ∧ Y.cell? ⟨w.heap.size + 1, 0, none⟩ = some (.int .i64 0) ∧ Y.cell? ⟨w.heap.size + 1, 1, none⟩ = some (.int .i64 st) ∧ Y.cell? ⟨sb, tq * 2 + 1, none⟩ = some (.slice ea E ec)) := fun Y hY => ⟨cells7 (box_kept HB7.out hY), by rw [cell_of_row _ _ _ _ _ _ (box_kept HB2.out hY)]; rfl, by rw [cell_of_row _ _ _ _ _ _ (box_kept HB2.out hY)]; rfl, (HEC.out Y (grown_trans HGW.out hY)).1⟩
  have hEQ : ∀ X : World, (binOp .eql 39 (.agg #[.int .i64 0, .int .i64 st]) (.agg #[.int .i64 0, .int .i64 st])).run Tryz.prog X = .ok (.bool true) X := fun X => by
    have h := eq_trans 0 st 0 st X
    simpa using h
  have hWs : W.heap.size = w.heap.size + 1 + 1 := by rw [HWE.out, World.size_alloc, World.size_alloc]
  have HWS : Hid (W.heap.size = w.heap.size + 1 + 1) := hWs
  have HNB : Hid ((((w.alloc (.cells #[.slice ta tn tc, .slice na nn nc, .slice la ln lc, .int .i64 st, .slice pa n pc, .slice (some ⟨sb, 0, none⟩) N sc, .map (some lb)] 56)).alloc (.cells #[.int .i64 0, .int .i64 st] 39)).alloc (.cells #[.int .i64 0] 3)).heap[w.heap.size + 1 + 1]? = some (.cells #[.int .i64 0] 3 (0, 0))) := by
    have h := heap_alloc_last ((w.alloc (.cells #[.slice ta tn tc, .slice na nn nc, .slice la ln lc, .int .i64 st, .slice pa n pc, .slice (some ⟨sb, 0, none⟩) N sc, .map (some lb)] 56)).alloc (.cells #[.int .i64 0, .int .i64 st] 39)) (.cells #[.int .i64 0] 3)
    rw [World.size_alloc, World.size_alloc] at h; exact h
  clear hWs
  have ht0 : (0 : Int) ≤ (tq : Int) := by omega
  have ht1 : (tq : Int) < (N : Int) := by omega
  clear hP hes hN hL hOK hto htk hev hE hW HP HB7 HB2
  go_enter Tryz.func19, Tryz.ntmps19
  go_wp2_with (at_builtin; refine wpList_append_lies _ rfl (.tmp 14) (.tmp 15) 24 rfl (w.heap.size + 1 + 1) 3 i0 (.int .i64 0) 1 8 Tryz.underlying24 hi0 hz0 hz1 hz2 rfl (by decide) (.slice none 0 0) 0 [] rfl (World.ownsRow_nil _ _ _ _) ⟨w.heap.size + 1 + 1, 0, none⟩ 1 1 [.int .i64 0] rfl rfl (World.news_of_block HNB.out) (by simp [Value.oneCell']) (by decide) (by unfold maxLen; omega) (by omega) (by simp) _ rfl ?_)
  intro g0 c0 Z hoZ hgZ _ _
  have HGZ : Hid (W.grownBy Z none) := by rw [HWE.out]; exact grown_trans (World.grownBy_alloc _ _ none) hgZ
  have HO0 : Hid (Z.ownsRow W.heap.size 3 1 (.slice (some ⟨g0, 0, none⟩) 1 c0) 1 (intV (preF true))) := by rw [HWS.out]; exact hoZ
  have HL0 : Hid (1 = (preF true).length) := rfl
  clear hoZ hgZ HWE HWS HNB
  go_wp2_with fail
  have HGZ2 : Hid (W.grownBy (Z.alloc (.cells #[.int .i64 st] 3)).drew none) := grown_trans HGZ.out (grown_trans (World.grownBy_alloc _ _ none) (grown_drewN _ 1))
  have HGZ1 : Hid (W.grownBy Z.drew none) := grown_trans HGZ.out (grown_drewN _ 1)
  have HGZ3 : Hid (W.grownBy (Z.drew.alloc (.cells #[.int .i64 st] 3)) none) := grown_trans HGZ1.out (World.grownBy_alloc _ _ none)
  have HIA : Hid (IntsAt (Z.alloc (.cells #[.int .i64 st] 3)).drew (some ⟨Z.heap.size, 0, none⟩) [st]) := .inr ⟨Z.heap.size, 0, rfl, fun i hi => by
    have h2 : i = 0 := by simp at hi; omega
    subst h2
    have h3 : (Z.alloc (.cells #[.int .i64 st] 3)).drew.heap[Z.heap.size]? = some (.cells #[.int .i64 st] 3 (0, 0)) := heap_alloc_last Z _
    rw [cell_of_row _ _ _ _ _ _ h3]; rfl⟩
  go_region_held3 (fun Y => (Y.cell? ⟨w.heap.size, 0, none⟩ = some (.slice ta tn tc) ∧ Y.cell? ⟨w.heap.size, 1, none⟩ = some (.slice na nn nc) ∧ Y.cell? ⟨w.heap.size, 2, none⟩ = some (.slice la ln lc) ∧ Y.cell? ⟨w.heap.size, 3, none⟩ = some (.int .i64 st) ∧ Y.cell? ⟨w.heap.size, 4, none⟩ = some (.slice pa n pc) ∧ Y.cell? ⟨w.heap.size, 5, none⟩ = some (.slice (some ⟨sb, 0, none⟩) N sc) ∧ Y.cell? ⟨w.heap.size, 6, none⟩ = some (.map (some lb))) ∧ Y.cell? ⟨w.heap.size + 1, 0, none⟩ = some (.int .i64 0) ∧ Y.cell? ⟨w.heap.size + 1, 1, none⟩ = some (.int .i64 st) ∧ Y.cell? ⟨sb, tq * 2 + 1, none⟩ = some (.slice ea E ec)) (first | exact HCS.out _ HGZ1.out | exact HCS.out _ HGZ2.out | exact HCS.out _ HGZ3.out | exact HCS.out _ HG4.out | go_keep)
    ((first
      | (go_at_call 24; refine Calls.mono (HWK.out _ _ (grown_trans HGW.out HGZ2.out) HIA.out) ?_; rintro e w4 ⟨rfl, hg4⟩; have HG4 : Hid (W.grownBy w4 none) := grown_trans HGZ2.out hg4; have HO4 : Hid (w4.ownsRow W.heap.size 3 1 (.slice (some ⟨g0, 0, none⟩) 1 c0) 1 (intV (preF true))) := keep0 HO0.out (grown_trans (World.grownBy_alloc _ _ none) (grown_trans (grown_drewN _ 1) hg4)); clear hg4)
      | fail))
  clear HGZ1 HGZ2 HGZ3 HIA HO0 HGZ HWK
  go_wp2_with fail
  go_loopg [5, 30] E (fun gk v5 v30 wr => ∃ (j L : Nat) (a : Option Addr) (c : Nat), j ≤ E ∧ gk = E - j ∧ v30 = .int .i64 j ∧ v5 = .slice a L c ∧ L = (preF true ++ dirL tn ((es.getD tq []).take j)).length ∧ wr.ownsRow W.heap.size 3 1 (.slice a L c) L (intV (preF true ++ dirL tn ((es.getD tq []).take j))) ∧ W.grownBy wr none)
  case atStart => exact ⟨0, 1, some ⟨g0, 0, none⟩, c0, Nat.zero_le _, rfl, rfl, rfl, by simpa [dirL] using HL0.out, by simpa [dirL] using HO4.out, HG4.out⟩
  case round =>
    obtain ⟨j, L2, a2, c2, hj, hgj, rfl, rfl, hL2, hown2, hg2⟩ := hrel
    have HGJ : Hid (gk = E - j) := hgj
    have HL2 : Hid (L2 = (preF true ++ dirL tn ((es.getD tq []).take j)).length) := hL2
    have HO2 : Hid (wr.ownsRow W.heap.size 3 1 (.slice a2 L2 c2) L2 (intV (preF true ++ dirL tn ((es.getD tq []).take j)))) := hown2
    have HG2 : Hid (W.grownBy wr none) := hg2
    have hL2b : L2 ≤ 131 := by
      rw [hL2, List.length_append]
      have h1 := dirL_len tn ((es.getD tq []).take j)
      have h2 : ((es.getD tq []).take j).length ≤ j := by rw [List.length_take]; omega
      have h3 := preF_len (true)
      omega
    clear hgj hL2 hown2 hg2 HO4
    by_cases hlj : j < E
    · have hjd : decide (j < E) = true := decide_eq_true hlj
      have hj0 : (0 : Int) ≤ (j : Int) := by omega
      have hj1 : (j : Int) < (E : Int) := by omega
      have hje : j < (es.getD tq []).length := by rw [← HE.out]; exact hlj
      obtain ⟨eb, eo, hea, d0, d1⟩ := (HEC.out wr (grown_trans HGW.out HG2.out)).2.cellAt (i := j) (by rw [elF_len]; exact hje)
      subst hea
      rw [(elF_at hje).2] at d0 d1
      obtain ⟨x, hx⟩ : ∃ x, x = (es.getD tq []).getD j (0, 0) := ⟨_, rfl⟩
      rw [← hx] at d0 d1
      obtain ⟨u, t⟩ := x
      simp only at d0 d1
      have HTK : Hid (dirL tn ((es.getD tq []).take (j + 1)) = dirL tn ((es.getD tq []).take j) ++ (if u < tn then [(u : Int)] else [])) := by
        show _ = _
        rw [take_snocE hje hx.symm, dirL_snoc]
      have HA : Hid (W.grownBy (wr.alloc (.cells #[.int .i64 (u : Int), .int .i64 (t : Int)] 78)) none) := grown_trans HG2.out (World.grownBy_alloc _ _ none)
      obtain ⟨⟨k0, k1, k2, k3, k4, k5, k6⟩, _⟩ := HCS.out _ HA.out
      by_cases hts : u < tn
      · have HIT := show Hid _ from isTerm_any ta na la pa (some ⟨sb, 0, none⟩) tc nc lc pc sc n N lb st (wr.alloc (.cells #[.int .i64 (u : Int), .int .i64 (t : Int)] 78)) tn nn ln (u : Int) true (decide_eq_true (by omega)).symm
        clear hx hje
        go_wp2_with fail
        refine Calls.mono HIT.out ?_
        rintro e w5 ⟨rfl, hg5⟩
        have HG5 : Hid (W.grownBy w5 none) := grown_trans HA.out hg5
        have HO5 : Hid (w5.ownsRow W.heap.size 3 1 (.slice a2 L2 c2) L2 (intV (preF true ++ dirL tn ((es.getD tq []).take j)))) := keep0 HO2.out (grown_trans (World.grownBy_alloc _ _ none) hg5)
        have hbx : w5.heap[wr.heap.size]? = some (.cells #[.int .i64 (u : Int), .int .i64 (t : Int)] 78 (0, 0)) := box_kept (heap_alloc_last wr _) hg5
        have r0 : w5.cell? ⟨wr.heap.size, 0, none⟩ = some (.int .i64 (u : Int)) := by rw [cell_of_row _ _ _ _ _ _ hbx]; rfl
        have hsz := HG5.out.size
        clear hg5 hbx HIT k0 k1 k2 k3 k4 k5 k6 d0 d1
        go_wp2_with (at_builtin; refine wpList_append_lies _ rfl (.tmp 38) (.tmp 41) 24 rfl W.heap.size 3 i0 (.int .i64 0) 1 8 Tryz.underlying24 hi0 hz0 hz1 hz2 rfl (by decide) (.slice a2 L2 c2) L2 (intV (preF true ++ dirL tn ((es.getD tq []).take j))) rfl (HO5.out.alloc _) ⟨w5.heap.size, 0, none⟩ 1 1 [.int .i64 (u : Int)] rfl rfl (World.news_of_block (heap_alloc_last w5 _)) (by simp [Value.oneCell']) (by decide) (by unfold maxLen; omega) (by omega) (by simp; omega) _ rfl ?_)
        intro g7 c7 V hoV hgV _ _
        have HOV : Hid (V.ownsRow W.heap.size 3 1 (.slice (some ⟨g7, 0, none⟩) (L2 + 1) c7) (L2 + 1) (intV (preF true ++ dirL tn ((es.getD tq []).take (j + 1))))) := by
          rw [HTK.out, if_pos hts, ← List.append_assoc, intV_append]; exact hoV
        have HLV : Hid (L2 + 1 = (preF true ++ dirL tn ((es.getD tq []).take (j + 1))).length) := by
          show _ = _
          rw [HTK.out, if_pos hts, ← List.append_assoc, List.length_append, ← HL2.out]; rfl
        have HGV : Hid (W.grownBy V none) := grown_owned (grown_trans HG5.out (World.grownBy_alloc _ _ none)) (HO5.out.alloc _) (Nat.le_refl _) hgV
        clear hoV hgV r0
        go_wp2_with fail
        go_roundg (E - (j + 1))
        case measure => have := HGJ.out; omega
        case rel => exact ⟨j + 1, L2 + 1, some ⟨g7, 0, none⟩, c7, by omega, rfl, by go_num, rfl, HLV.out, HOV.out, HGV.out⟩
      · have HIT := show Hid _ from isTerm_any ta na la pa (some ⟨sb, 0, none⟩) tc nc lc pc sc n N lb st (wr.alloc (.cells #[.int .i64 (u : Int), .int .i64 (t : Int)] 78)) tn nn ln (u : Int) false (decide_eq_false (by omega)).symm
        clear hx hje
        go_wp2_with fail
        refine Calls.mono HIT.out ?_
        rintro e w5 ⟨rfl, hg5⟩
        have HG5 : Hid (W.grownBy w5 none) := grown_trans HA.out hg5
        have HO5 : Hid (w5.ownsRow W.heap.size 3 1 (.slice a2 L2 c2) L2 (intV (preF true ++ dirL tn ((es.getD tq []).take (j + 1))))) := by
          rw [HTK.out, if_neg hts, List.append_nil]; exact keep0 HO2.out (grown_trans (World.grownBy_alloc _ _ none) hg5)
        have HL5 : Hid (L2 = (preF true ++ dirL tn ((es.getD tq []).take (j + 1))).length) := by
          show _ = _
          rw [HTK.out, if_neg hts, List.append_nil]; exact HL2.out
        clear hg5 HIT k0 k1 k2 k3 k4 k5 k6 d0 d1
        go_wp2_with fail
        go_roundg (E - (j + 1))
        case measure => have := HGJ.out; omega
        case rel => exact ⟨j + 1, L2, a2, c2, by omega, rfl, by go_num, rfl, HL5.out, HO5.out, HG5.out⟩
    · have hjE : E = j := by omega
      subst hjE
      have hjd : decide (E < E) = false := decide_eq_false (by omega)
      have e9 : (es.getD tq []).take E = es.getD tq [] := by rw [HE.out, List.take_length]
      rw [e9] at HO2 HL2
      clear e9
      go_wp2_with fail
      go_ret
      exact ⟨a2, c2, by rw [← HL2.out]; rfl, by rw [← HL2.out]; exact owns_base HO2.out HGW.out.size, grown_trans HGW.out HG2.out⟩
end

end Go.Proofs.YtckgjolaoifgkaaGreat.J

/-
  trans: Direct, exported.
-/
namespace Go.Proofs.YtckgjolaoifgkaaGreat.J
open Go.RowKit Go.Maps Go.Shelf

attribute [local go_sem] Oper.semAt_some

theorem trI_mem {tn : Nat} {l : List (Nat × Nat)} {i : Nat} {x : It} (h : x ∈ trI tn l i) : ∃ e ∈ l, tn ≤ e.1 ∧ x = ((i : Int), (e.1 : Int)) := by
  unfold trI at h
  obtain ⟨e, he, rfl⟩ := List.mem_map.1 h
  obtain ⟨h1, h2⟩ := List.mem_filter.1 he
  exact ⟨e, h1, by simpa using h2, rfl⟩
theorem trT_mem {tn : Nat} {es : List (List (Nat × Nat))} : ∀ {i : Nat} {x : It}, x ∈ trT tn es i → ∃ q, q < i ∧ ∃ e ∈ es.getD q [], tn ≤ e.1 ∧ x = ((q : Int), (e.1 : Int))
  | 0, x, h => by cases h
  | i + 1, x, h => by
    rcases List.mem_append.1 h with h | h
    · obtain ⟨q, h1, h2⟩ := trT_mem h
      exact ⟨q, by omega, h2⟩
    · exact ⟨i, Nat.lt_succ_self _, trI_mem h⟩
theorem nextL_some {l : List (Nat × Nat)} {e : Nat × Nat} (h : e ∈ l) : ∃ t : Nat, nextL l (e.1 : Int) = some (t : Int) ∧ ∃ e' ∈ l, e'.1 = e.1 ∧ e'.2 = t := by
  unfold nextL
  cases h1 : l.find? (fun x => decide ((x.1 : Int) = (e.1 : Int))) with
  | none =>
    have := List.find?_eq_none.1 h1 e h
    simp at this
  | some x =>
    have h2 := List.find?_some h1
    refine ⟨x.2, rfl, x, List.mem_of_find?_eq_some h1, ?_, rfl⟩
    have : (x.1 : Int) = (e.1 : Int) := by simpa using h2
    omega
/-- What stands right behind a transition. -/
def dirOf (tn : Nat) (st : Int) (es : List (List (Nat × Nat))) (x : It) : List Int := preF (x.1 == 0 && x.2 == st) ++ dirL tn (es.getD ((leadA es x).getD 0).toNat [])
theorem dirOf_len {tn : Nat} {st : Int} {es : List (List (Nat × Nat))} {x : It} (h : ∀ q, (es.getD q []).length ≤ 130) : (dirOf tn st es x).length ≤ 131 := by
  unfold dirOf
  rw [List.length_append]
  have h1 := preF_len (x.1 == 0 && x.2 == st)
  have h2 := dirL_len tn (es.getD ((leadA es x).getD 0).toNat [])
  have h3 := h ((leadA es x).getD 0).toNat
  omega

/-- What always holds of the edges that are walked. -/
structure EsOK (ks : List (List It)) (es : List (List (Nat × Nat))) : Prop where
  le : ks.length ≤ 256
  len : es.length = ks.length
  each : ∀ q, q < ks.length → (es.getD q []).length ≤ 130 ∧ ((es.getD q []).map Prod.fst).Nodup ∧ ∀ x ∈ es.getD q [], x.1 < 130 ∧ x.2 < ks.length
theorem EsOK.short {ks : List (List It)} {es : List (List (Nat × Nat))} (h : EsOK ks es) (q : Nat) : (es.getD q []).length ≤ 130 := by
  by_cases hq : q < ks.length
  · exact (h.each q hq).1
  · rw [List.getD_eq_getElem?_getD, List.getElem?_eq_none (by rw [h.len]; omega)]; simp
theorem EsOK.lead {ks : List (List It)} {es : List (List (Nat × Nat))} (h : EsOK ks es) {x : It} {v : Int} (hx : leadA es x = some v) : 0 ≤ v ∧ v < (ks.length : Int) := by
  unfold leadA leadT at hx
  split at hx
  · rename_i hc
    obtain ⟨e, he, _, h2⟩ := nextL_mem hx
    have := ((h.each x.1.toNat (by rw [← h.len]; omega)).2.2 e he).2
    omega
  · split at hx
    · simp [nextL] at hx
    · cases hx
theorem EsOK.ok {ks : List (List It)} {es : List (List (Nat × Nat))} (h : EsOK ks es) : LeadOK es := fun x v hx => by
  have := h.lead hx
  have := h.le
  omega
theorem EsOK.trans {ks : List (List It)} {es : List (List (Nat × Nat))} (h : EsOK ks es) {tn : Nat} {x : It} (hx : x ∈ trT tn es ks.length) : ∃ q s tq : Nat, x = ((q : Int), (s : Int)) ∧ q < ks.length ∧ tn ≤ s ∧ s < 130 ∧ leadA es ((q : Int), (s : Int)) = some (tq : Int) ∧ tq < ks.length := by
  obtain ⟨q, hq, e, he, h1, rfl⟩ := trT_mem hx
  obtain ⟨t, h2, e', he', _, h4⟩ := nextL_some he
  have h5 := (h.each q hq).2.2 e' he'
  have h6 := (h.each q hq).2.2 e he
  exact ⟨q, e.1, t, rfl, hq, h1, h6.1, by rw [leadA_at es (by rw [h.len]; exact hq)]; exact h2, by rw [← h4]; exact h5.2⟩

/-- What Direct tells. -/
def DirErr (l : List It) (D : It → List Int) (w : World) (e : Ending) (y : World) : Prop := ∃ (rb : Nat) (ua : Nat → Option Addr) (uc : Nat → Nat), e = .returned (.tuple #[.slice (some ⟨rb, 0, none⟩) l.length l.length, .int .i64 0]) ∧ ValAt y rb l.length 24 (fun k => .slice (ua k) (D (l.getD k (0, 0))).length (uc k)) ∧ (∀ k, k < l.length → y.ownsRow w.heap.size 3 1 (.slice (ua k) (D (l.getD k (0, 0))).length (uc k)) (D (l.getD k (0, 0))).length (intV (D (l.getD k (0, 0))))) ∧ w.grownBy y none

/-- Direct's row is new. -/
def DirLo (w : World) (e : Ending) : Prop := ∀ (a : Option Addr) (k c : Nat) (x : Value), e = .returned (.tuple #[.slice a k c, x]) → ∀ rb, a = some ⟨rb, 0, none⟩ → w.heap.size ≤ rb

section
variable (ta na la pa : Option Addr) (tc nc lc pc : Nat) (n : Nat) (st : Int) (w : World) (tn nn ln : Nat)
set_option maxRecDepth 100000 in
theorem directX_bad (ec : Int) (hec : ec = 1 ∨ ec = 11) (hO : OfBad ta na la pa tc nc lc pc n st w tn nn ln ec) : Calls Tryz.prog 9 #[.agg #[.slice ta tn tc, .slice na nn nc, .slice la ln lc, .int .i64 st, .slice pa n pc]] w fun e y => e = .returned (.tuple #[.slice none 0 0, .int .i64 ec]) ∧ w.grownBy y none := by
  have HO : Hid (OfBad ta na la pa tc nc lc pc n st w tn nn ln ec) := hO
  have HX0 : Hid (w.grownBy (w.alloc (.cells #[.slice ta tn tc, .slice na nn nc, .slice la ln lc, .int .i64 st, .slice pa n pc] 27)) none) := World.grownBy_alloc _ _ none
  have hne : (ec != 0) = true := bne_iff_ne.2 (by omega)
  clear hO hec
  go_enter Tryz.func9, Tryz.ntmps9
  go_wp2_with fail
  refine Calls.mono (HO.out _ HX0.out) ?_
  rintro e w1 ⟨rfl, hg1⟩
  have HG1 : Hid (w.grownBy w1 none) := grown_trans HX0.out hg1
  clear hg1
  go_wp2_with fail
  go_ret2
  exact ⟨rfl, grown_trans HG1.out (World.grownBy_alloc _ _ none)⟩

/-- direct, of any transition. -/
theorem direct_any (sa : Option Addr) (sc lb B m : Nat) (ks : List (List It)) (es : List (List (Nat × Nat))) (kv ev : Nat → Value) (h : EsOK ks es) (hP : AutP B w (.slice sa ks.length sc) ks (elF es) kv ev) (hL : LdAt w lb m (leadA es)) (x : It) (hx : x ∈ trT tn es ks.length) :
    Calls Tryz.prog 19 #[.agg #[.slice ta tn tc, .slice na nn nc, .slice la ln lc, .int .i64 st, .slice pa n pc, .slice sa ks.length sc, .map (some lb)], .agg #[.int .i64 x.1, .int .i64 x.2]] w fun e y => NumTold (dirOf tn st es x) w e y := by
  obtain ⟨q, s, tq, rfl, hq, h1, h2, h3, h4⟩ := h.trans hx
  have e1 : dirOf tn st es ((q : Int), (s : Int)) = preF ((q : Int) == 0 && (s : Int) == st) ++ dirL tn (es.getD tq []) := by
    unfold dirOf
    rw [h3]; rfl
  rw [e1]
  by_cases hst : (q : Int) = 0 ∧ (s : Int) = st
  · obtain ⟨hq0, hs⟩ := hst
    obtain rfl : q = 0 := by omega
    subst hs
    have e2 : ((((0 : Nat) : Int) == 0 && (s : Int) == (s : Int))) = true := by simp
    rw [e2]
    exact direct_start ta na la pa sa tc nc lc pc sc n ks.length lb (s : Int) w tn nn ln B m ks es kv ev rfl hP (fun q hq => (h.each q hq).1) hL h.ok tq (WalkArith.wf_i64 ⟨by omega, by omega⟩) h3 h4
  · have e2 : ((q : Int) == 0 && (s : Int) == st) = false := by
      rw [Bool.and_eq_false_iff, beq_eq_false_iff_ne, beq_eq_false_iff_ne]
      by_cases h5 : (q : Int) = 0
      · exact .inr fun h6 => hst ⟨h5, h6⟩
      · exact .inl h5
    rw [e2]
    exact direct_other ta na la pa sa tc nc lc pc sc n ks.length lb st w tn nn ln B m ks es kv ev rfl h.le hP (fun q hq => (h.each q hq).1) hL h.ok q tq (s : Int) hq (WalkArith.wf_i64 ⟨by omega, by omega⟩) h3 h4 hst

set_option maxRecDepth 100000 in
set_option maxHeartbeats 4000000 in
theorem directX_lo (ks : List (List It)) (es : List (List (Nat × Nat))) (h : EsOK ks es) (hO : OfOk ta na la pa tc nc lc pc n st w tn nn ln ks es) : Calls Tryz.prog 9 #[.agg #[.slice ta tn tc, .slice na nn nc, .slice la ln lc, .int .i64 st, .slice pa n pc]] w fun e y => DirErr (trT tn es ks.length) (dirOf tn st es) w e y ∧ DirLo w e := by
  have HO : Hid (OfOk ta na la pa tc nc lc pc n st w tn nn ln ks es) := hO
  have HE : Hid (EsOK ks es) := h
  have HX0 : Hid (w.grownBy (w.alloc (.cells #[.slice ta tn tc, .slice na nn nc, .slice la ln lc, .int .i64 st, .slice pa n pc] 27)) none) := World.grownBy_alloc _ _ none
  have infoInts : (Tryz.prog.info? 24).map (fun i => (i.zero, i.size, i.bytes)) = some (some (.slice none 0 0), 1, 24) := by kernel_rfl
  obtain ⟨i1, hi1, hy0, hy1, hy2⟩ := info_parts infoInts
  obtain ⟨l, hl⟩ : ∃ l, l = trT tn es ks.length := ⟨_, rfl⟩
  have HLE : Hid (l = trT tn es ks.length) := hl
  rw [← hl]
  clear hO h infoInts hl
  go_enter Tryz.func9, Tryz.ntmps9
  go_wp2_with fail
  refine Calls.mono (HO.out _ HX0.out) ?_
  rintro e w1 ⟨sa, sc, kv, ev, lb, m, rfl, hAP, hLd, hg1⟩
  obtain ⟨W, hW⟩ : ∃ W, W = w1.alloc (.cells #[.slice ta tn tc, .slice na nn nc, .slice la ln lc, .int .i64 st, .slice pa n pc, .slice sa ks.length sc, .map (some lb)] 56) := ⟨_, rfl⟩
  obtain ⟨bx, hbx⟩ : ∃ b, b = w1.heap.size := ⟨_, rfl⟩
  have HGW : Hid (w.grownBy W none) := by rw [hW]; exact grown_trans HX0.out (grown_trans hg1 (World.grownBy_alloc _ _ none))
  have HAP : Hid (∀ Y, W.grownBy Y none → ∃ B, AutP B Y (.slice sa ks.length sc) ks (elF es) kv ev) := fun Y hY => ⟨_, hAP.kept (grown_trans (by rw [hW]; exact World.grownBy_alloc _ _ none) hY)⟩
  have HLD : Hid (∀ Y, W.grownBy Y none → LdAt Y lb m (leadA es)) := fun Y hY => hLd.kept (grown_trans (by rw [hW]; exact World.grownBy_alloc _ _ none) hY) (by simp)
  have HBX : Hid (W.heap[bx]? = some (.cells #[.slice ta tn tc, .slice na nn nc, .slice la ln lc, .int .i64 st, .slice pa n pc, .slice sa ks.length sc, .map (some lb)] 56 (0, 0))) := by rw [hW, hbx]; exact heap_alloc_last w1 _
  have HTR : Hid (Calls Tryz.prog 18 #[.agg #[.slice ta tn tc, .slice na nn nc, .slice la ln lc, .int .i64 st, .slice pa n pc, .slice sa ks.length sc, .map (some lb)]] W fun e y => TrTold (trT tn es ks.length) W e y) := by
    obtain ⟨B, hB⟩ := HAP.out W (grown_refl _ _)
    exact trans_any ta na la pa sa tc nc lc pc sc n ks.length lb st W tn nn ln B ks es kv ev rfl HE.out.le hB (fun q hq => (HE.out.each q hq).1)
  have HDI : Hid (∀ Y x, W.grownBy Y none → x ∈ trT tn es ks.length → Calls Tryz.prog 19 #[.agg #[.slice ta tn tc, .slice na nn nc, .slice la ln lc, .int .i64 st, .slice pa n pc, .slice sa ks.length sc, .map (some lb)], .agg #[.int .i64 x.1, .int .i64 x.2]] Y fun e y => NumTold (dirOf tn st es x) Y e y) := fun Y x hY hx => by
    obtain ⟨B, hB⟩ := HAP.out Y hY
    exact direct_any ta na la pa tc nc lc pc n st Y tn nn ln sa sc lb B m ks es kv ev HE.out hB (HLD.out Y hY) x hx
  have HWE := show Hid _ from hW
  have HBE := show Hid _ from hbx
  have hlb : l.length ≤ 33280 := by
    rw [HLE.out]
    have h1 := trT_len (tn := tn) (c := 130) ks.length (fun q hq => (HE.out.each q hq).1)
    have h2 : ks.length * 130 ≤ 256 * 130 := Nat.mul_le_mul_right _ HE.out.le
    omega
  rw [← HLE.out] at HTR HDI
  obtain ⟨N, hN⟩ : ∃ n, n = ks.length := ⟨_, rfl⟩
  rw [← hN] at HBX HTR HDI HWE ⊢
  clear hg1 hAP hLd hW hbx hN HAP HLD HE HLE
  go_wp2_with fail
  rw [← HWE.out, ← HBE.out]
  refine Calls.mono HTR.out ?_
  rintro e w2 ⟨a2, c2, rfl, ho2, hg2⟩
  have HG2 : Hid (W.grownBy w2 none) := hg2
  have HI2 : Hid (∀ Y, w2.grownBy Y none → ItsAt Y a2 l) := fun Y hY => (ItsAt.ofT ho2).kept hY
  obtain ⟨K, hK⟩ : ∃ k, k = l.length := ⟨_, rfl⟩
  have HK : Hid (K = l.length) := hK
  rw [← hK] at hlb ⊢
  clear hg2 ho2 HTR HWE HBE hK
  go_wp2_with (at_make; refine wpList_make_full _ rfl _ _ 34 rfl w2.heap.size 24 i1 (.slice none 0 0) 1 Tryz.underlying34 hi1 hy0 hy1 .i64 .i64 _ _ K rfl rfl (by simp) (by simp) (by rw [hy2]; omega) (by unfold maxLen; omega) (by simp) ?_)
  intro P hown hgrow
  have hval : ValAt P w2.heap.size K 24 (fun _ => .slice none 0 0) := made_rowK (B := w2.heap.size) rfl (by simpa [Value.cells] using hown)
  obtain ⟨rb, hrb⟩ : ∃ rb, rb = w2.heap.size := ⟨_, rfl⟩
  rw [← hrb] at hval
  rw [← hrb]
  have HGP : Hid (W.grownBy P none) := grown_trans HG2.out hgrow
  have HIP : Hid (∀ Y, P.grownBy Y none → ItsAt Y a2 l) := fun Y hY => HI2.out Y (grown_trans hgrow hY)
  have HVP : Hid (ValAt P rb K 24 (fun _ => .slice none 0 0)) := hval
  have HRL : Hid (W.heap.size ≤ rb) := by show _ ≤ _; rw [hrb]; exact HG2.out.size
  have HRI : Hid (∀ Y, w2.grownBy Y none → ItsAt Y a2 l) := HI2.out
  have HW2 : Hid (w2.heap.size ≤ rb) := by show _ ≤ _; omega
  have HWP : Hid (w2.grownBy P none) := hgrow
  clear hown hgrow hval hrb HI2
  go_wp2_with fail
  go_loopg [25] K (fun gk v25 wr => ∃ (k : Nat) (ua : Nat → Option Addr) (uc : Nat → Nat), k ≤ K ∧ gk = K - k ∧ v25 = .int .i64 k ∧ w2.grownBy wr none ∧ ValAt wr rb K 24 (fun i => if i < k then .slice (ua i) (dirOf tn st es (l.getD i (0, 0))).length (uc i) else .slice none 0 0) ∧ ∀ i, i < k → wr.ownsRow w.heap.size 3 1 (.slice (ua i) (dirOf tn st es (l.getD i (0, 0))).length (uc i)) (dirOf tn st es (l.getD i (0, 0))).length (intV (dirOf tn st es (l.getD i (0, 0)))))
  case atStart => exact ⟨0, fun _ => none, fun _ => 0, Nat.zero_le _, rfl, rfl, HWP.out, HVP.out.ext (fun i _ => by rw [if_neg (by omega)]), fun i hi => absurd hi (Nat.not_lt_zero _)⟩
  case round =>
    obtain ⟨k, ua, uc, hk, hgk, rfl, hg, hv, hr⟩ := hrel
    have HGK : Hid (gk = K - k) := hgk
    have HG : Hid (w2.grownBy wr none) := hg
    have HV : Hid (ValAt wr rb K 24 (fun i => if i < k then .slice (ua i) (dirOf tn st es (l.getD i (0, 0))).length (uc i) else .slice none 0 0)) := hv
    have HR := show Hid _ from hr
    clear hgk hg hv hr
    by_cases hlt : k < K
    · have hkd : decide (k < K) = true := decide_eq_true hlt
      have hk0 : (0 : Int) ≤ (k : Int) := by omega
      have hk1 : (k : Int) < (K : Int) := by omega
      have hkl : k < l.length := by rw [← HK.out]; exact hlt
      obtain ⟨tb, to_, hta, c0, c1⟩ := (HRI.out wr HG.out).cellAt hkl
      subst hta
      have hmem : l.getD k (0, 0) ∈ l := by rw [List.getD_eq_getElem?_getD, List.getElem?_eq_getElem hkl]; exact List.getElem_mem hkl
      obtain ⟨x, hx⟩ : ∃ x, x = l.getD k (0, 0) := ⟨_, rfl⟩
      have HX : Hid (x = l.getD k (0, 0)) := hx
      rw [← hx] at c0 c1 hmem
      have HD := show Hid _ from HDI.out (wr.alloc (.cells #[.int .i64 x.1, .int .i64 x.2] 39)) x (grown_trans HG2.out (grown_trans HG.out (World.grownBy_alloc _ _ none))) hmem
      obtain ⟨k0, k1, k2, k3, k4, k5, k6⟩ := cells7 (box_kept HBX.out (grown_trans HG2.out (grown_trans HG.out (World.grownBy_alloc wr (.cells #[.int .i64 x.1, .int .i64 x.2] 39) none))))
      clear hx hmem hkl
      obtain ⟨p, d⟩ := x
      simp only at c0 c1 HD k0 k1 k2 k3 k4 k5 k6
      go_wp2_with fail
      refine Calls.mono HD.out ?_
      rintro e w5 ⟨a5, c5, rfl, ho5, hg5⟩
      have HG5 : Hid (w2.grownBy w5 none) := grown_trans HG.out (grown_trans (World.grownBy_alloc _ _ none) hg5)
      have HV5 : Hid (ValAt w5 rb K 24 (fun i => if i < k then .slice (ua i) (dirOf tn st es (l.getD i (0, 0))).length (uc i) else .slice none 0 0)) := HV.out.kept (grown_trans (World.grownBy_alloc _ _ none) hg5)
      have y0 := HV5.out.cell k hlt
      rw [if_neg (by omega)] at y0
      have f0 := HV5.out.free k
      obtain ⟨dl, hdl⟩ : ∃ m, m = (dirOf tn st es (p, d)).length := ⟨_, rfl⟩
      have HNX : Hid (∃ (ua' : Nat → Option Addr) (uc' : Nat → Nat), w2.grownBy (w5.setCell ⟨rb, k, none⟩ (.slice a5 dl c5)) none ∧ ValAt (w5.setCell ⟨rb, k, none⟩ (.slice a5 dl c5)) rb K 24 (fun i => if i < k + 1 then .slice (ua' i) (dirOf tn st es (l.getD i (0, 0))).length (uc' i) else .slice none 0 0) ∧ ∀ i, i < k + 1 → (w5.setCell ⟨rb, k, none⟩ (.slice a5 dl c5)).ownsRow w.heap.size 3 1 (.slice (ua' i) (dirOf tn st es (l.getD i (0, 0))).length (uc' i)) (dirOf tn st es (l.getD i (0, 0))).length (intV (dirOf tn st es (l.getD i (0, 0))))) := by
        have hgs : w5.grownBy (w5.setCell ⟨rb, k, none⟩ (.slice a5 dl c5)) (some rb) := grown_setCell _ _ _
        refine ⟨updL ua k a5, updL uc k c5, grown_new HG5.out hgs HW2.out, (HV5.out.set k _).ext (fun i _ => ?_), fun i hi => ?_⟩
        · unfold put
          by_cases e : i = k
          · subst e
            rw [if_pos rfl, if_pos (by omega), updL_same, updL_same, hdl, HX.out]
          · rw [if_neg e, updL_other _ _ e, updL_other _ _ e]
            simp only
            by_cases e2 : i < k
            · rw [if_pos e2, if_pos (by omega)]
            · rw [if_neg e2, if_neg (by omega)]
        · by_cases e : i = k
          · subst e
            rw [updL_same, updL_same, ← HX.out]
            have h9 := owns_base ho5 (B' := w.heap.size) (Nat.le_trans HGW.out.size (grown_trans HG2.out (grown_trans HG.out (World.grownBy_alloc _ _ none))).size)
            exact h9.kept hgs (owns_nebox h9 HV5.out (by decide))
          · rw [updL_other _ _ e, updL_other _ _ e]
            have h9 := keep0 (HR.out i (by omega)) (grown_trans (World.grownBy_alloc wr (.cells #[.int .i64 p, .int .i64 d] 39) none) hg5)
            exact h9.kept hgs (owns_nebox h9 HV5.out (by decide))
      rw [← hdl]
      clear ho5 hg5 hdl k0 k1 k2 k3 k4 k5 k6 c0 c1 HD
      go_wp2_with fail
      go_roundg (K - (k + 1))
      case measure => have := HGK.out; omega
      case rel =>
        obtain ⟨ua', uc', h1, h2, h3⟩ := HNX.out
        exact ⟨k + 1, ua', uc', by omega, rfl, by go_num, h1, h2, h3⟩
    · have hkK : K = k := by omega
      subst hkK
      have hkd : decide (K < K) = false := decide_eq_false (by omega)
      go_wp2_with fail
      go_ret2
      refine ⟨⟨rb, ua, uc, by rw [← HK.out]; rfl, by rw [← HK.out]; exact HV.out.ext (fun i hi => by rw [if_pos hi]), fun i hi => HR.out i (by rw [HK.out]; exact hi), grown_trans HGW.out (grown_trans HG2.out HG.out)⟩, fun a k c x e rb' ha => ?_⟩
      simp at e
      obtain ⟨⟨e1, _⟩, _⟩ := e
      rw [← e1] at ha
      simp only [Option.some.injEq, Addr.mk.injEq] at ha
      have h1 := HRL.out
      have h2 := HGW.out.size
      omega
theorem directX_ok (ks : List (List It)) (es : List (List (Nat × Nat))) (h : EsOK ks es) (hO : OfOk ta na la pa tc nc lc pc n st w tn nn ln ks es) : Calls Tryz.prog 9 #[.agg #[.slice ta tn tc, .slice na nn nc, .slice la ln lc, .int .i64 st, .slice pa n pc]] w fun e y => DirErr (trT tn es ks.length) (dirOf tn st es) w e y :=
  (directX_lo ta na la pa tc nc lc pc n st w tn nn ln ks es h hO).mono fun _ _ h => h.1
end

end Go.Proofs.YtckgjolaoifgkaaGreat.J

/-
  trans: automatonOf of any grammar; the law's awake.
-/
namespace Go.Proofs.YtckgjolaoifgkaaGreat.J
open Go.RowKit Go.Maps Go.Shelf

attribute [local go_sem] Oper.semAt_some

theorem esOK_of {G : List It → Nat → List It} {n : Nat} {R : Nat → List Int} {S : Nat} {ks : List (List It)} {es : List (List (Nat × Nat))} (h : AutF G n R S ks es) (hS : S ≤ 130) : EsOK ks es :=
  ⟨h.kok.le, h.len, fun q hq => ⟨by rw [h.elen hq]; exact Nat.le_trans (symsT_len _ _) hS, by rw [h.fst q hq]; exact symsT_nodup _ _, fun x hx => by
    have := h.snd q hq x hx
    omega⟩⟩

section
variable (ta na la pa : Option Addr) (tc nc lc pc : Nat) (ts : List (ByteArray × Int)) (ns : List ByteArray) (lv : List Int) (n : Nat) (L : Nat → Int) (R : Nat → List Int) (ra : Nat → Option Addr) (rc : Nat → Nat) (V : Nat → Int) (st : Int) (w : World) (tn nn ln : Nat) (hlen : ts.length = tn ∧ ns.length = nn ∧ lv.length = ln) (hG : GAt w ta na la pa tc nc lc pc ts ns lv n L R ra rc V)
include hlen hG
theorem ofBad1 (hc : ¬ closedOK ts ns lv st n L R V) : OfBad ta na la pa tc nc lc pc n st w tn nn ln 1 := fun X hX =>
  of_bad ta na la pa tc nc lc pc n st X tn nn ln 1 (.inl rfl) fun Y hY => buildBad ta na la pa tc nc lc pc ts ns lv n L R ra rc V st Y tn nn ln hlen (hG.kept (grown_trans hX hY)) hc
theorem ofBad11 (hc : closedOK ts ns lv st n L R V) (h : autoF (GG tn n L R) (tn + nn) 256 = none) : OfBad ta na la pa tc nc lc pc n st w tn nn ln 11 := fun X hX =>
  of_bad ta na la pa tc nc lc pc n st X tn nn ln 11 (.inr rfl) fun Y hY => build_none ta na la pa tc nc lc pc ts ns lv n L R ra rc V st w tn nn ln hlen hG hc h Y (grown_trans hX hY)
theorem ofOk (hc : closedOK ts ns lv st n L R V) {ks : List (List It)} {es : List (List (Nat × Nat))} (h : autoF (GG tn n L R) (tn + nn) 256 = some (ks, es)) : OfOk ta na la pa tc nc lc pc n st w tn nn ln ks es ∧ EsOK ks es := by
  have hM : MayOK tn nn n st L R true := by obtain ⟨rfl, rfl, rfl⟩ := hlen; exact mayOK_closed hc
  have hE : EsOK ks es := esOK_of (autF hM.p0 h) (by have := hM.tmax; have := hM.nmax; omega)
  refine ⟨fun X hX => of_ok ta na la pa tc nc lc pc n st X tn nn ln (askN es) ks es hE.le hE.len (fun q hq => ⟨(hE.each q hq).1, (hE.each q hq).2.1, fun x hx => by have := (hE.each q hq).2.2 x hx; have := hE.le; omega⟩) fun Y hY => ?_, hE⟩
  refine (build_some ta na la pa tc nc lc pc ts ns lv n L R ra rc V st w tn nn ln hlen hG hc h Y (grown_trans hX hY)).mono ?_
  rintro e y ⟨sa, sc, kv, ev, he, hAP, hg⟩
  exact ⟨sa, sc, kv, ev, he, hAP.base hY.size, hg⟩
end

theorem k_ggT : autoF (GG 3 3 kL kR) 5 256 = some (kKs, kEs) := by
  have h : ∀ k ∈ kKs, IsClo 3 3 kL kR k (CLo 3 3 kL kR k) := fun k hk => by
    have h1 := k_clo k hk
    rw [CLo_eq h1 (by
      simp only [kKs, List.mem_cons, List.not_mem_nil, or_false] at hk
      rcases hk with rfl | rfl | rfl | rfl | rfl <;> decide)]
    exact h1
  exact k_auto h
theorem k_trT : trT 3 kEs 5 = [(0, 4)] := by decide
theorem k_way : wayF kEs (some 0) [4, 1, 2] = some 4 := by decide
theorem k_dir : dirOf 3 4 kEs (0, 4) = [0, 1] := by decide

set_option maxRecDepth 100000 in
set_option maxHeartbeats 2000000 in
theorem awake_any (w : World) : Calls Tryz.prog 4 #[] w fun e w' => e = .returned (.bool true) ∧ w.grownBy w' none := by
  have hE : ∀ X : World, (binOp .eql 39 (.agg #[.int .i64 0, .int .i64 4]) (.agg #[.int .i64 0, .int .i64 4])).run Tryz.prog X = .ok (.bool true) X := fun X => eq_trans 0 4 0 4 X
  go_enter Tryz.func4, Tryz.ntmps4
  go_wp2_with fail
  refine Calls.mono (small_any w) ?_
  rintro e w1 ⟨b1, b2, b6, ra, rc, rfl, hG1, hg1⟩
  obtain ⟨hOf, hEs⟩ := ofOk (some ⟨b1, 0, none⟩) (some ⟨b2, 0, none⟩) none (some ⟨b6, 0, none⟩) 3 2 0 3 kTs kNs [] 3 kL kR ra rc (fun _ => 0) 4 w1 3 2 0 ⟨rfl, rfl, rfl⟩ hG1 k_closed k_ggT
  have HOF : Hid (OfOk (some ⟨b1, 0, none⟩) (some ⟨b2, 0, none⟩) none (some ⟨b6, 0, none⟩) 3 2 0 3 3 4 w1 3 2 0 kKs kEs) := hOf
  have HES : Hid (EsOK kKs kEs) := hEs
  have HOX : Hid (∀ X, w1.grownBy X none → OfOk (some ⟨b1, 0, none⟩) (some ⟨b2, 0, none⟩) none (some ⟨b6, 0, none⟩) 3 2 0 3 3 4 X 3 2 0 kKs kEs) := fun X hX Y hY => HOF.out Y (grown_trans hX hY)
  have HLI : Hid (∀ X, w1.grownBy X none → Calls Tryz.prog 8 #[.agg #[.slice (some ⟨b1, 0, none⟩) 3 3, .slice (some ⟨b2, 0, none⟩) 2 2, .slice none 0 0, .int .i64 4, .slice (some ⟨b6, 0, none⟩) 3 3]] X fun e y => ∃ g c, e = .returned (.tuple #[.slice (some ⟨g, 0, none⟩) 1 c, .int .i64 0]) ∧ y.cell? ⟨g, 0, none⟩ = some (.int .i64 0) ∧ y.cell? ⟨g, 1, none⟩ = some (.int .i64 4) ∧ X.grownBy y none) := fun X hX => by
    refine (listX_ok _ _ _ _ _ _ _ _ 3 4 X 3 2 0 kKs kEs HES.out.le (fun q hq => (HES.out.each q hq).1) (HOX.out X hX)).mono ?_
    rintro e y ⟨a, c, rfl, ho, hg⟩
    have e1 : trT 3 kEs kKs.length = [(0, 4)] := k_trT
    rw [e1] at ho ⊢
    obtain ⟨g, c2, he, hcell⟩ := owns_at ho (by decide)
    simp only [Value.slice.injEq] at he
    obtain ⟨rfl, _, rfl⟩ := he
    exact ⟨g, c, rfl, hcell 0 _ rfl, hcell 1 _ rfl, hg⟩
  have HWA : Hid (∀ X b, w1.grownBy X none → IntsAt X (some ⟨b, 0, none⟩) [4, 1, 2] → Calls Tryz.prog 13 #[.agg #[.slice (some ⟨b1, 0, none⟩) 3 3, .slice (some ⟨b2, 0, none⟩) 2 2, .slice none 0 0, .int .i64 4, .slice (some ⟨b6, 0, none⟩) 3 3], .int .i64 0, .slice (some ⟨b, 0, none⟩) 3 3] X fun e y => e = .returned (.tuple #[.int .i64 4, .int .i64 0]) ∧ X.grownBy y none) := fun X b hX hI => by
    have h := walkX_ok _ _ _ _ 3 2 0 3 3 4 X 3 2 0 kKs kEs (by decide) (by decide) HES.out.le HES.out.ok (HOX.out X hX) 0 (by decide) (some ⟨b, 0, none⟩) 3 [4, 1, 2] hI (by decide) (by decide)
    have e1 : wayV (wayF kEs (some ((0 : Nat) : Int)) [4, 1, 2]) = 4 := by rw [show ((0 : Nat) : Int) = 0 from rfl, k_way]; rfl
    rw [e1] at h
    exact h
  have HDI : Hid (∀ X, w1.grownBy X none → Calls Tryz.prog 9 #[.agg #[.slice (some ⟨b1, 0, none⟩) 3 3, .slice (some ⟨b2, 0, none⟩) 2 2, .slice none 0 0, .int .i64 4, .slice (some ⟨b6, 0, none⟩) 3 3]] X fun e y => ∃ rb a c, e = .returned (.tuple #[.slice (some ⟨rb, 0, none⟩) 1 1, .int .i64 0]) ∧ y.cell? ⟨rb, 0, none⟩ = some (.slice a 2 c) ∧ X.grownBy y none) := fun X hX => by
    refine (directX_ok _ _ _ _ 3 2 0 3 3 4 X 3 2 0 kKs kEs HES.out (HOX.out X hX)).mono ?_
    rintro e y ⟨rb, ua, uc, rfl, hv, _, hg⟩
    have e1 : trT 3 kEs kKs.length = [(0, 4)] := k_trT
    rw [e1] at hv ⊢
    have h1 := hv.cell 0 (by decide)
    rw [show ([((0 : Int), (4 : Int))] : List It).getD 0 (0, 0) = (0, 4) from rfl, k_dir] at h1
    exact ⟨rb, ua 0, uc 0, rfl, h1, hg⟩
  obtain ⟨gb, hgb⟩ : ∃ gb, gb = w1.heap.size := ⟨_, rfl⟩
  obtain ⟨X1, hX1⟩ : ∃ X1, X1 = w1.alloc (.cells #[.slice (some ⟨b1, 0, none⟩) 3 3, .slice (some ⟨b2, 0, none⟩) 2 2, .slice none 0 0, .int .i64 4, .slice (some ⟨b6, 0, none⟩) 3 3] 27) := ⟨_, rfl⟩
  have HP1 : Hid (PhAt w1 X1 gb #[.slice (some ⟨b1, 0, none⟩) 3 3, .slice (some ⟨b2, 0, none⟩) 2 2, .slice none 0 0, .int .i64 4, .slice (some ⟨b6, 0, none⟩) 3 3]) := ⟨by rw [hX1]; exact World.grownBy_alloc _ _ none, by rw [hX1, hgb]; exact heap_alloc_last w1 _⟩
  have HGW : Hid (w.grownBy w1 none) := hg1
  have HXE := show Hid _ from hX1
  have HGE := show Hid _ from hgb
  clear hG1 hg1 hX1 hgb hOf hEs HOF HOX HES
  go_wp2_with fail
  rw [← HXE.out, ← HGE.out]
  refine Calls.mono (HLI.out X1 HP1.out.grown) ?_
  rintro e w2 ⟨g2, c2, rfl, r0, r1, hg2⟩
  have HP2 : Hid (PhAt w1 w2 gb #[.slice (some ⟨b1, 0, none⟩) 3 3, .slice (some ⟨b2, 0, none⟩) 2 2, .slice none 0 0, .int .i64 4, .slice (some ⟨b6, 0, none⟩) 3 3]) := HP1.out.kept hg2
  clear hg2 HP1 HXE HGE HLI
  obtain ⟨k0, k1, k2, k3, k4⟩ := HP2.out.cells
  have HWC : Hid (Calls Tryz.prog 13 #[.agg #[.slice (some ⟨b1, 0, none⟩) 3 3, .slice (some ⟨b2, 0, none⟩) 2 2, .slice none 0 0, .int .i64 4, .slice (some ⟨b6, 0, none⟩) 3 3], .int .i64 0, .slice (some ⟨w2.heap.size, 0, none⟩) 3 3] (w2.alloc (.cells #[.int .i64 4, .int .i64 1, .int .i64 2] 3)) fun e y => e = .returned (.tuple #[.int .i64 4, .int .i64 0]) ∧ (w2.alloc (.cells #[.int .i64 4, .int .i64 1, .int .i64 2] 3)).grownBy y none) := HWA.out _ _ (grown_trans HP2.out.grown (World.grownBy_alloc _ _ none)) (.inr ⟨w2.heap.size, 0, rfl, fun i hi => by
    have h2 : i = 0 ∨ i = 1 ∨ i = 2 := by simp at hi; omega
    rcases h2 with rfl | rfl | rfl <;> (rw [cell_of_row _ _ _ _ _ _ (heap_alloc_last w2 _)]; rfl)⟩)
  go_wp2_with fail
  refine Calls.mono HWC.out ?_
  rintro e w3 ⟨rfl, hg3⟩
  have HP3 : Hid (PhAt w1 w3 gb #[.slice (some ⟨b1, 0, none⟩) 3 3, .slice (some ⟨b2, 0, none⟩) 2 2, .slice none 0 0, .int .i64 4, .slice (some ⟨b6, 0, none⟩) 3 3]) := HP2.out.kept (grown_trans (World.grownBy_alloc _ _ none) hg3)
  have r0' := hg3.cell ((World.grownBy_alloc w2 (.cells #[.int .i64 4, .int .i64 1, .int .i64 2] 3) none).cell r0 (by simp)) (by simp)
  have r1' := hg3.cell ((World.grownBy_alloc w2 (.cells #[.int .i64 4, .int .i64 1, .int .i64 2] 3) none).cell r1 (by simp)) (by simp)
  clear hg3 HP2 HWC HWA k0 k1 k2 k3 k4 r0 r1
  obtain ⟨k0, k1, k2, k3, k4⟩ := HP3.out.cells
  go_wp2_with fail
  refine Calls.mono (HDI.out w3 HP3.out.grown) ?_
  rintro e w4 ⟨rb, a4, c4, rfl, y0, hg4⟩
  have q0 := hg4.cell r0' (by simp)
  have q1 := hg4.cell r1' (by simp)
  have HG4 : Hid (w.grownBy w4 none) := grown_trans HGW.out (grown_trans HP3.out.grown hg4)
  clear hg4 HP3 HDI k0 k1 k2 k3 k4 r0' r1' HGW
  go_wp2_with fail
  go_ret
  exact ⟨rfl, HG4.out⟩

end Go.Proofs.YtckgjolaoifgkaaGreat.J

/-
  trans: the document's Next; the transitions by their numbers.
-/
namespace Go.Proofs.YtckgjolaoifgkaaGreat.J
open Go.RowKit Go.Maps Go.Shelf

attribute [local go_sem] Oper.semAt_some

theorem neq_trans (p d p' d' : Int) (w : World) : (binOp .neq 39 (.agg #[.int .i64 p, .int .i64 d]) (.agg #[.int .i64 p', .int .i64 d'])).run Tryz.prog w = .ok (.bool (!(p == p' && d == d'))) w := by
  have u3 := Tryz.underlying3
  have a3 := Tryz.isAgg3
  have z3 := Tryz.sizeOf3
  have hS : Tryz.prog.underlying 39 = some (.struct (Tryz.prog.fieldsOf 39)) := by kernel_rfl
  have hp : Tryz.prog.stoodInHeld 39 = false := by kernel_rfl
  rw [run_neq_struct, show (10000 : Nat) = 9999 + 1 from rfl, run_equalIn_agg w 9999 39 _ _ hS hp]
  simp only [Program.fieldsOf, Tryz.underlying39]
  go_simp
  by_cases h1 : p = p' <;> by_cases h2 : d = d' <;> simp [h1, h2]
theorem nextL_cons_no {x : Nat × Nat} {l : List (Nat × Nat)} {s : Int} (h : ¬ (x.1 : Int) = s) : nextL (x :: l) s = nextL l s := by
  unfold nextL
  rw [List.find?_cons]
  simp [h]
theorem nextL_found {l : List (Nat × Nat)} {s : Int} {j : Nat} (hj : j < l.length) (h : ((l.getD j (0, 0)).1 : Int) = s) (hno : ∀ i, i < j → ¬ ((l.getD i (0, 0)).1 : Int) = s) : nextL l s = some ((l.getD j (0, 0)).2 : Int) := by
  induction l generalizing j with
  | nil => cases hj
  | cons x l ih =>
    cases j with
    | zero =>
      unfold nextL
      rw [List.find?_cons]
      have h' : (x.1 : Int) = s := h
      simp [h']
    | succ j =>
      rw [nextL_cons_no (x := x) (hno 0 (Nat.succ_pos _))]
      exact ih (by simpa using hj) h fun i hi => hno (i + 1) (by omega)
theorem nextL_none {l : List (Nat × Nat)} {s : Int} (hno : ∀ i, i < l.length → ¬ ((l.getD i (0, 0)).1 : Int) = s) : nextL l s = none := by
  induction l with
  | nil => rfl
  | cons x l ih =>
    rw [nextL_cons_no (x := x) (hno 0 (by simp))]
    exact ih fun i hi => hno (i + 1) (by simpa using hi)

set_option maxRecDepth 100000 in
theorem rnext_any (sa : Option Addr) (sc : Nat) (ask nI : Int) (w : World) (B : Nat) (ks : List (List It)) (es : List (List (Nat × Nat))) (kv ev : Nat → Value) (hP : AutP B w (.slice sa ks.length sc) ks (elF es) kv ev) (hEl : ∀ q, (es.getD q []).length ≤ 130) (q : Nat) (hq : q < ks.length) (s : Int) :
    Calls Tryz.prog 31 #[.agg #[.slice sa ks.length sc, .int .i64 ask, .int .i64 nI], .int .i64 (q : Int), .int .i64 s] w fun e y => e = .returned (.int .i64 (wayV (nextL (es.getD q []) s))) ∧ w.grownBy y none := by
  have hg0 : w.grownBy (w.alloc (.cells #[.slice sa ks.length sc, .int .i64 ask, .int .i64 nI] 49)) none := World.grownBy_alloc _ _ none
  have hPZ := hP.kept hg0
  obtain ⟨sb, sc', hsv, _, hs1⟩ := hPZ.st hq
  simp only [Value.slice.injEq] at hsv
  obtain ⟨rfl, _, rfl⟩ := hsv
  obtain ⟨ea, ec, hev, hei⟩ := hPZ.edgAt hq
  rw [hev] at hs1
  obtain ⟨N, hN⟩ : ∃ n, n = ks.length := ⟨_, rfl⟩
  obtain ⟨E, hE⟩ : ∃ E, E = (elF es q).length := ⟨_, rfl⟩
  rw [← hE] at hs1
  rw [← hN] at hs1 hg0 hei hq ⊢
  have HE : Hid (E = (es.getD q []).length) := by show _ = _; rw [hE]; exact elF_len _ _
  have hEb : E ≤ 130 := by rw [HE.out]; exact hEl q
  have HEI : Hid (∀ Y, (w.alloc (.cells #[.slice (some ⟨sb, 0, none⟩) N sc, .int .i64 ask, .int .i64 nI] 49)).grownBy Y none → ItsAt Y ea (elF es q)) := fun Y hY => hei.kept hY
  have HG0 : Hid (w.grownBy (w.alloc (.cells #[.slice (some ⟨sb, 0, none⟩) N sc, .int .i64 ask, .int .i64 nI] 49)) none) := hg0
  have hq0 : (0 : Int) ≤ (q : Int) := by omega
  have hq1 : (q : Int) < (N : Int) := by omega
  obtain ⟨r, hr⟩ : ∃ r, r = wayV (nextL (es.getD q []) s) := ⟨_, rfl⟩
  have HRR : Hid (r = wayV (nextL (es.getD q []) s)) := hr
  rw [← hr]
  clear hP hPZ hev hei hE hN hg0 hEl hr
  go_enter Tryz.func31, Tryz.ntmps31
  go_wp2_with fail
  obtain ⟨W, hW⟩ : ∃ W, W = w.alloc (.cells #[.slice (some ⟨sb, 0, none⟩) N sc, .int .i64 ask, .int .i64 nI] 49) := ⟨_, rfl⟩
  rw [← hW] at HEI HG0 ⊢
  clear hW hs1
  go_loopg [8] E (fun gk v8 wr => ∃ j : Nat, j ≤ E ∧ gk = E - j ∧ v8 = .int .i64 j ∧ W.grownBy wr none ∧ ∀ i, i < j → ¬ (((es.getD q []).getD i (0, 0)).1 : Int) = s)
  case atStart => exact ⟨0, Nat.zero_le _, rfl, rfl, grown_refl _ _, fun i hi => absurd hi (Nat.not_lt_zero _)⟩
  case round =>
    obtain ⟨j, hj, hgj, rfl, hg, hno⟩ := hrel
    have HGJ : Hid (gk = E - j) := hgj
    have HG : Hid (W.grownBy wr none) := hg
    have HNO := show Hid _ from hno
    clear hgj hg hno
    by_cases hlt : j < E
    · have hjd : decide (j < E) = true := decide_eq_true hlt
      have hj0 : (0 : Int) ≤ (j : Int) := by omega
      have hj1 : (j : Int) < (E : Int) := by omega
      have hje : j < (es.getD q []).length := by rw [← HE.out]; exact hlt
      obtain ⟨eb, eo, hea, c0, c1⟩ := (HEI.out wr HG.out).cellAt (i := j) (by rw [elF_len]; exact hje)
      subst hea
      rw [(elF_at hje).2] at c0 c1
      by_cases hs : (((es.getD q []).getD j (0, 0)).1 : Int) = s
      · have HF : Hid (nextL (es.getD q []) s = some (((es.getD q []).getD j (0, 0)).2 : Int)) := nextL_found hje hs HNO.out
        obtain ⟨t, ht⟩ : ∃ t : Nat, t = ((es.getD q []).getD j (0, 0)).2 := ⟨_, rfl⟩
        rw [← ht] at c1 HF
        simp only at c0
        rw [hs] at c0
        have hss : (s == s) = true := beq_self_eq_true _
        clear hs ht hje
        go_wp2_with fail
        go_ret
        exact ⟨by rw [HRR.out, HF.out]; rfl, grown_trans HG0.out HG.out⟩
      · have HNS : Hid (¬ (((es.getD q []).getD j (0, 0)).1 : Int) = s) := hs
        obtain ⟨u, hu⟩ : ∃ u : Int, u = (((es.getD q []).getD j (0, 0)).1 : Int) := ⟨_, rfl⟩
        simp only at c0
        rw [← hu] at c0 hs
        have hss : (u == s) = false := beq_eq_false_iff_ne.2 hs
        clear hs hu hje c1
        go_wp2_with fail
        go_roundg (E - (j + 1))
        case measure => have := HGJ.out; omega
        case rel => exact ⟨j + 1, by omega, rfl, by go_num, HG.out, fun i hi => by
          by_cases e : i = j
          · rw [e]; exact HNS.out
          · exact HNO.out i (by omega)⟩
    · have hjE : E = j := by omega
      subst hjE
      have hjd : decide (E < E) = false := decide_eq_false (by omega)
      have HF : Hid (nextL (es.getD q []) s = none) := nextL_none (by rw [← HE.out]; exact HNO.out)
      go_wp2_with fail
      go_ret
      exact ⟨by rw [HRR.out, HF.out]; rfl, grown_trans HG0.out HG.out⟩

end Go.Proofs.YtckgjolaoifgkaaGreat.J

/-
  lr0: the document's automaton under way, in memory.
-/
namespace Go.Proofs.YtckgjolaoifgkaaGreat.J
open Go.RowKit Go.Maps Go.Shelf

theorem GG_zero' {tn n : Nat} {L : Nat → Int} {R : Nat → List Int} {k : List It} (hk : ∀ x ∈ k, itB n R x = true) (hR : ∀ k, k < n → ∀ x ∈ R k, (0 : Int) < x) : GG tn n L R k 0 = [] := by
  unfold GG
  have key : ∀ x ∈ CLo tn n L R k, itB n R x = true := by
    unfold CLo
    by_cases hh : ∃ l, IsClo tn n L R k l ∧ l.length ≤ k.length + 13000
    · rw [dif_pos hh]
      have h1 := Classical.choose_spec hh
      exact fun x hx => ((h1.1.mem x).1 hx).item hk
    · rw [dif_neg hh]
      exact fun x hx => absurd hx (by simp)
  unfold kerT
  rw [List.map_eq_nil_iff, List.filter_eq_nil_iff]
  intro x hx h
  have h1 := key x hx
  have h2 : aheadV R x = 0 := by simpa using h
  unfold itB at h1
  simp only [Bool.and_eq_true, decide_eq_true_eq] at h1
  obtain ⟨⟨⟨a1, a2⟩, a3⟩, a4⟩ := h1
  unfold aheadV at h2
  by_cases e : x.2 = ((R x.1.toNat).length : Int)
  · rw [if_pos e] at h2; omega
  · rw [if_neg e] at h2
    have hl : x.2.toNat < (R x.1.toNat).length := by omega
    have h3 := hR x.1.toNat (by omega) ((R x.1.toNat).getD x.2.toNat 0) (by
      generalize R x.1.toNat = l at hl ⊢
      rw [List.getD_eq_getElem?_getD, List.getElem?_eq_getElem hl]; exact List.getElem_mem hl)
    omega

/-- The document's automaton under way: what its box says (bs, ba, bi) and its states' row. -/
structure DbP (w X : World) (bx : Nat) (bs : Value) (ba bi : Int) (rv : Value) (N : Nat) (kv ev : Nat → Value) (kl el : Nat → List It) (Q : Value → List It → Prop) : Prop where
  grown : w.grownBy X none
  box : X.heap[bx]? = some (.cells #[bs, .int .i64 ba, .int .i64 bi] 49 (0, 0))
  row : X.ownsRow w.heap.size 72 2 rv N (stV kv ev N)
  ker : ∀ i, i < N → X.ownsRow w.heap.size 68 2 (kv i) (kl i).length (itsV (kl i))
  edg : ∀ i, i < N → X.ownsRow w.heap.size 78 2 (ev i) (el i).length (itsV (el i))
  sep : ∀ i j, i < N → j < N → i ≠ j → (ev i).ownBlock = none ∨ (ev i).ownBlock ≠ (ev j).ownBlock
  lo : w.heap.size ≤ bx
  pas : ∀ v l, Q v l → X.ownsRow w.heap.size 68 2 v l.length (itsV l)

section
variable {w X Y : World} {bx : Nat} {bs : Value} {ba bi : Int} {rv : Value} {N : Nat} {kv ev : Nat → Value} {kl el : Nat → List It} {Q : Value → List It → Prop}
theorem DbP.kept (h : DbP w X bx bs ba bi rv N kv ev kl el Q) (hg : X.grownBy Y none) : DbP w Y bx bs ba bi rv N kv ev kl el Q :=
  ⟨grown_trans h.grown hg, box_kept h.box hg, keep0 h.row hg, fun i hi => keep0 (h.ker i hi) hg, fun i hi => keep0 (h.edg i hi) hg, h.sep, h.lo, fun v l hq => keep0 (h.pas v l hq) hg⟩
theorem DbP.mono {Q' : Value → List It → Prop} (h : DbP w X bx bs ba bi rv N kv ev kl el Q) (hq : ∀ v l, Q' v l → X.ownsRow w.heap.size 68 2 v l.length (itsV l)) : DbP w X bx bs ba bi rv N kv ev kl el Q' := ⟨h.grown, h.box, h.row, h.ker, h.edg, h.sep, h.lo, hq⟩
theorem DbP.cells (h : DbP w X bx bs ba bi rv N kv ev kl el Q) : X.cell? ⟨bx, 0, none⟩ = some bs ∧ X.cell? ⟨bx, 1, none⟩ = some (.int .i64 ba) ∧ X.cell? ⟨bx, 2, none⟩ = some (.int .i64 bi) := by
  refine ⟨?_, ?_, ?_⟩ <;> (rw [cell_of_row _ _ _ _ _ _ h.box]; rfl)
theorem DbP.free (h : DbP w X bx bs ba bi rv N kv ev kl el Q) (o : Nat) : X.frozen? ⟨bx, o, none⟩ = false := frozen_of_row _ _ _ _ _ h.box
/-- The box alone is turned. -/
theorem DbP.boxed (h : DbP w X bx bs ba bi rv N kv ev kl el Q) {bs' : Value} {ba' bi' : Int} (hg : X.grownBy Y (some bx)) (hb : Y.heap[bx]? = some (.cells #[bs', .int .i64 ba', .int .i64 bi'] 49 (0, 0))) : DbP w Y bx bs' ba' bi' rv N kv ev kl el Q :=
  ⟨grown_new h.grown hg h.lo, hb, h.row.kept hg (owns_nebox h.row h.box (by decide)), fun i hi => (h.ker i hi).kept hg (owns_nebox (h.ker i hi) h.box (by decide)), fun i hi => (h.edg i hi).kept hg (owns_nebox (h.edg i hi) h.box (by decide)), h.sep, h.lo, fun v l hq => (h.pas v l hq).kept hg (owns_nebox (h.pas v l hq) h.box (by decide))⟩
theorem DbP.setS (h : DbP w X bx bs ba bi rv N kv ev kl el Q) (v : Value) : DbP w (X.setCell ⟨bx, 0, none⟩ v) bx v ba bi rv N kv ev kl el Q :=
  h.boxed (grown_setCell _ _ _) (heap_setCell_same _ _ _ _ _ _ h.box)
theorem DbP.setA (h : DbP w X bx bs ba bi rv N kv ev kl el Q) (v : Int) : DbP w (X.setCell ⟨bx, 1, none⟩ (.int .i64 v)) bx bs v bi rv N kv ev kl el Q :=
  h.boxed (grown_setCell _ _ _) (heap_setCell_same _ _ _ _ _ _ h.box)
theorem DbP.setI (h : DbP w X bx bs ba bi rv N kv ev kl el Q) (v : Int) : DbP w (X.setCell ⟨bx, 2, none⟩ (.int .i64 v)) bx bs ba v rv N kv ev kl el Q :=
  h.boxed (grown_setCell _ _ _) (heap_setCell_same _ _ _ _ _ _ h.box)
/-- A state more. -/
theorem DbP.pushS (h : DbP w X bx bs ba bi rv N kv ev kl el Q) {rv' kv0 : Value} {k : List It} (hk : X.ownsRow w.heap.size 68 2 kv0 k.length (itsV k)) (hg : X.grownBy Y rv.ownBlock) (ho : Y.ownsRow w.heap.size 72 2 rv' (N + 1) (stV kv ev N ++ [kv0, .slice none 0 0])) : DbP w Y bx bs ba bi rv' (N + 1) (updL kv N kv0) (updL ev N (.slice none 0 0)) (updL kl N k) (updL el N []) Q := by
  refine ⟨grown_owned h.grown h.row (Nat.le_refl _) hg, box_row h.box h.row (by decide) hg, ?_, fun i hi => ?_, fun i hi => ?_, fun i j hi hj hne => ?_, h.lo, fun v l hq => row_row (h.pas v l hq) h.row (by decide) hg⟩
  · have e : stV (updL kv N kv0) (updL ev N (.slice none 0 0)) (N + 1) = stV kv ev N ++ [kv0, .slice none 0 0] := by
      show stV _ _ N ++ _ = _
      rw [updL_same, updL_same, stV_congr N (fun i hi => ⟨updL_other _ _ (by omega), updL_other _ _ (by omega)⟩)]
    rw [e]; exact ho
  · by_cases e : i = N
    · subst e
      rw [updL_same, updL_same]
      exact row_row hk h.row (by decide) hg
    · rw [updL_other _ _ e, updL_other _ _ e]
      exact row_row (h.ker i (by omega)) h.row (by decide) hg
  · by_cases e : i = N
    · subst e
      rw [updL_same, updL_same]
      exact World.ownsRow_nil _ _ _ _
    · rw [updL_other _ _ e, updL_other _ _ e]
      exact row_row (h.edg i (by omega)) h.row (by decide) hg
  · by_cases e : i = N
    · subst e
      rw [updL_same]
      exact .inl rfl
    · rw [updL_other _ _ e]
      by_cases e2 : j = N
      · subst e2
        rw [updL_same]
        cases hb : (ev i).ownBlock with
        | none => exact .inl rfl
        | some b => exact .inr (by simp [Value.ownBlock])
      · rw [updL_other _ _ e2]
        exact h.sep i j (by omega) (by omega) hne

/-- An edge more in the row of a state: the row itself, ahead of the store. -/
structure DbE (w Y : World) (bx : Nat) (bs : Value) (ba bi : Int) (rv : Value) (N : Nat) (kv ev : Nat → Value) (kl el : Nat → List It) (Q : Value → List It → Prop) (i : Nat) (v : Value) (ed : List It) : Prop where
  grown : w.grownBy Y none
  box : Y.heap[bx]? = some (.cells #[bs, .int .i64 ba, .int .i64 bi] 49 (0, 0))
  row : Y.ownsRow w.heap.size 72 2 rv N (stV kv ev N)
  ker : ∀ i, i < N → Y.ownsRow w.heap.size 68 2 (kv i) (kl i).length (itsV (kl i))
  edg : ∀ j, j < N → j ≠ i → Y.ownsRow w.heap.size 78 2 (ev j) (el j).length (itsV (el j))
  new : Y.ownsRow w.heap.size 78 2 v ed.length (itsV ed)
  sep : ∀ i j, i < N → j < N → i ≠ j → (ev i).ownBlock = none ∨ (ev i).ownBlock ≠ (ev j).ownBlock
  sepN : ∀ j, j < N → j ≠ i → (ev j).ownBlock = none ∨ (ev j).ownBlock ≠ v.ownBlock
  lo : w.heap.size ≤ bx
  pas : ∀ v l, Q v l → Y.ownsRow w.heap.size 68 2 v l.length (itsV l)
theorem DbP.pushE (h : DbP w X bx bs ba bi rv N kv ev kl el Q) {i g c : Nat} {ed : List It} (hi : i < N) (hg : X.grownBy Y (ev i).ownBlock) (ho : Y.ownsRow w.heap.size 78 2 (.slice (some ⟨g, 0, none⟩) ed.length c) ed.length (itsV ed)) (hat : (ev i).ownBlock = some g ∨ g = X.heap.size) : DbE w Y bx bs ba bi rv N kv ev kl el Q i (.slice (some ⟨g, 0, none⟩) ed.length c) ed := by
  refine ⟨grown_owned h.grown (h.edg i hi) (Nat.le_refl _) hg, box_row h.box (h.edg i hi) (by decide) hg, row_row h.row (h.edg i hi) (by decide) hg, fun j hj => row_row (h.ker j hj) (h.edg i hi) (by decide) hg, fun j hj hne => (h.edg j hj).kept hg (h.sep j i hj hi hne), ho, h.sep, fun j hj hne => ?_, h.lo, fun v l hq => row_row (h.pas v l hq) (h.edg i hi) (by decide) hg⟩
  rcases hat with h1 | h1
  · show _ ∨ _ ≠ some g
    rw [← h1]; exact h.sep j i hj hi hne
  · cases hb : (ev j).ownBlock with
    | none => exact .inl rfl
    | some k =>
      right
      intro h2
      have := ((h.edg j hj).lt k hb).2
      have : k = g := by simpa [Value.ownBlock] using h2
      omega
theorem DbE.set {i g cap : Nat} {v : Value} {ed : List It} (h : DbE w X bx bs ba bi rv N kv ev kl el Q i v ed) (hrv : rv = .slice (some ⟨g, 0, none⟩) N cap) (hi : i < N) : DbP w (X.setCell ⟨g, i * 2 + 1, none⟩ v) bx bs ba bi rv N kv (updL ev i v) kl (updL el i ed) Q := by
  have hg : X.grownBy (X.setCell ⟨g, i * 2 + 1, none⟩ v) rv.ownBlock := by rw [hrv]; exact grown_setCell _ _ _
  refine ⟨grown_owned h.grown h.row (Nat.le_refl _) hg, box_row h.box h.row (by decide) hg, ?_, fun j hj => row_row (h.ker j hj) h.row (by decide) hg, fun j hj => ?_, fun j k hj hk hne => ?_, h.lo, fun v l hq => row_row (h.pas v l hq) h.row (by decide) hg⟩
  · have hr := h.row
    refine ⟨by rw [stV_len], ?_⟩
    rcases hr.2 with ⟨h1, h2⟩ | ⟨g2, cap2, cur, h1, hB, hh, h3, h4, h5, h6⟩
    · omega
    · rw [h1] at hrv
      simp only [Value.slice.injEq, Option.some.injEq, Addr.mk.injEq] at hrv
      obtain ⟨⟨rfl, _⟩, _, rfl⟩ := hrv
      refine .inr ⟨g2, cap2, cur.setIfInBounds (i * 2 + 1) v, h1, hB, heap_setCell_same _ _ _ _ _ _ hh, h3, h4, by rw [Array.size_setIfInBounds]; exact h5, ?_⟩
      rw [← stV_set kv ev v N i hi, ← h6, Array.toList_setIfInBounds, List.take_set]
  · by_cases e : j = i
    · subst e
      rw [updL_same, updL_same]
      exact row_row h.new h.row (by decide) hg
    · rw [updL_other _ _ e, updL_other _ _ e]
      exact row_row (h.edg j hj e) h.row (by decide) hg
  · by_cases e : j = i
    · subst e
      have e2 : k ≠ j := fun h => hne h.symm
      rw [updL_same, updL_other _ _ e2]
      rcases h.sepN k hk e2 with h1 | h1
      · rw [h1]
        cases hb : v.ownBlock with
        | none => exact .inl rfl
        | some b => exact .inr (by simp)
      · exact .inr fun h2 => h1 h2.symm
    · rw [updL_other _ _ e]
      by_cases e2 : k = i
      · subst e2
        rw [updL_same]
        exact h.sepN j hj e
      · rw [updL_other _ _ e2]
        exact h.sep j k hj hk hne
theorem DbE.cells {i : Nat} {v : Value} {ed : List It} (h : DbE w X bx bs ba bi rv N kv ev kl el Q i v ed) : X.cell? ⟨bx, 0, none⟩ = some bs := by rw [cell_of_row _ _ _ _ _ _ h.box]; rfl
theorem DbE.kept {i : Nat} {v : Value} {ed : List It} (h : DbE w X bx bs ba bi rv N kv ev kl el Q i v ed) (hg : X.grownBy Y none) : DbE w Y bx bs ba bi rv N kv ev kl el Q i v ed :=
  ⟨grown_trans h.grown hg, box_kept h.box hg, keep0 h.row hg, fun i hi => keep0 (h.ker i hi) hg, fun i hi hn => keep0 (h.edg i hi hn) hg, keep0 h.new hg, h.sep, h.sepN, h.lo, fun v l hq => keep0 (h.pas v l hq) hg⟩
end

/-- The document's automaton between two edges of state i. -/
def DbAt (w X : World) (bx : Nat) (ks : List (List It)) (asked : Int) (el : Nat → List It) (Q : Value → List It → Prop) : Prop := ∃ (sa : Option Addr) (sc : Nat) (kv ev : Nat → Value), DbP w X bx (.slice sa ks.length sc) asked (ks.length : Int) (.slice sa ks.length sc) ks.length kv ev (fun i => ks.getD i []) el Q
theorem DbAt.kept {w X Y : World} {bx : Nat} {ks : List (List It)} {asked : Int} {el : Nat → List It} {Q : Value → List It → Prop} (h : DbAt w X bx ks asked el Q) (hg : X.grownBy Y none) : DbAt w Y bx ks asked el Q := by
  obtain ⟨sa, sc, kv, ev, h1⟩ := h
  exact ⟨sa, sc, kv, ev, h1.kept hg⟩
theorem DbAt.grown {w X : World} {bx : Nat} {ks : List (List It)} {asked : Int} {el : Nat → List It} {Q : Value → List It → Prop} (h : DbAt w X bx ks asked el Q) : w.grownBy X none := by
  obtain ⟨sa, sc, kv, ev, h1⟩ := h
  exact h1.grown
/-- A state more, told of the kernels. -/
theorem db_more {ks : List (List It)} {k : List It} : updL (fun i => ks.getD i []) ks.length k = fun i => (ks ++ [k]).getD i [] := funext fun i => by
  by_cases e : i = ks.length
  · subst e; rw [updL_same, getD_snoc_new]
  · rw [updL_other _ _ e]
    by_cases e2 : i < ks.length
    · rw [getD_snoc_old e2]
    · show ks.getD i [] = _
      rw [List.getD_eq_getElem?_getD, List.getD_eq_getElem?_getD, List.getElem?_eq_none (by omega), List.getElem?_eq_none (by rw [List.length_append, List.length_singleton]; omega)]
theorem db_none {N : Nat} {el : Nat → List It} (h : ∀ i, N ≤ i → el i = []) : updL el N [] = el := funext fun i => by
  by_cases e : i = N
  · subst e; rw [updL_same, h _ (Nat.le_refl _)]
  · rw [updL_other _ _ e]
/-- The kernels that place looks at. -/
theorem DbP.kers {w X : World} {bx : Nat} {bs : Value} {ba bi : Int} {sa : Option Addr} {sc : Nat} {ks : List (List It)} {kv ev : Nat → Value} {el : Nat → List It} {Q : Value → List It → Prop} (h : DbP w X bx bs ba bi (.slice sa ks.length sc) ks.length kv ev (fun i => ks.getD i []) el Q) : ∃ (ka : Nat → Option Addr) (kc : Nat → Nat), KersAt X sa ks ka kc := by
  have hc : ∀ i, ∃ (a : Option Addr) (c : Nat), i < ks.length → kv i = .slice a (ks.getD i []).length c := fun i => by
    by_cases hi : i < ks.length
    · obtain ⟨a, c, e⟩ := owns_cut (h.ker i hi)
      exact ⟨a, c, fun _ => e⟩
    · exact ⟨none, 0, fun h => absurd h hi⟩
  refine ⟨fun i => Classical.choose (hc i), fun i => Classical.choose (Classical.choose_spec (hc i)), ?_⟩
  by_cases h0 : ks = []
  · exact .inl h0
  · have hp : 0 < ks.length := List.length_pos_iff.2 h0
    obtain ⟨g, c, e, h1⟩ := owns_at h.row hp
    right
    refine ⟨g, 0, (by simp only [Value.slice.injEq] at e; exact e.1), fun i hi => ?_⟩
    have e2 := Classical.choose_spec (Classical.choose_spec (hc i)) hi
    have h3 := h.ker i hi
    rw [e2] at h3
    refine ⟨?_, ItsAt.of h3⟩
    rw [Nat.zero_add, ← e2]
    exact h1 _ _ (stV_at kv ev _ i hi).1

end Go.Proofs.YtckgjolaoifgkaaGreat.J

/-
  lr0: the document's Build: an edge more, a declaration of its own (printed by tools/rbedgegen.py).
-/
namespace Go.Proofs.YtckgjolaoifgkaaGreat.J
open Go.RowKit Go.Maps Go.Shelf

attribute [local go_sem] Oper.semAt_some

noncomputable def rbR : Code := ((Tryz.f14.body.map (regionsJ 23)).getD []).getD 0 .skip

set_option maxRecDepth 100000 in
set_option maxHeartbeats 8000000 in
theorem rb_edge {K : Act → World → Prop} {X2 : World} {B bx sb2 N2 sc2 i s t em ec : Nat} {ea : Option Addr} {xs : List Value}
    {v0 v1 v2 v3 v4 v7 v9 v11 v12 v13 v14 v15 v16 v17 v18 v19 v20 v21 v22 v23 v24 v25 v26 v27 v28 v29 v30 v31 v32 v33 v34 v35 v36 v37 v38 v39 v40 v41 v42 v43 v44 v45 v46 v47 v48 v49 v50 v51 v52 v53 v54 v55 v56 v57 v58 v59 v60 v61 v62 v63 v64 v65 v66 v67 v68 v69 v70 v71 v72 v73 v74 v75 v76 v77 v78 v79 v80 v81 v82 v83 v84 v85 v86 v87 v88 v89 v90 v91 v92 v93 v94 v95 v96 : Value}
    (x1 : X2.cell? ⟨bx, 0, none⟩ = some (.slice (some ⟨sb2, 0, none⟩) N2 sc2)) (x2 : X2.cell? ⟨sb2, i * 2 + 1, none⟩ = some (.slice ea em ec))
    (x3 : ∀ o, (X2.alloc o).cell? ⟨bx, 0, none⟩ = some (.slice (some ⟨sb2, 0, none⟩) N2 sc2)) (x4 : ∀ o, (X2.alloc o).cell? ⟨sb2, i * 2 + 1, none⟩ = some (.slice ea em ec))
    (hiN : (i : Int) < (N2 : Int)) (hemb : em ≤ 130)
    (hOW : ∀ Y, X2.grownBy Y none → Y.ownsRow B 78 2 (.slice ea em ec) em xs) (hBS : ∀ Y, X2.grownBy Y none → B ≤ Y.heap.size)
    (hfin : ∀ (Y Z : World) (g c' : Nat), X2.grownBy Y none → Y.grownBy Z (Value.slice ea em ec).ownBlock → Z.ownsRow B 78 2 (.slice (some ⟨g, 0, none⟩) (em + 1) c') (em + 1) (xs ++ [.int .i64 (s : Int), .int .i64 (t : Int)]) → ((Value.slice ea em ec).ownBlock = some g ∨ g = Y.heap.size) → Z.cell? ⟨sb2, i * 2 + 1, none⟩ = some (.slice ea em ec) ∧ Z.frozen? ⟨sb2, i * 2 + 1, none⟩ = false ∧ Z.cell? ⟨bx, 0, none⟩ = some (.slice (some ⟨sb2, 0, none⟩) N2 sc2) ∧ ∀ u80 u81 u82 u83 u84 u85 u86 u87 u88 u89 u90 u91 u92 u93 u94 u95 : Value, K ⟨List.toArray (v0 :: v1 :: v2 :: v3 :: v4 :: .pointer (some ⟨bx, 0, none⟩) :: .int .i64 (i : Int) :: v7 :: .int .i64 (s : Int) :: v9 :: .int .i64 (t : Int) :: v11 :: v12 :: v13 :: v14 :: v15 :: v16 :: v17 :: v18 :: v19 :: v20 :: v21 :: v22 :: v23 :: v24 :: v25 :: v26 :: v27 :: v28 :: v29 :: v30 :: v31 :: v32 :: v33 :: v34 :: v35 :: v36 :: v37 :: v38 :: v39 :: v40 :: v41 :: v42 :: v43 :: v44 :: v45 :: v46 :: v47 :: v48 :: v49 :: v50 :: v51 :: v52 :: v53 :: v54 :: v55 :: v56 :: v57 :: v58 :: v59 :: v60 :: v61 :: v62 :: v63 :: v64 :: v65 :: v66 :: v67 :: v68 :: v69 :: v70 :: v71 :: v72 :: v73 :: v74 :: v75 :: v76 :: v77 :: v78 :: v79 :: u80 :: u81 :: u82 :: u83 :: u84 :: u85 :: u86 :: u87 :: u88 :: u89 :: u90 :: u91 :: u92 :: u93 :: u94 :: u95 :: v96 :: []), []⟩ (Z.setCell ⟨sb2, i * 2 + 1, none⟩ (.slice (some ⟨g, 0, none⟩) (em + 1) c'))) :
    Code.wp Tryz.prog rbR (OnEndJ K) ⟨List.toArray (v0 :: v1 :: v2 :: v3 :: v4 :: .pointer (some ⟨bx, 0, none⟩) :: .int .i64 (i : Int) :: v7 :: .int .i64 (s : Int) :: v9 :: .int .i64 (t : Int) :: v11 :: v12 :: v13 :: v14 :: v15 :: v16 :: v17 :: v18 :: v19 :: v20 :: v21 :: v22 :: v23 :: v24 :: v25 :: v26 :: v27 :: v28 :: v29 :: v30 :: v31 :: v32 :: v33 :: v34 :: v35 :: v36 :: v37 :: v38 :: v39 :: v40 :: v41 :: v42 :: v43 :: v44 :: v45 :: v46 :: v47 :: v48 :: v49 :: v50 :: v51 :: v52 :: v53 :: v54 :: v55 :: v56 :: v57 :: v58 :: v59 :: v60 :: v61 :: v62 :: v63 :: v64 :: v65 :: v66 :: v67 :: v68 :: v69 :: v70 :: v71 :: v72 :: v73 :: v74 :: v75 :: v76 :: v77 :: v78 :: v79 :: v80 :: v81 :: v82 :: v83 :: v84 :: v85 :: v86 :: v87 :: v88 :: v89 :: v90 :: v91 :: v92 :: v93 :: v94 :: v95 :: v96 :: []), []⟩ X2 := by
  obtain ⟨i3, hi3, hv0, hv1, hv2⟩ := info_parts infoEdge
  have HOW : Hid (∀ Y, X2.grownBy Y none → Y.ownsRow B 78 2 (.slice ea em ec) em xs) := hOW
  have HPS : Hid (∀ Y, X2.grownBy Y none → B ≤ Y.heap.size) := hBS
  have HFIN := show Hid _ from hfin
  have hi0 : (0 : Int) ≤ (i : Int) := by omega
  clear hOW hBS hfin
  conv => arg 2; whnf
  go_region_law (first
    | (refine step_append_liesW _ rfl (.tmp 88) (.tmp 92) 70 rfl B 78 i3 (.agg #[.int .i64 0, .int .i64 0]) 2 16 Tryz.underlying70 hi3 hv0 hv1 hv2 rfl (by decide) (.slice ea em ec) em xs (by simp [Act.eval]) (HOW.out _ (grown_trans (World.grownBy_alloc _ _ none) (grown_drewN _ 1))) ⟨X2.heap.size, 0, none⟩ 1 1 [.int .i64 (s : Int), .int .i64 (t : Int)] (by simp [Act.eval]) rfl (World.news_of_block (heap_alloc_last X2 _)) (by simp [Value.oneCell']) (by decide) (by unfold maxLen; omega) (by omega) (HPS.out _ (grown_trans (World.grownBy_alloc _ _ none) (grown_drewN _ 1))) ?_; intro g7 c7 wC hoC hgC hat; obtain ⟨q2, q3, q4, q1⟩ := HFIN.out _ wC g7 c7 (grown_trans (World.grownBy_alloc _ _ none) (grown_drewN _ 1)) hgC hoC hat; have HQ9 := show Hid _ from q1; clear q1 hoC hgC hat)
    | fail)
  all_goals exact HQ9.out _ _ _ _ _ _ _ _ _ _ _ _ _ _ _ _

theorem rb_edgeq {Q0 : Exit → Act → World → Prop} {X2 : World} {B bx sb2 N2 sc2 i s t em ec : Nat} {ea : Option Addr} {xs : List Value}
    {v0 v1 v2 v3 v4 v7 v9 v11 v12 v13 v14 v15 v16 v17 v18 v19 v20 v21 v22 v23 v24 v25 v26 v27 v28 v29 v30 v31 v32 v33 v34 v35 v36 v37 v38 v39 v40 v41 v42 v43 v44 v45 v46 v47 v48 v49 v50 v51 v52 v53 v54 v55 v56 v57 v58 v59 v60 v61 v62 v63 v64 v65 v66 v67 v68 v69 v70 v71 v72 v73 v74 v75 v76 v77 v78 v79 v80 v81 v82 v83 v84 v85 v86 v87 v88 v89 v90 v91 v92 v93 v94 v95 v96 : Value}
    (x1 : X2.cell? ⟨bx, 0, none⟩ = some (.slice (some ⟨sb2, 0, none⟩) N2 sc2)) (x2 : X2.cell? ⟨sb2, i * 2 + 1, none⟩ = some (.slice ea em ec))
    (x3 : ∀ o, (X2.alloc o).cell? ⟨bx, 0, none⟩ = some (.slice (some ⟨sb2, 0, none⟩) N2 sc2)) (x4 : ∀ o, (X2.alloc o).cell? ⟨sb2, i * 2 + 1, none⟩ = some (.slice ea em ec))
    (hiN : (i : Int) < (N2 : Int)) (hemb : em ≤ 130)
    (hOW : ∀ Y, X2.grownBy Y none → Y.ownsRow B 78 2 (.slice ea em ec) em xs) (hBS : ∀ Y, X2.grownBy Y none → B ≤ Y.heap.size)
    (hfin : ∀ (Y Z : World) (g c' : Nat), X2.grownBy Y none → Y.grownBy Z (Value.slice ea em ec).ownBlock → Z.ownsRow B 78 2 (.slice (some ⟨g, 0, none⟩) (em + 1) c') (em + 1) (xs ++ [.int .i64 (s : Int), .int .i64 (t : Int)]) → ((Value.slice ea em ec).ownBlock = some g ∨ g = Y.heap.size) → Z.cell? ⟨sb2, i * 2 + 1, none⟩ = some (.slice ea em ec) ∧ Z.frozen? ⟨sb2, i * 2 + 1, none⟩ = false ∧ Z.cell? ⟨bx, 0, none⟩ = some (.slice (some ⟨sb2, 0, none⟩) N2 sc2) ∧ ∀ u80 u81 u82 u83 u84 u85 u86 u87 u88 u89 u90 u91 u92 u93 u94 u95 : Value, Q0 .normal ⟨List.toArray (v0 :: v1 :: v2 :: v3 :: v4 :: .pointer (some ⟨bx, 0, none⟩) :: .int .i64 (i : Int) :: v7 :: .int .i64 (s : Int) :: v9 :: .int .i64 (t : Int) :: v11 :: v12 :: v13 :: v14 :: v15 :: v16 :: v17 :: v18 :: v19 :: v20 :: v21 :: v22 :: v23 :: v24 :: v25 :: v26 :: v27 :: v28 :: v29 :: v30 :: v31 :: v32 :: v33 :: v34 :: v35 :: v36 :: v37 :: v38 :: v39 :: v40 :: v41 :: v42 :: v43 :: v44 :: v45 :: v46 :: v47 :: v48 :: v49 :: v50 :: v51 :: v52 :: v53 :: v54 :: v55 :: v56 :: v57 :: v58 :: v59 :: v60 :: v61 :: v62 :: v63 :: v64 :: v65 :: v66 :: v67 :: v68 :: v69 :: v70 :: v71 :: v72 :: v73 :: v74 :: v75 :: v76 :: v77 :: v78 :: v79 :: u80 :: u81 :: u82 :: u83 :: u84 :: u85 :: u86 :: u87 :: u88 :: u89 :: u90 :: u91 :: u92 :: u93 :: u94 :: u95 :: v96 :: []), []⟩ (Z.setCell ⟨sb2, i * 2 + 1, none⟩ (.slice (some ⟨g, 0, none⟩) (em + 1) c'))) :
    Code.wp Tryz.prog rbR Q0 ⟨List.toArray (v0 :: v1 :: v2 :: v3 :: v4 :: .pointer (some ⟨bx, 0, none⟩) :: .int .i64 (i : Int) :: v7 :: .int .i64 (s : Int) :: v9 :: .int .i64 (t : Int) :: v11 :: v12 :: v13 :: v14 :: v15 :: v16 :: v17 :: v18 :: v19 :: v20 :: v21 :: v22 :: v23 :: v24 :: v25 :: v26 :: v27 :: v28 :: v29 :: v30 :: v31 :: v32 :: v33 :: v34 :: v35 :: v36 :: v37 :: v38 :: v39 :: v40 :: v41 :: v42 :: v43 :: v44 :: v45 :: v46 :: v47 :: v48 :: v49 :: v50 :: v51 :: v52 :: v53 :: v54 :: v55 :: v56 :: v57 :: v58 :: v59 :: v60 :: v61 :: v62 :: v63 :: v64 :: v65 :: v66 :: v67 :: v68 :: v69 :: v70 :: v71 :: v72 :: v73 :: v74 :: v75 :: v76 :: v77 :: v78 :: v79 :: v80 :: v81 :: v82 :: v83 :: v84 :: v85 :: v86 :: v87 :: v88 :: v89 :: v90 :: v91 :: v92 :: v93 :: v94 :: v95 :: v96 :: []), []⟩ X2 :=
  wp_mono (rb_edge (K := fun a w => Q0 .normal a w) x1 x2 x3 x4 hiN hemb hOW hBS hfin) fun e a w h => by
    cases e <;> first | exact h | exact h.elim

end Go.Proofs.YtckgjolaoifgkaaGreat.J

/-
  lr0: the document's Build, walked.
-/
namespace Go.Proofs.YtckgjolaoifgkaaGreat.J
open Go.RowKit Go.Maps Go.Shelf

attribute [local go_sem] Oper.semAt_some

theorem results_rbuild (tmps : Array Value) (w : World) (g : Nat) (cs : Array Value) (x : Value) (h2 : tmps.getD 2 undef = .pointer (some ⟨g, 0, none⟩)) (h3 : tmps.getD 3 undef = x) (hg : w.heap[g]? = some (.cells cs 49 (0, 0))) (hs : cs.size = 3) :
    (results Tryz.f14 tmps).run Tryz.prog w = .ok (.tuple #[.agg cs, x]) w := by
  have h2' : tmps[2]?.getD undef = .pointer (some ⟨g, 0, none⟩) := by simpa using h2
  have h3' : tmps[3]?.getD undef = x := by simpa using h3
  have hl := run_loadVar_row (P := Tryz.prog) w g 49 49 cs (0, 0) _ hg Tryz.underlying49 rfl (by rw [hs]; kernel_rfl)
  simp [results, Tryz.results14, h2', h3', asAddr, hl]

section
variable (ta na la pa : Option Addr) (tc nc lc pc : Nat) (ts : List (ByteArray × Int)) (ns : List ByteArray) (lv : List Int) (n : Nat) (L : Nat → Int) (R : Nat → List Int) (ra : Nat → Option Addr) (rc : Nat → Nat) (V : Nat → Int) (st : Int) (w : World) (tn nn ln : Nat) (hlen : ts.length = tn ∧ ns.length = nn ∧ lv.length = ln) (hG : GAt w ta na la pa tc nc lc pc ts ns lv n L R ra rc V) (hts : ∀ t ∈ ts, t.1.size ≤ 140737488355328) (hns : ∀ s ∈ ns, s.size ≤ 140737488355328)
include hlen hG hts hns
set_option maxRecDepth 100000 in
theorem rbuildBad (hb : ¬ closedOK ts ns lv st n L R V) : Calls Tryz.prog 14 #[.agg #[.slice ta tn tc, .slice na nn nc, .slice la ln lc, .int .i64 st, .slice pa n pc]] w fun e y => e = .returned (.tuple #[.agg #[.slice none 0 0, .int .i64 0, .int .i64 0], .int .i64 1]) ∧ w.grownBy y none := by
  have HCL : Hid (∀ X, w.grownBy X none → Calls Tryz.prog 25 #[.agg #[.slice ta tn tc, .slice na nn nc, .slice la ln lc, .int .i64 st, .slice pa n pc]] X fun e w' => e = .returned (.bool false) ∧ X.grownBy w' none) := fun X hX => by
    have := rclosed_any ta na la pa tc nc lc pc st ts ns lv n L R ra rc V X (hG.kept hX) hts hns false ⟨(fun h => by cases h), fun h => absurd h hb⟩
    rwa [hlen.1, hlen.2.1, hlen.2.2] at this
  have HX0 : Hid (w.grownBy ((w.alloc (.cells #[.slice ta tn tc, .slice na nn nc, .slice la ln lc, .int .i64 st, .slice pa n pc] 27)).alloc (.cells #[.slice none 0 0, .int .i64 0, .int .i64 0] 49)) none) := grown_trans (World.grownBy_alloc _ _ none) (World.grownBy_alloc _ _ none)
  have HB0 : Hid (((w.alloc (.cells #[.slice ta tn tc, .slice na nn nc, .slice la ln lc, .int .i64 st, .slice pa n pc] 27)).alloc (.cells #[.slice none 0 0, .int .i64 0, .int .i64 0] 49)).heap[w.heap.size + 1]? = some (.cells #[.slice none 0 0, .int .i64 0, .int .i64 0] 49 (0, 0))) := by
    have h := heap_alloc_last (w.alloc (.cells #[.slice ta tn tc, .slice na nn nc, .slice la ln lc, .int .i64 st, .slice pa n pc] 27)) (.cells #[.slice none 0 0, .int .i64 0, .int .i64 0] 49)
    rw [World.size_alloc] at h; exact h
  clear hlen hG hb hts hns
  go_enter Tryz.func14, Tryz.ntmps14
  go_wp2_with fail
  refine Calls.mono (HCL.out _ HX0.out) ?_
  rintro e w1 ⟨rfl, hg1⟩
  have HB1 : Hid (w1.heap[w.heap.size + 1]? = some (.cells #[.slice none 0 0, .int .i64 0, .int .i64 0] 49 (0, 0))) := box_kept HB0.out hg1
  have HG1 : Hid (w.grownBy w1 none) := grown_trans HX0.out hg1
  clear hg1 HB0 HX0
  have k0 := cell_of_row w1 (w.heap.size + 1) 0 _ _ _ HB1.out
  have k1 := cell_of_row w1 (w.heap.size + 1) 1 _ _ _ HB1.out
  have k2 := cell_of_row w1 (w.heap.size + 1) 2 _ _ _ HB1.out
  have kf := fun j => frozen_of_row w1 (w.heap.size + 1) j _ _ HB1.out
  simp only [List.getElem?_toArray, List.getElem?_cons_zero, List.getElem?_cons_succ] at k0 k1 k2
  go_wp2_with fail
  refine bodyPost_ret (v := .tuple #[.agg #[.slice none 0 0, .int .i64 0, .int .i64 0], .int .i64 1]) ?_ rfl ?_
  · exact results_rbuild _ _ (w.heap.size + 1) _ _ rfl rfl (set3_heap HB1.out _ _ _) rfl
  · exact ⟨rfl, grown_new HG1.out (set3_grown _ _ _ _ _) (by omega)⟩

set_option maxRecDepth 100000 in
set_option maxHeartbeats 4000000 in
theorem rbuildOk (hc : closedOK ts ns lv st n L R V) : Calls Tryz.prog 14 #[.agg #[.slice ta tn tc, .slice na nn nc, .slice la ln lc, .int .i64 st, .slice pa n pc]] w fun e y => AutTold w tn n (tn + nn) L R e y := by
  have hM : MayOK tn nn n st L R true := by obtain ⟨rfl, rfl, rfl⟩ := hlen; exact mayOK_closed hc
  have HCL : Hid (∀ X, w.grownBy X none → Calls Tryz.prog 25 #[.agg #[.slice ta tn tc, .slice na nn nc, .slice la ln lc, .int .i64 st, .slice pa n pc]] X fun e w' => e = .returned (.bool true) ∧ X.grownBy w' none) := fun X hX => by
    have := rclosed_any ta na la pa tc nc lc pc st ts ns lv n L R ra rc V X (hG.kept hX) hts hns true ⟨fun _ => hc, fun _ => rfl⟩
    rwa [hlen.1, hlen.2.1, hlen.2.2] at this
  obtain ⟨S, hS⟩ : ∃ S, S = tn + nn := ⟨_, rfl⟩
  have hSz : S ≤ 130 := by have := hM.tmax; have := hM.nmax; omega
  have HRR : Hid (∀ k, k < n → ∀ x ∈ R k, (0 : Int) ≤ x ∧ x < ((tn + nn : Nat) : Int)) := fun k hk x hx => ⟨by have := hM.right k hk x hx; omega, (hM.right k hk x hx).2⟩
  have HAU : Hid (∀ i ks es, autoF (GG tn n L R) S i = some (ks, es) → AuOK (PJ n R) (GG tn n L R) S i ks es ∧ askN es ≤ 33281) := fun i ks es h => by
    rw [hS] at h ⊢
    exact ⟨auOK hM.p0 h, askN_le hM.p0 (by omega) h⟩
  have HSY : Hid (∀ X, Calls Tryz.prog 27 #[.agg #[.slice ta tn tc, .slice na nn nc, .slice la ln lc, .int .i64 st, .slice pa n pc]] X fun e y => e = .returned (.int .i64 (S : Int)) ∧ X.grownBy y none) := fun X => by
    have h1 := hM.tmax
    have h2 := hM.nmax
    refine (Go.Proofs.YtckgjolaoifgkaaGreat.symbols_any ta na la pa tn nn ln n tc nc lc pc st X (by omega) (by omega)).mono ?_
    rintro e y ⟨rfl, hg⟩
    exact ⟨by rw [hS, Int.natCast_add], hg⟩
  have HCS : Hid (∀ X a cap (I : List It), w.grownBy X none → ItsAt X a I → I.length ≤ 8796093022208 → (∀ x ∈ I, itB n R x = true) → Calls Tryz.prog 26 #[.agg #[.slice ta tn tc, .slice na nn nc, .slice la ln lc, .int .i64 st, .slice pa n pc], .slice a I.length cap] X fun e y => CloTold tn n L R I X e y) := fun X a cap I hX hI hIb hit => rclos_any ta na la pa tc nc lc pc n L R ra rc V st X tn nn ln (prods_kept hG.prods hX) hM.pmax hM.p0 hM.tmax hM.nmax HRR.out a cap I hI hIb hit
  have HFR : Hid (∀ X a cap (l : List It) (s : Int), w.grownBy X none → ItsAt X a l → l.length ≤ 8796093035208 → (∀ x ∈ l, itB n R x = true) → Asc l → Calls Tryz.prog 28 #[.agg #[.slice ta tn tc, .slice na nn nc, .slice la ln lc, .int .i64 st, .slice pa n pc], .int .i64 s, .slice a l.length cap] X fun e y => ItsTold (kerT R l s) X e y) := fun X a cap l s hX hl hlb hit hasc => rfrom_any ta na la pa tc nc lc pc n L R ra rc V st s X tn nn ln (prods_kept hG.prods hX) (gright hG.prods) a cap l hl hlb hit hasc
  have HZ : Hid (∀ k : List It, (∀ x ∈ k, itB n R x = true) → GG tn n L R k 0 = []) := fun k hk => GG_zero' hk (fun k hk x hx => (hM.right k hk x hx).1)
  have HX0 : Hid (w.grownBy ((w.alloc (.cells #[.slice ta tn tc, .slice na nn nc, .slice la ln lc, .int .i64 st, .slice pa n pc] 27)).alloc (.cells #[.slice none 0 0, .int .i64 0, .int .i64 0] 49)) none) := grown_trans (World.grownBy_alloc _ _ none) (World.grownBy_alloc _ _ none)
  have HP0 : Hid (PhAt w ((w.alloc (.cells #[.slice ta tn tc, .slice na nn nc, .slice la ln lc, .int .i64 st, .slice pa n pc] 27)).alloc (.cells #[.slice none 0 0, .int .i64 0, .int .i64 0] 49)) w.heap.size #[.slice ta tn tc, .slice na nn nc, .slice la ln lc, .int .i64 st, .slice pa n pc]) := PhAt.kept ⟨World.grownBy_alloc _ _ none, heap_alloc_last w _⟩ (World.grownBy_alloc _ _ none)
  have HB0 : Hid (((w.alloc (.cells #[.slice ta tn tc, .slice na nn nc, .slice la ln lc, .int .i64 st, .slice pa n pc] 27)).alloc (.cells #[.slice none 0 0, .int .i64 0, .int .i64 0] 49)).heap[w.heap.size + 1]? = some (.cells #[.slice none 0 0, .int .i64 0, .int .i64 0] 49 (0, 0))) := by
    have h := heap_alloc_last (w.alloc (.cells #[.slice ta tn tc, .slice na nn nc, .slice la ln lc, .int .i64 st, .slice pa n pc] 27)) (.cells #[.slice none 0 0, .int .i64 0, .int .i64 0] 49)
    rw [World.size_alloc] at h; exact h
  have HPN : Hid (0 < n ∧ n ≤ 97) := ⟨hM.p0, hM.pmax⟩
  have hS1 : 1 ≤ S := by have := hM.t0; omega
  rw [← hS]
  clear hlen hG hc hM hts hns hS HRR
  obtain ⟨i2, hi2, hu0, hu1, hu2⟩ := info_parts infoState
  obtain ⟨i3, hi3, hv0, hv1, hv2⟩ := info_parts infoEdge
  go_enter Tryz.func14, Tryz.ntmps14
  go_wp2_with fail
  refine Calls.mono (HCL.out _ HX0.out) ?_
  rintro e P ⟨rfl, hg1⟩
  have HB1 : Hid (P.heap[w.heap.size + 1]? = some (.cells #[.slice none 0 0, .int .i64 0, .int .i64 0] 49 (0, 0))) := box_kept HB0.out hg1
  have HP1 : Hid (PhAt w P w.heap.size #[.slice ta tn tc, .slice na nn nc, .slice la ln lc, .int .i64 st, .slice pa n pc]) := HP0.out.kept hg1
  clear hg1 HB0 HX0 HP0
  have HA1 := show Hid _ from heap_alloc_last P (.cells #[.slice none 0 0, .int .i64 1, .int .i64 1] 49)
  have HA2 : Hid (((P.alloc (.cells #[.slice none 0 0, .int .i64 1, .int .i64 1] 49)).alloc (.cells #[.int .i64 0, .int .i64 0] 68)).heap[P.heap.size + 1]? = some (.cells #[.int .i64 0, .int .i64 0] 68 (0, 0))) := by
    have h := heap_alloc_last (P.alloc (.cells #[.slice none 0 0, .int .i64 1, .int .i64 1] 49)) (.cells #[.int .i64 0, .int .i64 0] 68)
    rw [World.size_alloc] at h; exact h
  have HNW : Hid (∀ j z, [Value.slice (some ⟨P.heap.size + 1, 0, none⟩) 1 1, Value.slice none 0 0][j]? = some z → (((P.alloc (.cells #[.slice none 0 0, .int .i64 1, .int .i64 1] 49)).alloc (.cells #[.int .i64 0, .int .i64 0] 68)).alloc (.cells #[.slice (some ⟨P.heap.size + 1, 0, none⟩) 1 1, .slice none 0 0] 72)).cell? ((⟨P.heap.size + 1 + 1, 0, none⟩ : Addr).add j) = some z) := by
    have h := heap_alloc_last ((P.alloc (.cells #[.slice none 0 0, .int .i64 1, .int .i64 1] 49)).alloc (.cells #[.int .i64 0, .int .i64 0] 68)) (.cells #[.slice (some ⟨P.heap.size + 1, 0, none⟩) 1 1, .slice none 0 0] 72)
    rw [World.size_alloc, World.size_alloc] at h
    exact World.news_of_block h
  go_wp2_with (at_builtin; refine wpList_append_srcW rfl (.tmp 18) (.tmp 22) 47 rfl P.heap.size 72 i2 (.agg #[.slice none 0 0, .slice none 0 0]) 2 48 Tryz.underlying47 hi2 hu0 hu1 hu2 rfl (by decide) (.slice none 0 0) 0 [] rfl (World.ownsRow_nil _ _ _ _) (some ⟨P.heap.size + 1 + 1, 0, none⟩) 1 1 [.slice (some ⟨P.heap.size + 1, 0, none⟩) 1 1, .slice none 0 0] rfl (fun h => by cases h) rfl (fun ad e => by cases e; exact HNW.out) (by simp [Value.oneCell']) (by unfold maxLen; omega) (by omega) (by simp; omega) ?_)
  intro v8 wB hoB hgB
  obtain ⟨s8, c8, rfl⟩ := owns_cut hoB
  have hgA : ((P.alloc (.cells #[.slice none 0 0, .int .i64 1, .int .i64 1] 49)).alloc (.cells #[.int .i64 0, .int .i64 0] 68)).grownBy wB none := grown_trans (World.grownBy_alloc _ _ none) hgB
  have hbB : wB.heap[P.heap.size]? = some (.cells #[.slice none 0 0, .int .i64 1, .int .i64 1] 49 (0, 0)) := box_kept HA1.out (grown_trans (World.grownBy_alloc _ _ none) hgA)
  obtain ⟨bx, hbx⟩ : ∃ b, b = P.heap.size := ⟨_, rfl⟩
  have HD0 : Hid (DbP P wB bx (.slice none 0 0) 1 1 (.slice s8 1 c8) 1 (fun _ => .slice (some ⟨P.heap.size + 1, 0, none⟩) 1 1) (fun _ => .slice none 0 0) (fun i => [[((0 : Int), (0 : Int))]].getD i []) (elF []) (fun _ _ => False)) := by
    refine ⟨grown_trans (World.grownBy_alloc _ _ none) (grown_trans (World.grownBy_alloc _ _ none) hgA), by rw [hbx]; exact hbB, hoB, fun i hi => ?_, fun i hi => World.ownsRow_nil _ _ _ _, fun i j _ _ _ => .inl rfl, by rw [hbx]; exact Nat.le_refl _, fun v l h => h.elim⟩
    obtain rfl : i = 0 := by omega
    exact ⟨rfl, .inr ⟨P.heap.size + 1, 1, #[.int .i64 0, .int .i64 0], rfl, by omega, box_kept HA2.out hgA, Nat.le_refl _, by unfold maxLen; omega, rfl, rfl⟩⟩
  have HD1 : Hid (DbAt P (wB.setCell ⟨bx, 0, none⟩ (.slice s8 1 c8)) bx [[(0, 0)]] ((askN [] : Nat) : Int) (elF []) (fun _ _ => False)) := ⟨s8, c8, _, _, HD0.out.setS _⟩
  obtain ⟨k0, _, _⟩ := HD0.out.cells
  have kf := HD0.out.free 0
  rw [← hbx]
  clear hoB hgB hgA hbB HA1 HA2 HNW HD0 hbx
  go_wp2_with fail
  obtain ⟨X5, hX5⟩ : ∃ X5, X5 = wB.setCell ⟨bx, 0, none⟩ (.slice s8 1 c8) := ⟨_, rfl⟩
  rw [← hX5] at HD1
  try rw [← hX5]
  clear k0 kf hX5
  go_loopg [6] 256 (fun gk v6 wr => ∃ (i : Nat) (ks : List (List It)) (es : List (List (Nat × Nat))), autoF (GG tn n L R) S i = some (ks, es) ∧ i ≤ ks.length ∧ gk = 256 - i ∧ v6 = .int .i64 i ∧ DbAt P wr bx ks (askN es : Int) (elF es) (fun _ _ => False))
  case atStart => exact ⟨0, [[(0, 0)]], [], rfl, Nat.zero_le _, rfl, rfl, HD1.out⟩
  case round =>
    obtain ⟨i, ks, es, hau, hi, hgi, rfl, hmk⟩ := hrel
    have HGI : Hid (gk = 256 - i) := hgi
    have HA : Hid (autoF (GG tn n L R) S i = some (ks, es)) := hau
    obtain ⟨hAO, hAN⟩ := HAU.out i ks es hau
    have HAO : Hid (AuOK (PJ n R) (GG tn n L R) S i ks es) := hAO
    obtain ⟨sa, sc, kv, ev, hD⟩ := hmk
    have HD : Hid (DbP P wr bx (.slice sa ks.length sc) (askN es : Int) (ks.length : Int) (.slice sa ks.length sc) ks.length kv ev (fun i => ks.getD i []) (elF es) (fun _ _ => False)) := hD
    obtain ⟨N, hN⟩ : ∃ n, n = ks.length := ⟨_, rfl⟩
    have HN : Hid (N = ks.length) := hN
    have hN256 : N ≤ 256 := by rw [hN]; exact hAO.kok.le
    obtain ⟨y0, y1, y2⟩ := hD.cells
    rw [← hN] at hi y0 y2
    by_cases hlt : i < N
    · have hid : decide (i < N) = true := decide_eq_true hlt
      have hi0 : (0 : Int) ≤ (i : Int) := by omega
      have hi1 : (i : Int) < (N : Int) := by omega
      have hil : i < ks.length := by rw [← hN]; exact hlt
      obtain ⟨sb, sc2, hse, hscell⟩ := owns_at hD.row (by omega)
      simp only [Value.slice.injEq] at hse
      obtain ⟨rfl, _, rfl⟩ := hse
      have hr1 := hscell _ _ (stV_at kv ev ks.length i hil).1
      obtain ⟨ka, kc, hkv⟩ := owns_cut (hD.ker i hil)
      have hkr := hD.ker i hil
      rw [hkv] at hr1 hkr
      have hqb : (ks.getD i []).length ≤ 3328001 := by
        have h1 := (hAO.kok.each i hil).2
        have h3 : 13000 * i ≤ 13000 * 256 := Nat.mul_le_mul_left _ (by omega)
        omega
      obtain ⟨kq, hkq⟩ : ∃ q, q = (ks.getD i []).length := ⟨_, rfl⟩
      have HCC : Hid (∀ Y, wr.grownBy Y none → Calls Tryz.prog 26 #[.agg #[.slice ta tn tc, .slice na nn nc, .slice la ln lc, .int .i64 st, .slice pa n pc], .slice ka kq kc] Y fun e y => CloTold tn n L R (ks.getD i []) Y e y) := fun Y hY => by
        rw [hkq]
        exact HCS.out Y ka kc (ks.getD i []) (grown_trans HP1.out.grown (grown_trans hD.grown hY)) (ItsAt.of (keep0 hkr hY)) (by omega) (hAO.kok.each i hil).1
      have HKS : Hid (∀ Y, wr.grownBy Y none → (Y.cell? ⟨w.heap.size, 0, none⟩ = some (.slice ta tn tc) ∧ Y.cell? ⟨w.heap.size, 1, none⟩ = some (.slice na nn nc) ∧ Y.cell? ⟨w.heap.size, 2, none⟩ = some (.slice la ln lc) ∧ Y.cell? ⟨w.heap.size, 3, none⟩ = some (.int .i64 st) ∧ Y.cell? ⟨w.heap.size, 4, none⟩ = some (.slice pa n pc)) ∧ Y.cell? ⟨bx, 0, none⟩ = some (.slice (some ⟨sb, 0, none⟩) N sc) ∧ Y.cell? ⟨sb, i * 2, none⟩ = some (.slice ka kq kc)) := fun Y hY => ⟨(HP1.out.kept (grown_trans hD.grown hY)).cells, hY.cell y0 (by simp), by rw [hkq]; exact hY.cell hr1 (by simp)⟩
      have HQB : Hid ((ks.getD i []).length ≤ 3328001) := hqb
      have HUP : Hid (wr.grownBy wr.drew none) := grown_drewN _ 1
      clear hgi hau hAO hD hN hscell hr1 hkv hkr hqb hkq hil y1 y2 HD1
      go_wp2_with fail
      clear y0
      go_region_held3 (fun Y => (Y.cell? ⟨w.heap.size, 0, none⟩ = some (.slice ta tn tc) ∧ Y.cell? ⟨w.heap.size, 1, none⟩ = some (.slice na nn nc) ∧ Y.cell? ⟨w.heap.size, 2, none⟩ = some (.slice la ln lc) ∧ Y.cell? ⟨w.heap.size, 3, none⟩ = some (.int .i64 st) ∧ Y.cell? ⟨w.heap.size, 4, none⟩ = some (.slice pa n pc)) ∧ Y.cell? ⟨bx, 0, none⟩ = some (.slice (some ⟨sb, 0, none⟩) N sc) ∧ Y.cell? ⟨sb, i * 2, none⟩ = some (.slice ka kq kc)) (first | exact HKS.out _ HUP.out | exact HKS.out _ HG4.out | go_keep)
        ((first
          | (go_at_call 26; refine Calls.mono (HCC.out _ HUP.out) ?_; rintro e w4 ⟨l, hIC, hll, a3, c3, rfl, ho3, hg4⟩; have HG4 : Hid (wr.grownBy w4 none) := grown_trans HUP.out hg4; have HIC : Hid (IsClo tn n L R (ks.getD i []) l ∧ l.length ≤ (ks.getD i []).length + 13000) := ⟨hIC, hll⟩; have HO3 : Hid (w4.ownsRow wr.drew.heap.size 68 2 (.slice a3 l.length c3) l.length (itsV l)) := ho3; clear hIC hll ho3 hg4)
          | fail))
      have HIM : Hid (∀ x ∈ l, itB n R x = true) := fun x hx => ((HIC.out.1.mem x).1 hx).item (HAO.out.kok.each i (by rw [← HN.out]; exact hlt)).1
      have HGE : Hid (GG tn n L R (ks.getD i []) = fun s : Nat => kerT R l (s : Int)) := GG_eq HIC.out.1 HIC.out.2
      have HIL : Hid (i < ks.length) := by show _ < _; rw [← HN.out]; exact hlt
      have HLV : Hid (∀ s ks' ed, leaveF (fun s : Nat => kerT R l (s : Int)) ks s = some (ks', ed) → KsOK (PJ n R) ks' ∧ ks <+: ks' ∧ ed.length ≤ s) := fun s ks' ed h => by
        obtain ⟨h1, h2, h3, _⟩ := HAO.out.kok.leave (G := fun s : Nat => kerT R l (s : Int)) (fun m t hm => PJ.ker (HAO.out.kok.each i HIL.out) HIM.out HIC.out.2 (Nat.lt_of_lt_of_le HIL.out hm)) s h
        exact ⟨h1, h2, h3⟩
      have HLB : Hid (l.length ≤ 3341001) := by have h1 := HIC.out.2; have h2 := HQB.out; show _ ≤ _; omega
      have HEI : Hid (es.length = i) := by show _ = _; rw [HAO.out.len]; have := HIL.out; omega
      have HE0 : Hid (updL (elF es) i (edI []) = elF es) := by
        have h := elF_out (es := es) (j := i) (by rw [HEI.out]; exact Nat.le_refl _)
        refine funext fun j => ?_
        by_cases e : j = i
        · rw [e, updL_same, h]; rfl
        · rw [updL_other _ _ e]
      have HL1 : Hid (leaveF (fun s : Nat => kerT R l (s : Int)) ks 1 = some (ks, [])) := leaveF_skip rfl (by have h := HZ.out (ks.getD i []) (HAO.out.kok.each i HIL.out).1; rw [HGE.out] at h; exact h)
      obtain ⟨ak, hak⟩ : ∃ a : Nat, a = askN es := ⟨_, rfl⟩
      have HAK : Hid (ak = askN es) := hak
      have hakb : ak ≤ 33281 := by rw [hak]; exact hAN
      obtain ⟨q, hq⟩ : ∃ q, q = l.length := ⟨_, rfl⟩
      have HQ : Hid (q = l.length) := hq
      obtain ⟨Q1, hQ1⟩ : ∃ Q : Value → List It → Prop, Q = fun v m => v = .slice a3 q c3 ∧ m = l := ⟨_, rfl⟩
      have HQ1 : Hid (Q1 = fun v m => v = .slice a3 q c3 ∧ m = l) := hQ1
      have HD4 : Hid (DbAt P w4 bx ks ((ak + ([] : List (Nat × Nat)).length : Nat) : Int) (updL (elF es) i (edI [])) Q1) := by
        rw [HE0.out, List.length_nil, Nat.add_zero, hak]
        refine ⟨_, _, kv, ev, (HD.out.kept HG4.out).mono fun v m hm => ?_⟩
        rw [hQ1] at hm
        obtain ⟨rfl, rfl⟩ := hm
        rw [hq]
        exact owns_base HO3.out (Nat.le_trans HD.out.grown.size HUP.out.size)
      have HGF : Hid (∀ Y (s : Int), w.grownBy Y none → ItsAt Y a3 l → Calls Tryz.prog 28 #[.agg #[.slice ta tn tc, .slice na nn nc, .slice la ln lc, .int .i64 st, .slice pa n pc], .int .i64 s, .slice a3 q c3] Y fun e y => ItsTold (kerT R l s) Y e y) := fun Y s hY hI => by
        rw [hq]
        exact HFR.out Y a3 c3 l s hY hI (by have := HLB.out; omega) HIM.out HIC.out.1.asc
      rw [← hq]
      clear hq hak hQ1 hAN HKS HUP HCC HO3 HD
      go_wp2_with fail
      go_loopg [8] (S - 1) (fun gk v8 wr => ∃ (s : Nat) (ks' : List (List It)) (ed : List (Nat × Nat)), s ≤ S ∧ gk = S - s ∧ v8 = .int .i64 s ∧ leaveF (fun s : Nat => kerT R l (s : Int)) ks s = some (ks', ed) ∧ DbAt P wr bx ks' ((ak + ed.length : Nat) : Int) (updL (elF es) i (edI ed)) Q1)
      case atStart => exact ⟨1, ks, [], hS1, rfl, rfl, HL1.out, HD4.out⟩
      case round =>
        obtain ⟨s, ks', ed, hs, hgs, rfl, hlv, hD5⟩ := hrel
        have HGS : Hid (gk = S - s) := hgs
        have HLF : Hid (leaveF (fun s : Nat => kerT R l (s : Int)) ks s = some (ks', ed)) := hlv
        have HD5 : Hid (DbAt P wr bx ks' ((ak + ed.length : Nat) : Int) (updL (elF es) i (edI ed)) Q1) := hD5
        obtain ⟨hk1, hk2, hk3⟩ := HLV.out _ _ _ hlv
        obtain ⟨em, hem⟩ : ∃ m, m = ed.length := ⟨_, rfl⟩
        have HEM : Hid (em = ed.length) := hem
        have hems : em ≤ S := by omega
        have HK1 : Hid (KsOK (PJ n R) ks') := hk1
        have HI5 : Hid (i < ks'.length) := Nat.lt_of_lt_of_le HIL.out hk2.length_le
        rw [← hem] at HD5
        clear hgs hlv hD5 hk1 hk2 hk3 hem HD4
        obtain ⟨k0, k1, k2, k3, k4⟩ := (HP1.out.kept HD5.out.grown).cells
        go_wp2_with fail
        refine Calls.mono (HSY.out _) ?_
        rintro e w5 ⟨rfl, hg5⟩
        have HD6 : Hid (DbAt P w5 bx ks' ((ak + em : Nat) : Int) (updL (elF es) i (edI ed)) Q1) := HD5.out.kept hg5
        clear hg5 HD5 k0 k1 k2 k3 k4
        obtain ⟨k0, k1, k2, k3, k4⟩ := (HP1.out.kept HD6.out.grown).cells
        by_cases hlt2 : s < S
        · have hsd : decide (s < S) = true := decide_eq_true hlt2
          have HFC : Hid (Calls Tryz.prog 28 #[.agg #[.slice ta tn tc, .slice na nn nc, .slice la ln lc, .int .i64 st, .slice pa n pc], .int .i64 (s : Int), .slice a3 q c3] w5 fun e y => ItsTold (kerT R l (s : Int)) w5 e y) := by
            obtain ⟨sa5, sc5, kv5, ev5, h5⟩ := HD6.out
            have h6 := h5.pas (.slice a3 q c3) l (by rw [HQ1.out]; exact ⟨rfl, rfl⟩)
            exact HGF.out w5 (s : Int) (grown_trans HP1.out.grown h5.grown) (ItsAt.of (by rw [← HQ.out]; rw [← HQ.out] at h6; exact h6))
          go_wp2_with fail
          refine Calls.mono HFC.out ?_
          rintro e w6 ⟨a9, c9, rfl, ho9, hg6⟩
          obtain ⟨K, hK⟩ : ∃ K, K = kerT R l (s : Int) := ⟨_, rfl⟩
          have HKK : Hid (K = kerT R l (s : Int)) := hK
          have HKL : Hid (K.length ≤ 3341001) := by show _ ≤ _; rw [hK]; exact Nat.le_trans (kerT_len R l (s : Int)) HLB.out
          rw [← hK] at ho9 ⊢
          obtain ⟨kl, hkl⟩ : ∃ k, k = K.length := ⟨_, rfl⟩
          have HKN : Hid (kl = K.length) := hkl
          rw [← hkl] at ho9 ⊢
          have HO9 : Hid (w6.ownsRow P.heap.size 68 2 (.slice a9 kl c9) kl (itsV K)) := owns_base ho9 HD6.out.grown.size
          have HD7 : Hid (DbAt P w6 bx ks' ((ak + em : Nat) : Int) (updL (elF es) i (edI ed)) Q1) := HD6.out.kept hg6
          clear hK hkl ho9 hg6 HFC HD6 k0 k1 k2 k3 k4
          by_cases hk0 : kl = 0
          · have hkz : ((kl : Int) == 0) = true := beq_iff_eq.2 (by omega)
            have hkz1 : (kl == 0) = true := beq_iff_eq.2 hk0
            have HLF2 : Hid (leaveF (fun s : Nat => kerT R l (s : Int)) ks (s + 1) = some (ks', ed)) := leaveF_skip HLF.out (by show kerT R l (s : Int) = []; rw [← HKK.out]; exact List.eq_nil_of_length_eq_zero (by rw [← HKN.out]; exact hk0))
            clear hk0
            go_wp2_with fail
            go_roundg (S - (s + 1))
            case measure => have := HGS.out; omega
            case rel => exact ⟨s + 1, ks', ed, by omega, rfl, by go_num, HLF2.out, by rw [← HEM.out]; exact HD7.out⟩
          · have hkz : ((kl : Int) == 0) = false := beq_eq_false_iff_ne.2 (by omega)
            have hkz1 : (kl == 0) = false := beq_eq_false_iff_ne.2 hk0
            have HNE : Hid (kerT R l (s : Int) ≠ []) := by
              intro h
              rw [← HKK.out] at h
              exact hk0 (by rw [HKN.out, h]; rfl)
            obtain ⟨sa7, sc7, kv7, ev7, hD7⟩ := HD7.out
            obtain ⟨c, hc⟩ : ∃ c, c = ak + em := ⟨_, rfl⟩
            have HCA : Hid (c = ak + em) := hc
            have hcb : c ≤ 100000 := by omega
            obtain ⟨Q2, hQ2⟩ : ∃ Q : Value → List It → Prop, Q = fun v m => Q1 v m ∨ (v = .slice a9 kl c9 ∧ m = K) := ⟨_, rfl⟩
            have HQ2 : Hid (Q2 = fun v m => Q1 v m ∨ (v = .slice a9 kl c9 ∧ m = K)) := hQ2
            have hD7' : DbP P w6 bx (.slice sa7 ks'.length sc7) (c : Int) (ks'.length : Int) (.slice sa7 ks'.length sc7) ks'.length kv7 ev7 (fun i => ks'.getD i []) (updL (elF es) i (edI ed)) Q2 := by
              rw [hc]
              refine hD7.mono fun v m hm => ?_
              rw [hQ2] at hm
              rcases hm with hm | ⟨rfl, rfl⟩
              · exact hD7.pas v m hm
              · rw [← HKN.out]; exact HO9.out
            have hD8 := hD7'.setA ((c : Int) + 1)
            obtain ⟨X8, hX8⟩ : ∃ X, X = w6.setCell ⟨bx, 1, none⟩ (.int .i64 ((c : Int) + 1)) := ⟨_, rfl⟩
            have HX8 : Hid (X8 = w6.setCell ⟨bx, 1, none⟩ (.int .i64 ((c : Int) + 1))) := hX8
            rw [← hX8] at hD8
            obtain ⟨-, y1, -⟩ := hD7'.cells
            have f1 := hD7'.free 1
            obtain ⟨z0, -, -⟩ := hD8.cells
            obtain ⟨M, hM⟩ : ∃ m, m = ks'.length := ⟨_, rfl⟩
            have HM : Hid (M = ks'.length) := hM
            have hM256 : M ≤ 256 := by rw [hM]; exact HK1.out.le
            have hiM : i < M := by rw [hM]; exact HI5.out
            have hwc : IntKind.i64.wrap ((c : Int) + 1) = (c : Int) + 1 := by rw [IntKind.wrap_i64]; omega
            obtain ⟨pv, hpv⟩ : ∃ v, v = placeV ks' K := ⟨_, rfl⟩
            have HPL : Hid (Calls Tryz.prog 29 #[.slice sa7 M sc7, .slice a9 kl c9] X8 fun e y => e = .returned (.int .i64 pv) ∧ X8.grownBy y none) := by
              obtain ⟨pa7, pc7, h7⟩ := hD8.kers
              have h8 := hD8.pas (.slice a9 kl c9) K (by rw [hQ2]; exact .inr ⟨rfl, rfl⟩)
              rw [hM, hpv, HKN.out]
              rw [HKN.out] at h8
              refine rplace_any sa7 a9 sc7 c9 ks' pa7 pc7 K X8 h7 (ItsAt.of h8) HK1.out.le (fun j hj => ?_) (by have := HKL.out; omega)
              have h1 := (HK1.out.each j hj).2
              have h2 := HK1.out.le
              have h4 : 13000 * j ≤ 13000 * 256 := Nat.mul_le_mul_left _ (by omega)
              omega
            have HD8 : Hid (DbP P X8 bx (.slice sa7 M sc7) ((c : Int) + 1) (M : Int) (.slice sa7 M sc7) M kv7 ev7 (fun i => ks'.getD i []) (updL (elF es) i (edI ed)) Q2) := by rw [hM]; exact hD8
            rw [← hM] at z0
            rw [hX8] at z0
            have HPV : Hid (pv = placeV ks' K) := hpv
            clear hc hQ2 hD7 hD7' hD8 hX8 hM hpv HD7 HO9
            go_wp2_with fail
            rw [← HX8.out]
            refine Calls.mono HPL.out ?_
            rintro e w9 ⟨rfl, hg9⟩
            have HD9 : Hid (DbP P w9 bx (.slice sa7 M sc7) ((c : Int) + 1) (M : Int) (.slice sa7 M sc7) M kv7 ev7 (fun i => ks'.getD i []) (updL (elF es) i (edI ed)) Q2) := HD8.out.kept hg9
            clear hg9 y1 f1 z0 HPL HX8 HD8
            have hcs : K ∈ ks' ∨ (K ∉ ks' ∧ M < 256) ∨ (K ∉ ks' ∧ 256 ≤ M) := by
              by_cases h1 : K ∈ ks'
              · exact .inl h1
              · by_cases h2 : M < 256
                · exact .inr (.inl ⟨h1, h2⟩)
                · exact .inr (.inr ⟨h1, by omega⟩)
            rcases hcs with hm | ⟨hm, hf⟩ | ⟨hm, hf⟩
            case' inl =>
              obtain ⟨t, ht⟩ : ∃ t, t = ks'.idxOf K := ⟨_, rfl⟩
              obtain ⟨ks2, hks2⟩ : ∃ k, k = ks' := ⟨_, rfl⟩
              have HAF : Hid (askF ks' K = some (t, ks2)) := by
                show _ = _
                unfold askF
                rw [if_pos hm, ht, hks2]
              obtain rfl : pv = (t : Int) := by
                have := HPV.out
                unfold placeV at this
                rw [if_pos hm] at this
                rw [this, ht]
              have HD2 : Hid (DbAt P w9 bx ks2 ((c : Int) + 1) (updL (elF es) i (edI ed)) Q1) := by
                rw [hks2]
                refine ⟨sa7, sc7, kv7, ev7, ?_⟩
                have h := HD9.out.mono (Q' := Q1) fun v m hm => HD9.out.pas v m (by rw [HQ2.out]; exact .inl hm)
                rw [← HM.out]; exact h
              obtain ⟨X2, rfl⟩ : ∃ X, X = w9 := ⟨_, rfl⟩
              have htd : decide ((t : Int) < 0) = false := decide_eq_false (by omega)
              clear hm ht hks2 HD9 HPV
              go_wp2_with fail
            case' inr.inr =>
              have HNO : Hid (leaveF (fun s : Nat => kerT R l (s : Int)) ks S = none) := leaveF_full HLF.out HNE.out (by
                show askF ks' (kerT R l (s : Int)) = _
                rw [← HKK.out]
                unfold askF
                rw [if_neg hm, if_neg (by rw [← HM.out]; omega)]) hlt2
              have HN2 : Hid (autoF (GG tn n L R) S 256 = none) := by
                have hst := autoF_step HA.out HIL.out
                rw [HGE.out, HNO.out] at hst
                have h9 := autoF_none hst (256 - (i + 1))
                rwa [show i + 1 + (256 - (i + 1)) = 256 by omega] at h9
              obtain rfl : pv = -1 := by
                have := HPV.out
                unfold placeV at this
                rw [if_neg hm] at this
                exact this
              have HB9 : Hid (w9.heap[w.heap.size + 1]? = some (.cells #[.slice none 0 0, .int .i64 0, .int .i64 0] 49 (0, 0))) := box_kept HB1.out HD9.out.grown
              have HG9 : Hid (w.grownBy w9 none) := grown_trans HP1.out.grown HD9.out.grown
              obtain ⟨z0, -, -⟩ := HD9.out.cells
              have hfd : decide (256 ≤ M) = true := decide_eq_true hf
              have hfd2 : decide ((256 : Int) ≤ (M : Int)) = true := decide_eq_true (by omega)
              have k0 := cell_of_row w9 (w.heap.size + 1) 0 _ _ _ HB9.out
              have k1 := cell_of_row w9 (w.heap.size + 1) 1 _ _ _ HB9.out
              have k2 := cell_of_row w9 (w.heap.size + 1) 2 _ _ _ HB9.out
              have kf := fun j => frozen_of_row w9 (w.heap.size + 1) j _ _ HB9.out
              simp only [List.getElem?_toArray, List.getElem?_cons_zero, List.getElem?_cons_succ] at k0 k1 k2
              clear hm HD9 HPV
              go_wp2_with fail
              refine bodyPost_ret (v := .tuple #[.agg #[.slice none 0 0, .int .i64 0, .int .i64 0], .int .i64 11]) ?_ rfl ?_
              · exact results_rbuild _ _ (w.heap.size + 1) _ _ rfl rfl (set3_heap HB9.out _ _ _) rfl
              · exact .inr ⟨HN2.out, rfl, grown_new HG9.out (set3_grown _ _ _ _ _) (by omega)⟩
            case' inr.inl =>
              obtain rfl : pv = -1 := by
                have := HPV.out
                unfold placeV at this
                rw [if_neg hm] at this
                exact this
              have HAF0 : Hid (askF ks' K = some (M, ks' ++ [K])) := by
                show _ = _
                unfold askF
                rw [if_neg hm, if_pos (by rw [← HM.out]; exact hf), HM.out]
              obtain ⟨z0, -, z2⟩ := HD9.out.cells
              have f2 := HD9.out.free 2
              have hfd : decide (256 ≤ M) = false := decide_eq_false (by omega)
              have hfd2 : decide ((256 : Int) ≤ (M : Int)) = false := decide_eq_false (by omega)
              have hwm : IntKind.i64.wrap ((M : Int) + 1) = (M : Int) + 1 := by rw [IntKind.wrap_i64]; omega
              have hD10 := HD9.out.setI ((M : Int) + 1)
              have HD11 : Hid (DbP P ((w9.setCell ⟨bx, 2, none⟩ (.int .i64 ((M : Int) + 1))).alloc (.cells #[.slice a9 kl c9, .slice none 0 0] 72)) bx (.slice sa7 M sc7) ((c : Int) + 1) ((M : Int) + 1) (.slice sa7 M sc7) M kv7 ev7 (fun i => ks'.getD i []) (updL (elF es) i (edI ed)) Q2) := hD10.kept (World.grownBy_alloc _ _ none)
              obtain ⟨x0, -, -⟩ := hD10.cells
              have HNS : Hid (∀ j z, [Value.slice a9 kl c9, Value.slice none 0 0][j]? = some z → ((w9.setCell ⟨bx, 2, none⟩ (.int .i64 ((M : Int) + 1))).alloc (.cells #[.slice a9 kl c9, .slice none 0 0] 72)).cell? ((⟨(w9.setCell ⟨bx, 2, none⟩ (.int .i64 ((M : Int) + 1))).heap.size, 0, none⟩ : Addr).add j) = some z) := World.news_of_block (heap_alloc_last _ _)
              have e9 : (w9.setCell ⟨bx, 2, none⟩ (.int .i64 ((M : Int) + 1))).heap.size = w9.heap.size := by simp
              rw [e9] at HNS
              clear hm HPV hD10 e9
              go_wp2_with (at_builtin; refine wpList_append_srcW rfl (.tmp 74) (.tmp 77) 47 rfl P.heap.size 72 i2 (.agg #[.slice none 0 0, .slice none 0 0]) 2 48 Tryz.underlying47 hi2 hu0 hu1 hu2 rfl (by decide) (.slice sa7 M sc7) M (stV kv7 ev7 M) rfl HD11.out.row (some ⟨w9.heap.size, 0, none⟩) 1 1 [.slice a9 kl c9, .slice none 0 0] rfl (fun h => by cases h) rfl (fun ad e => by cases e; exact HNS.out) (by simp [Value.oneCell']) (by unfold maxLen; omega) (by omega) HD11.out.grown.size ?_)
              intro v12 wB hoB hgB
              obtain ⟨s12, c12, rfl⟩ := owns_cut hoB
              have hkk := HD11.out.pas (.slice a9 kl c9) K (by rw [HQ2.out]; exact .inr ⟨rfl, rfl⟩)
              have hD12 := HD11.out.pushS (rv' := .slice s12 (M + 1) c12) hkk hgB hoB
              have hD13 := hD12.setS (.slice s12 (M + 1) c12)
              obtain ⟨x0, -, -⟩ := hD12.cells
              have xf := hD12.free 0
              have HD2 : Hid (DbAt P (wB.setCell ⟨bx, 0, none⟩ (.slice s12 (M + 1) c12)) bx (ks' ++ [K]) ((c : Int) + 1) (updL (elF es) i (edI ed)) Q1) := by
                have e1 : updL (fun i => ks'.getD i []) M K = fun i => (ks' ++ [K]).getD i [] := by rw [HM.out]; exact db_more
                have e2 : updL (updL (elF es) i (edI ed)) M [] = updL (elF es) i (edI ed) := db_none fun j hj => by
                  rw [updL_other _ _ (by omega)]
                  exact elF_out (by rw [HEI.out]; omega)
                have e3 : (ks' ++ [K]).length = M + 1 := by rw [List.length_append, ← HM.out]; rfl
                rw [e1, e2] at hD13
                have h := hD13.mono (Q' := Q1) fun v m hm => hD13.pas v m (by rw [HQ2.out]; exact .inl hm)
                refine ⟨s12, c12, updL kv7 M (.slice a9 kl c9), updL ev7 M (.slice none 0 0), ?_⟩
                rw [e3]
                exact h
              clear hoB hgB hkk hD12 hD13 HD11 HNS HD9 z0 z2 f2
              go_wp2_with fail
              obtain ⟨X2, hX2⟩ : ∃ X, X = wB.setCell ⟨bx, 0, none⟩ (.slice s12 (M + 1) c12) := ⟨_, rfl⟩
              rw [← hX2] at HD2
              rw [← hX2]
              obtain ⟨ks2, hks2⟩ : ∃ k, k = ks' ++ [K] := ⟨_, rfl⟩
              rw [← hks2] at HD2 HAF0
              clear hX2 hks2 x0 xf hfd hfd2 hwm
              obtain ⟨t, rfl⟩ : ∃ t, t = M := ⟨_, rfl⟩
              have HAF : Hid (askF ks' K = some (t, ks2)) := HAF0.out
              clear HAF0
            all_goals
              have HLF2 : Hid (leaveF (fun s : Nat => kerT R l (s : Int)) ks (s + 1) = some (ks2, ed ++ [(s, t)])) := leaveF_push HLF.out HNE.out (by show askF ks' (kerT R l (s : Int)) = _; rw [← HKK.out]; exact HAF.out)
              have HL2 : Hid (i < ks2.length ∧ ks2.length ≤ 256) := by
                obtain ⟨h1, h2, _⟩ := HLV.out _ _ _ HLF2.out
                exact ⟨Nat.lt_of_lt_of_le HIL.out h2.length_le, h1.le⟩
              obtain ⟨sa2, sc2, kv2, ev2, hD2⟩ := HD2.out
              obtain ⟨sb2, sc3, hse2, hscell2⟩ := owns_at hD2.row (by have := HL2.out; omega)
              simp only [Value.slice.injEq] at hse2
              obtain ⟨rfl, _, rfl⟩ := hse2
              have r1 := hscell2 _ _ (stV_at kv2 ev2 ks2.length i HL2.out.1).2
              obtain ⟨ea, ec, hev⟩ := owns_cut (hD2.edg i HL2.out.1)
              have her := hD2.edg i HL2.out.1
              rw [hev] at r1 her
              simp only [updL_same] at r1 her
              rw [edI_len, ← HEM.out] at r1 her
              obtain ⟨N2, hN2⟩ : ∃ m, m = ks2.length := ⟨_, rfl⟩
              obtain ⟨x0, -, -⟩ := hD2.cells
              have hiN2 : (i : Int) < (N2 : Int) := by have := HL2.out.1; omega
              rw [← hN2] at x0
              have HRC : Hid (∀ Y, X2.grownBy Y none → Y.cell? ⟨bx, 0, none⟩ = some (.slice (some ⟨sb2, 0, none⟩) N2 sc2) ∧ Y.cell? ⟨sb2, i * 2 + 1, none⟩ = some (.slice ea em ec)) := fun Y hY => ⟨hY.cell x0 (by simp), hY.cell r1 (by simp)⟩
              have HOW : Hid (∀ Y, X2.grownBy Y none → Y.ownsRow P.heap.size 78 2 (.slice ea em ec) em (itsV (edI ed))) := fun Y hY => keep0 her hY
              have HPS : Hid (∀ Y, X2.grownBy Y none → P.heap.size ≤ Y.heap.size) := fun Y hY => (hD2.kept hY).grown.size
              have HFIN : Hid (∀ (Y Z : World) (g c' : Nat), X2.grownBy Y none → Y.grownBy Z (Value.slice ea em ec).ownBlock → Z.ownsRow P.heap.size 78 2 (.slice (some ⟨g, 0, none⟩) (em + 1) c') (em + 1) (itsV (edI ed) ++ [.int .i64 (s : Int), .int .i64 (t : Int)]) → ((Value.slice ea em ec).ownBlock = some g ∨ g = Y.heap.size) →
                  DbAt P (Z.setCell ⟨sb2, i * 2 + 1, none⟩ (.slice (some ⟨g, 0, none⟩) (em + 1) c')) bx ks2 ((ak + (ed ++ [(s, t)]).length : Nat) : Int) (updL (elF es) i (edI (ed ++ [(s, t)]))) Q1 ∧ Z.cell? ⟨sb2, i * 2 + 1, none⟩ = some (.slice ea em ec) ∧ Z.frozen? ⟨sb2, i * 2 + 1, none⟩ = false ∧ Z.cell? ⟨bx, 0, none⟩ = some (.slice (some ⟨sb2, 0, none⟩) N2 sc2)) := fun Y Z g c' hY hg ho hat => by
                have hl : (edI (ed ++ [(s, t)])).length = em + 1 := by rw [edI_len, List.length_append, ← HEM.out]; rfl
                have hE := (hD2.kept hY).pushE (i := i) (g := g) (c := c') (ed := edI (ed ++ [(s, t)])) HL2.out.1 (by rw [hev]; simp only [updL_same]; rw [edI_len, ← HEM.out]; exact hg) (by rw [hl, edI_snoc, itsV_append]; exact ho) (by rw [hev]; simp only [updL_same]; rw [edI_len, ← HEM.out]; exact hat)
                have hS9 := hE.set rfl HL2.out.1
                refine ⟨?_, ?_, ?_, ?_⟩
                · have e1 : updL (updL (elF es) i (edI ed)) i (edI (ed ++ [(s, t)])) = updL (elF es) i (edI (ed ++ [(s, t)])) := funext fun j => by
                    by_cases e : j = i
                    · rw [e, updL_same, updL_same]
                    · rw [updL_other _ _ e, updL_other _ _ e, updL_other _ _ e]
                  have e2 : ((ak + (ed ++ [(s, t)]).length : Nat) : Int) = (c : Int) + 1 := by
                    have h1 : (ed ++ [(s, t)]).length = em + 1 := by rw [List.length_append, ← HEM.out]; rfl
                    have h2 := HCA.out
                    omega
                  rw [e1, hl] at hS9
                  rw [e2]
                  exact ⟨_, _, _, _, hS9⟩
                · obtain ⟨g9, c9', e9, h9⟩ := owns_at hE.row (by have := HL2.out; omega)
                  simp only [Value.slice.injEq, Option.some.injEq, Addr.mk.injEq] at e9
                  obtain ⟨⟨rfl, _⟩, _⟩ := e9
                  rw [h9 _ _ (stV_at kv2 ev2 ks2.length i HL2.out.1).2, hev]
                  simp only [updL_same]
                  rw [edI_len, ← HEM.out]
                · rcases hE.row.2 with ⟨h1, _⟩ | ⟨g9, cap9, cur9, h1, _, hh, _⟩
                  · cases h1
                  · simp only [Value.slice.injEq, Option.some.injEq, Addr.mk.injEq] at h1
                    obtain ⟨⟨rfl, _⟩, _⟩ := h1
                    exact frozen_of_row _ _ _ _ _ hh
                · rw [hE.cells, hN2]
              obtain ⟨x1, x2⟩ := HRC.out X2 (grown_refl _ _)
              have x3 : ∀ o, (X2.alloc o).cell? ⟨bx, 0, none⟩ = some (.slice (some ⟨sb2, 0, none⟩) N2 sc2) := fun o => (HRC.out _ (World.grownBy_alloc _ _ none)).1
              have x4 : ∀ o, (X2.alloc o).cell? ⟨sb2, i * 2 + 1, none⟩ = some (.slice ea em ec) := fun o => (HRC.out _ (World.grownBy_alloc _ _ none)).2
              obtain ⟨xs, hxs⟩ : ∃ xs, xs = itsV (edI ed) := ⟨_, rfl⟩
              rw [← hxs] at HOW HFIN
              clear hD2 hscell2 hev her hN2 hxs x0 r1 HD2
              refine rb_edgeq (X2 := X2) (B := P.heap.size) (bx := bx) (sb2 := sb2) (N2 := N2) (sc2 := sc2) (i := i) (s := s) (t := t) (em := em) (ec := ec) (ea := ea) (xs := xs) x1 x2 x3 x4 hiN2 (by omega) HOW.out HPS.out ?_
              intro Y9 Z9 g9 c9 hY9 hg9 ho9 hat9
              obtain ⟨q1, q2, q3, q4⟩ := HFIN.out Y9 Z9 g9 c9 hY9 hg9 ho9 hat9
              refine ⟨q2, q3, q4, ?_⟩
              intro u80 u81 u82 u83 u84 u85 u86 u87 u88 u89 u90 u91 u92 u93 u94 u95
              have HQ9 := show Hid _ from q1
              clear q1 q2 q3 q4 hY9 hg9 ho9 hat9 x1 x2 x3 x4
              go_wp2_with fail
              go_roundg (S - (s + 1))
              case measure => have := HGS.out; omega
              case rel => exact ⟨s + 1, ks2, ed ++ [(s, t)], by omega, rfl, by go_num, HLF2.out, HQ9.out⟩
        · have hsS : S = s := by omega
          subst hsS
          have hsd : decide (S < S) = false := decide_eq_false (by omega)
          have HA2 : Hid (autoF (GG tn n L R) S (i + 1) = some (ks', es ++ [ed])) := by
            have hst := autoF_step HA.out HIL.out
            rw [HGE.out, HLF.out] at hst
            exact hst
          have HDN : Hid (DbAt P w5 bx ks' ((askN (es ++ [ed]) : Nat) : Int) (elF (es ++ [ed])) (fun _ _ => False)) := by
            obtain ⟨sa5, sc5, kv5, ev5, h5⟩ := HD6.out
            refine ⟨sa5, sc5, kv5, ev5, ?_⟩
            have h6 := h5.mono (Q' := fun _ _ => False) fun v m hm => hm.elim
            rw [← elF_snoc, askN_snoc, HEI.out, ← HAK.out, ← HEM.out]
            exact h6
          go_wp2_with fail
          go_roundg (256 - (i + 1))
          case measure => have := HGI.out; omega
          case rel => exact ⟨i + 1, ks', es ++ [ed], HA2.out, HI5.out, rfl, by go_num, HDN.out⟩
    · have hiN : N = i := by omega
      subst hiN
      have hid : decide (N < N) = false := decide_eq_false (by omega)
      have HA2 : Hid (autoF (GG tn n L R) S 256 = some (ks, es)) := by
        have h9 := autoF_stay HA.out (by rw [← HN.out]; exact Nat.le_refl _) (256 - N)
        rwa [show N + (256 - N) = 256 by omega] at h9
      have HB9 : Hid (wr.heap[w.heap.size + 1]? = some (.cells #[.slice none 0 0, .int .i64 0, .int .i64 0] 49 (0, 0))) := box_kept HB1.out HD.out.grown
      have HG9 : Hid (w.grownBy wr none) := grown_trans HP1.out.grown HD.out.grown
      have HAP : Hid (AutP w.heap.size wr (.slice sa ks.length sc) ks (elF es) kv ev) := ⟨owns_base HD.out.row HP1.out.grown.size, fun i hi => owns_base (HD.out.ker i hi) HP1.out.grown.size, fun i hi => owns_base (HD.out.edg i hi) HP1.out.grown.size⟩
      have k0 := cell_of_row wr (w.heap.size + 1) 0 _ _ _ HB9.out
      have k1 := cell_of_row wr (w.heap.size + 1) 1 _ _ _ HB9.out
      have k2 := cell_of_row wr (w.heap.size + 1) 2 _ _ _ HB9.out
      have kf := fun j => frozen_of_row wr (w.heap.size + 1) j _ _ HB9.out
      simp only [List.getElem?_toArray, List.getElem?_cons_zero, List.getElem?_cons_succ] at k0 k1 k2
      obtain ⟨ask, hask⟩ : ∃ a, a = (askN es : Int) := ⟨_, rfl⟩
      have HASK : Hid (ask = (askN es : Int)) := hask
      rw [← hask] at y1
      clear hask hau hAO hD HD HD1 hN hAN hgi
      go_wp2_with fail
      refine bodyPost_ret (v := .tuple #[.agg #[.slice sa N sc, .int .i64 ask, .int .i64 (N : Int)], .int .i64 0]) ?_ rfl ?_
      · exact results_rbuild _ _ (w.heap.size + 1) _ _ rfl rfl (set3_heap HB9.out _ _ _) rfl
      · refine .inl ⟨ks, es, sa, sc, kv, ev, HA2.out, ?_, ?_, grown_new HG9.out (set3_grown _ _ _ _ _) (by omega)⟩
        · rw [HASK.out, ← HN.out]
        · exact HAP.out.box HB9.out (by decide) (by decide) (by decide) (set3_grown _ _ _ _ _)
end

end Go.Proofs.YtckgjolaoifgkaaGreat.J

/-
  trans: the document's transitions, and the terminals right behind one.
-/
namespace Go.Proofs.YtckgjolaoifgkaaGreat.J
open Go.RowKit Go.Maps Go.Shelf

attribute [local go_sem] Oper.semAt_some

section
variable (ta na la pa sa : Option Addr) (tc nc lc pc sc : Nat) (n N : Nat) (st ask nI : Int) (w : World) (tn nn ln : Nat)
set_option maxRecDepth 100000 in
theorem risNon_any (htn : tn ≤ 65) (hnn : nn ≤ 65) (s : Nat) (hs : s < tn + nn) (b : Bool) (hb : b = decide (tn ≤ s)) : Calls Tryz.prog 30 #[.agg #[.slice ta tn tc, .slice na nn nc, .slice la ln lc, .int .i64 st, .slice pa n pc], .int .i64 (s : Int)] w fun e y => e = .returned (.bool b) ∧ w.grownBy y none := by
  obtain ⟨S, hS⟩ : ∃ S, S = tn + nn := ⟨_, rfl⟩
  have HSY : Hid (∀ X, Calls Tryz.prog 27 #[.agg #[.slice ta tn tc, .slice na nn nc, .slice la ln lc, .int .i64 st, .slice pa n pc]] X fun e y => e = .returned (.int .i64 (S : Int)) ∧ X.grownBy y none) := fun X => by
    refine (Go.Proofs.YtckgjolaoifgkaaGreat.symbols_any ta na la pa tn nn ln n tc nc lc pc st X (by omega) (by omega)).mono ?_
    rintro e y ⟨rfl, hg⟩
    exact ⟨by rw [hS, Int.natCast_add], hg⟩
  have HX0 : Hid (w.grownBy (w.alloc (.cells #[.slice ta tn tc, .slice na nn nc, .slice la ln lc, .int .i64 st, .slice pa n pc] 27)) none) := World.grownBy_alloc _ _ none
  rw [← hS] at hs
  clear hS
  by_cases h : tn ≤ s
  · rw [hb, decide_eq_true h]
    have h1 : decide ((tn : Int) ≤ (s : Int)) = true := decide_eq_true (by omega)
    have h2 : decide (tn ≤ s) = true := decide_eq_true h
    have h3 : decide (s < S) = true := decide_eq_true hs
    have h4 : decide ((s : Int) < (S : Int)) = true := decide_eq_true (by omega)
    clear hb
    go_enter Tryz.func30, Tryz.ntmps30
    go_wp2_with fail
    refine Calls.mono (HSY.out _) ?_
    rintro e w1 ⟨rfl, hg1⟩
    have HG1 : Hid (w.grownBy w1 none) := grown_trans HX0.out hg1
    clear hg1
    go_wp2_with fail
    go_ret
    exact ⟨rfl, HG1.out⟩
  · rw [hb, decide_eq_false h]
    have h1 : decide ((tn : Int) ≤ (s : Int)) = false := decide_eq_false (by omega)
    have h2 : decide (tn ≤ s) = false := decide_eq_false h
    clear hb
    go_enter Tryz.func30, Tryz.ntmps30
    go_wp2_with fail
    go_ret
    exact ⟨rfl, HX0.out⟩

set_option maxRecDepth 100000 in
set_option maxHeartbeats 4000000 in
theorem rall_any (htn : tn ≤ 65) (hnn : nn ≤ 65) (B : Nat) (ks : List (List It)) (es : List (List (Nat × Nat))) (kv ev : Nat → Value) (hN : N = ks.length) (hN256 : N ≤ 256) (hP : AutP B w (.slice sa ks.length sc) ks (elF es) kv ev) (hes : ∀ q, q < ks.length → (es.getD q []).length ≤ 130) (hsy : ∀ q, q < ks.length → ∀ x ∈ es.getD q [], x.1 < tn + nn) :
    Calls Tryz.prog 15 #[.agg #[.slice ta tn tc, .slice na nn nc, .slice la ln lc, .int .i64 st, .slice pa n pc], .agg #[.slice sa N sc, .int .i64 ask, .int .i64 nI]] w fun e y => TrTold (trT tn es N) w e y := by
  have HN : Hid (N = ks.length) := hN
  have HP : Hid (∀ Y, w.grownBy Y none → AutP B Y (.slice sa ks.length sc) ks (elF es) kv ev) := fun Y hY => hP.kept hY
  have HES := show Hid _ from hes
  have HSY := show Hid _ from hsy
  have HIN : Hid (∀ X (s : Nat) (b : Bool), s < tn + nn → b = decide (tn ≤ s) → Calls Tryz.prog 30 #[.agg #[.slice ta tn tc, .slice na nn nc, .slice la ln lc, .int .i64 st, .slice pa n pc], .int .i64 (s : Int)] X fun e y => e = .returned (.bool b) ∧ X.grownBy y none) := fun X s b h1 h2 => risNon_any ta na la pa tc nc lc pc n st X tn nn ln htn hnn s h1 b h2
  have HX0 : Hid (PhAt w ((w.alloc (.cells #[.slice ta tn tc, .slice na nn nc, .slice la ln lc, .int .i64 st, .slice pa n pc] 27)).alloc (.cells #[.slice sa N sc, .int .i64 ask, .int .i64 nI] 49)) w.heap.size #[.slice ta tn tc, .slice na nn nc, .slice la ln lc, .int .i64 st, .slice pa n pc]) := PhAt.kept ⟨World.grownBy_alloc _ _ none, heap_alloc_last w _⟩ (World.grownBy_alloc _ _ none)
  have HB0 : Hid (((w.alloc (.cells #[.slice ta tn tc, .slice na nn nc, .slice la ln lc, .int .i64 st, .slice pa n pc] 27)).alloc (.cells #[.slice sa N sc, .int .i64 ask, .int .i64 nI] 49)).heap[w.heap.size + 1]? = some (.cells #[.slice sa N sc, .int .i64 ask, .int .i64 nI] 49 (0, 0))) := by
    have h := heap_alloc_last (w.alloc (.cells #[.slice ta tn tc, .slice na nn nc, .slice la ln lc, .int .i64 st, .slice pa n pc] 27)) (.cells #[.slice sa N sc, .int .i64 ask, .int .i64 nI] 49)
    rw [World.size_alloc] at h; exact h
  obtain ⟨i0, hi0, hz0, hz1, hz2⟩ := info_parts infoTrans
  clear hP hes hN hsy
  go_enter Tryz.func15, Tryz.ntmps15
  go_wp2_with fail
  obtain ⟨W, hW⟩ : ∃ W, W = (w.alloc (.cells #[.slice ta tn tc, .slice na nn nc, .slice la ln lc, .int .i64 st, .slice pa n pc] 27)).alloc (.cells #[.slice sa N sc, .int .i64 ask, .int .i64 nI] 49) := ⟨_, rfl⟩
  rw [← hW] at HX0 HB0 ⊢
  clear hW
  have HAC : Hid (∀ Y, W.grownBy Y none → Y.cell? ⟨w.heap.size + 1, 0, none⟩ = some (.slice sa N sc)) := fun Y hY => by rw [cell_of_row _ _ _ _ _ _ (box_kept HB0.out hY)]; rfl
  go_loopg [5, 6] N (fun gk v5 v6 wr => ∃ (i L : Nat) (a : Option Addr) (c : Nat), i ≤ N ∧ gk = N - i ∧ v6 = .int .i64 i ∧ v5 = .slice a L c ∧ L = (trT tn es i).length ∧ wr.ownsRow W.heap.size 39 2 (.slice a L c) L (itsV (trT tn es i)) ∧ W.grownBy wr none)
  case atStart => exact ⟨0, 0, none, 0, Nat.zero_le _, rfl, rfl, rfl, rfl, World.ownsRow_nil _ _ _ _, grown_refl _ _⟩
  case round =>
    obtain ⟨i, L, a, c, hi, hgi, rfl, rfl, hLl, hown, hg⟩ := hrel
    have HGI : Hid (gk = N - i) := hgi
    have HLL : Hid (L = (trT tn es i).length) := hLl
    have HO : Hid (wr.ownsRow W.heap.size 39 2 (.slice a L c) L (itsV (trT tn es i))) := hown
    have HG : Hid (W.grownBy wr none) := hg
    have hLb : L ≤ i * 130 := by rw [hLl]; exact trT_len i fun q hq => HES.out q (by have := HN.out; omega)
    have y0 := HAC.out wr hg
    clear hgi hLl hown hg
    by_cases hlt : i < N
    · have hid : decide (i < N) = true := decide_eq_true hlt
      have hi0' : (0 : Int) ≤ (i : Int) := by omega
      have hi1 : (i : Int) < (N : Int) := by omega
      have hik : i < ks.length := by rw [← HN.out]; exact hlt
      have hPZ := HP.out wr (grown_trans HX0.out.grown HG.out)
      obtain ⟨sb, sc', hsv, -, hs1⟩ := hPZ.st hik
      simp only [Value.slice.injEq] at hsv
      obtain ⟨rfl, _, rfl⟩ := hsv
      obtain ⟨ea, ec, hev, hei⟩ := hPZ.edgAt hik
      rw [hev] at hs1
      obtain ⟨E, hE⟩ : ∃ E, E = (elF es i).length := ⟨_, rfl⟩
      rw [← hE] at hs1
      have HEA : Hid (∀ Y, wr.grownBy Y none → ItsAt Y ea (elF es i) ∧ Y.cell? ⟨sb, i * 2 + 1, none⟩ = some (.slice ea E ec)) := fun Y hY => ⟨hei.kept hY, hY.cell hs1 (by simp)⟩
      have HE : Hid (E = (es.getD i []).length) := by show _ = _; rw [hE]; exact elF_len _ _
      have hEb : E ≤ 130 := by rw [HE.out]; exact HES.out i hik
      have HSI := show Hid _ from HSY.out i hik
      clear hE hev hPZ hei hik hs1
      generalize wr = Z at *
      go_wp2_with fail
      clear y0
      go_loopg [5, 7] E (fun gk v5 v7 wr => ∃ (j L : Nat) (a : Option Addr) (c : Nat), j ≤ E ∧ gk = E - j ∧ v7 = .int .i64 j ∧ v5 = .slice a L c ∧ L = (trT tn es i ++ trI tn ((es.getD i []).take j) i).length ∧ wr.ownsRow W.heap.size 39 2 (.slice a L c) L (itsV (trT tn es i ++ trI tn ((es.getD i []).take j) i)) ∧ (W.grownBy wr none ∧ wr.cell? ⟨sb, i * 2 + 1, none⟩ = some (.slice ea E ec) ∧ ItsAt wr ea (elF es i)))
      case atStart => exact ⟨0, L, a, c, Nat.zero_le _, rfl, rfl, rfl, by simpa [trI] using HLL.out, by simpa [trI] using HO.out, HG.out, (HEA.out Z (grown_refl _ _)).2, (HEA.out Z (grown_refl _ _)).1⟩
      case round =>
        obtain ⟨j, L2, a2, c2, hj, hgj, rfl, rfl, hL2, hown2, hg2, hsc, hit⟩ := hrel
        have HGJ : Hid (gk = E - j) := hgj
        have HL2 : Hid (L2 = (trT tn es i ++ trI tn ((es.getD i []).take j) i).length) := hL2
        have HO2 : Hid (wr.ownsRow W.heap.size 39 2 (.slice a2 L2 c2) L2 (itsV (trT tn es i ++ trI tn ((es.getD i []).take j) i))) := hown2
        have HG2 : Hid (W.grownBy wr none) := hg2
        have HSC : Hid (wr.cell? ⟨sb, i * 2 + 1, none⟩ = some (.slice ea E ec) ∧ ItsAt wr ea (elF es i)) := ⟨hsc, hit⟩
        have hL2b : L2 ≤ i * 130 + 130 := by
          rw [hL2, List.length_append, ← HLL.out]
          have h1 := trI_len tn ((es.getD i []).take j) i
          have h2 : ((es.getD i []).take j).length ≤ j := by rw [List.length_take]; omega
          omega
        have y0 := HAC.out wr hg2
        clear hgj hL2 hown2 hg2 hit
        by_cases hlj : j < E
        · have hjd : decide (j < E) = true := decide_eq_true hlj
          have hj0 : (0 : Int) ≤ (j : Int) := by omega
          have hj1 : (j : Int) < (E : Int) := by omega
          have hje : j < (es.getD i []).length := by rw [← HE.out]; exact hlj
          obtain ⟨eb, eo, hea, c0, c1⟩ := HSC.out.2.cellAt (i := j) (by rw [elF_len]; exact hje)
          subst hea
          rw [(elF_at hje).2] at c0
          obtain ⟨x, hx⟩ : ∃ x, x = (es.getD i []).getD j (0, 0) := ⟨_, rfl⟩
          have hmem : (es.getD i []).getD j (0, 0) ∈ es.getD i [] := by
            clear hx c0 c1
            generalize es.getD i [] = l at hje ⊢
            rw [List.getD_eq_getElem?_getD, List.getElem?_eq_getElem hje]; exact List.getElem_mem hje
          have hsS := HSI.out _ hmem
          rw [← hx] at c0 hsS
          obtain ⟨s, t⟩ := x
          simp only at c0 hsS
          have HTK : Hid (trI tn ((es.getD i []).take (j + 1)) i = trI tn ((es.getD i []).take j) i ++ (if tn ≤ s then [((i : Int), (s : Int))] else [])) := by
            show _ = _
            rw [take_snocE hje hx.symm, trI_snoc]
          obtain ⟨b, hb⟩ : ∃ b, b = decide (tn ≤ s) := ⟨_, rfl⟩
          have HB : Hid (b = decide (tn ≤ s)) := hb
          have HC := show Hid _ from HIN.out wr s b hsS hb
          obtain ⟨k0, k1, k2, k3, k4⟩ := (HX0.out.kept HG2.out).cells
          clear hx hje c1 hmem hsS hb
          go_wp2_with fail
          refine Calls.mono HC.out ?_
          rintro e w5 ⟨rfl, hg5⟩
          have HO5 : Hid (w5.ownsRow W.heap.size 39 2 (.slice a2 L2 c2) L2 (itsV (trT tn es i ++ trI tn ((es.getD i []).take j) i))) := keep0 HO2.out hg5
          have HG5 : Hid (W.grownBy w5 none) := grown_trans HG2.out hg5
          have HS5 : Hid (w5.cell? ⟨sb, i * 2 + 1, none⟩ = some (.slice (some ⟨eb, eo, none⟩) E ec) ∧ ItsAt w5 (some ⟨eb, eo, none⟩) (elF es i)) := ⟨hg5.cell HSC.out.1 (by simp), HSC.out.2.kept hg5⟩
          clear hg5 k0 k1 k2 k3 k4 y0 c0 hsc HC HO2 HSC
          cases b with
          | true =>
            have hts : tn ≤ s := of_decide_eq_true HB.out.symm
            rw [if_pos hts] at HTK
            clear HB hts
            go_wp2_with (at_builtin; refine wpList_append_srcW rfl (.tmp 42) (.tmp 46) 30 rfl W.heap.size 39 i0 (.agg #[.int .i64 0, .int .i64 0]) 2 16 Tryz.underlying30 hi0 hz0 hz1 hz2 rfl (by decide) (.slice a2 L2 c2) L2 (itsV (trT tn es i ++ trI tn ((es.getD i []).take j) i)) rfl (HO5.out.alloc _) (some ⟨w5.heap.size, 0, none⟩) 1 1 [.int .i64 (i : Int), .int .i64 (s : Int)] rfl (fun h => by cases h) rfl (fun ad e => by cases e; exact World.news_of_block (heap_alloc_last w5 _)) (by simp [Value.oneCell']) (by unfold maxLen; omega) (by omega) (Nat.le_trans HG5.out.size (World.grownBy_alloc _ _ none).size) ?_)
            intro v8 wB hoB hgB
            obtain ⟨a8, c8, rfl⟩ := owns_cut hoB
            have HGA : Hid (W.grownBy wB none) := grown_owned (grown_trans HG5.out (World.grownBy_alloc _ _ none)) (HO5.out.alloc _) (Nat.le_refl _) hgB
            have HOB : Hid (wB.ownsRow W.heap.size 39 2 (.slice a8 (L2 + 1) c8) (L2 + 1) (itsV (trT tn es i ++ trI tn ((es.getD i []).take (j + 1)) i))) := by
              show World.ownsRow _ _ _ _ _ _ _
              rw [HTK.out, ← List.append_assoc, itsV_append]
              exact hoB
            have HSB : Hid (wB.cell? ⟨sb, i * 2 + 1, none⟩ = some (.slice (some ⟨eb, eo, none⟩) E ec) ∧ ItsAt wB (some ⟨eb, eo, none⟩) (elF es i)) := by
              have hPB := HP.out wB (grown_trans HX0.out.grown HGA.out)
              obtain ⟨sb2, sc2, hsv2, -, hs2⟩ := hPB.st (q := i) (by rw [← HN.out]; exact hlt)
              simp only [Value.slice.injEq, Option.some.injEq, Addr.mk.injEq] at hsv2
              obtain ⟨⟨rfl, _⟩, _⟩ := hsv2
              have h0 := (HP.out Z (grown_trans HX0.out.grown HG.out)).st (q := i) (by rw [← HN.out]; exact hlt)
              obtain ⟨sb3, sc3, hsv3, -, hs3⟩ := h0
              simp only [Value.slice.injEq, Option.some.injEq, Addr.mk.injEq] at hsv3
              obtain ⟨⟨rfl, _⟩, _⟩ := hsv3
              have h1 := (HEA.out Z (grown_refl _ _)).2
              rw [hs3] at h1
              obtain ⟨ea2, ec2, he2, hi2⟩ := hPB.edgAt (q := i) (by rw [← HN.out]; exact hlt)
              have h2 : ev i = .slice (some ⟨eb, eo, none⟩) E ec := by simpa using h1
              rw [h2] at hs2 he2
              simp only [Value.slice.injEq] at he2
              rw [← he2.1] at hi2
              exact ⟨hs2, hi2⟩
            clear hoB hgB
            go_wp2_with fail
            go_roundg (E - (j + 1))
            case measure => have := HGJ.out; omega
            case rel => exact ⟨j + 1, L2 + 1, a8, c8, by omega, rfl, by go_num, rfl, by rw [HTK.out, ← List.append_assoc, List.length_append, ← HL2.out]; rfl, HOB.out, HGA.out, HSB.out.1, HSB.out.2⟩
          | false =>
            have hts : ¬ tn ≤ s := of_decide_eq_false HB.out.symm
            rw [if_neg hts, List.append_nil] at HTK
            clear HB hts
            go_wp2_with fail
            go_roundg (E - (j + 1))
            case measure => have := HGJ.out; omega
            case rel => exact ⟨j + 1, L2, a2, c2, by omega, rfl, by go_num, rfl, by rw [HTK.out]; exact HL2.out, by rw [HTK.out]; exact HO5.out, HG5.out, HS5.out.1, HS5.out.2⟩
        · have hjE : E = j := by omega
          subst hjE
          have hjd : decide (E < E) = false := decide_eq_false (by omega)
          have HTF : Hid (trT tn es i ++ trI tn ((es.getD i []).take E) i = trT tn es (i + 1)) := by
            show _ = _
            rw [HE.out, List.take_length]; rfl
          rw [HTF.out] at HL2 HO2
          go_wp2_with fail
          go_roundg (N - (i + 1))
          case measure => have := HGI.out; omega
          case rel => exact ⟨i + 1, L2, a2, c2, by omega, rfl, by go_num, rfl, HL2.out, HO2.out, HG2.out⟩
    · have hiN : N = i := by omega
      subst hiN
      have hid : decide (N < N) = false := decide_eq_false (by omega)
      go_wp2_with fail
      go_ret
      exact ⟨a, c, by rw [← HLL.out]; rfl, by rw [← HLL.out]; exact owns_base HO.out HX0.out.grown.size, grown_trans HX0.out.grown HG.out⟩
end

end Go.Proofs.YtckgjolaoifgkaaGreat.J

/-
  trans: the document's terminals right behind a transition; its List and Direct.
-/
namespace Go.Proofs.YtckgjolaoifgkaaGreat.J
open Go.RowKit Go.Maps Go.Shelf

attribute [local go_sem] Oper.semAt_some

/-- A row of numbers of one's own. -/
def OwnI (X : World) (B : Nat) (a : Option Addr) (L c : Nat) (l : List Int) : Prop := X.ownsRow B 3 1 (.slice a L c) L (intV l)
theorem OwnI.kept {X Y : World} {B : Nat} {a : Option Addr} {L c : Nat} {l : List Int} (h : OwnI X B a L c l) (hg : X.grownBy Y none) : OwnI Y B a L c l := keep0 h hg

section
variable (ta na la pa sa : Option Addr) (tc nc lc pc sc : Nat) (n N : Nat) (st ask nI : Int) (w : World) (tn nn ln : Nat)
set_option maxRecDepth 100000 in
set_option maxHeartbeats 4000000 in
theorem rtbehind_any (B : Nat) (ks : List (List It)) (es : List (List (Nat × Nat))) (kv ev : Nat → Value) (hN : N = ks.length) (hE : EsOK ks es) (hP : AutP B w (.slice sa ks.length sc) ks (elF es) kv ev) (q s tq : Nat) (hq : q < N) (hl : leadA es ((q : Int), (s : Int)) = some (tq : Int)) (htq : tq < N) :
    Calls Tryz.prog 16 #[.agg #[.slice ta tn tc, .slice na nn nc, .slice la ln lc, .int .i64 st, .slice pa n pc], .agg #[.slice sa N sc, .int .i64 ask, .int .i64 nI], .agg #[.int .i64 (q : Int), .int .i64 (s : Int)]] w fun e y => NumTold (preF ((q : Int) == 0 && (s : Int) == st) ++ dirL tn (es.getD tq [])) w e y := by
  have HN : Hid (N = ks.length) := hN
  have HP : Hid (∀ Y, w.grownBy Y none → AutP B Y (.slice sa ks.length sc) ks (elF es) kv ev) := fun Y hY => hP.kept hY
  have HNX : Hid (∀ Y, w.grownBy Y none → Calls Tryz.prog 31 #[.agg #[.slice sa N sc, .int .i64 ask, .int .i64 nI], .int .i64 (q : Int), .int .i64 (s : Int)] Y fun e y => e = .returned (.int .i64 (tq : Int)) ∧ Y.grownBy y none) := fun Y hY => by
    have h := rnext_any sa sc ask nI Y B ks es kv ev (hP.kept hY) hE.short q (by rw [← hN]; exact hq) (s : Int)
    rw [← leadA_at es (by rw [hE.len, ← hN]; exact hq), hl] at h
    rw [hN]; exact h
  have hEb0 : (es.getD tq []).length ≤ 130 := hE.short tq
  have HX0 : Hid (PhAt w (((w.alloc (.cells #[.slice ta tn tc, .slice na nn nc, .slice la ln lc, .int .i64 st, .slice pa n pc] 27)).alloc (.cells #[.slice sa N sc, .int .i64 ask, .int .i64 nI] 49)).alloc (.cells #[.int .i64 (q : Int), .int .i64 (s : Int)] 39)) w.heap.size #[.slice ta tn tc, .slice na nn nc, .slice la ln lc, .int .i64 st, .slice pa n pc]) := PhAt.kept (PhAt.kept ⟨World.grownBy_alloc _ _ none, heap_alloc_last w _⟩ (World.grownBy_alloc _ _ none)) (World.grownBy_alloc _ _ none)
  have HB0 : Hid ((((w.alloc (.cells #[.slice ta tn tc, .slice na nn nc, .slice la ln lc, .int .i64 st, .slice pa n pc] 27)).alloc (.cells #[.slice sa N sc, .int .i64 ask, .int .i64 nI] 49)).alloc (.cells #[.int .i64 (q : Int), .int .i64 (s : Int)] 39)).heap[w.heap.size + 1]? = some (.cells #[.slice sa N sc, .int .i64 ask, .int .i64 nI] 49 (0, 0))) := by
    refine box_kept ?_ (World.grownBy_alloc _ _ none)
    have h := heap_alloc_last (w.alloc (.cells #[.slice ta tn tc, .slice na nn nc, .slice la ln lc, .int .i64 st, .slice pa n pc] 27)) (.cells #[.slice sa N sc, .int .i64 ask, .int .i64 nI] 49)
    rw [World.size_alloc] at h; exact h
  have HT0 : Hid ((((w.alloc (.cells #[.slice ta tn tc, .slice na nn nc, .slice la ln lc, .int .i64 st, .slice pa n pc] 27)).alloc (.cells #[.slice sa N sc, .int .i64 ask, .int .i64 nI] 49)).alloc (.cells #[.int .i64 (q : Int), .int .i64 (s : Int)] 39)).heap[w.heap.size + 1 + 1]? = some (.cells #[.int .i64 (q : Int), .int .i64 (s : Int)] 39 (0, 0))) := by
    have h := heap_alloc_last ((w.alloc (.cells #[.slice ta tn tc, .slice na nn nc, .slice la ln lc, .int .i64 st, .slice pa n pc] 27)).alloc (.cells #[.slice sa N sc, .int .i64 ask, .int .i64 nI] 49)) (.cells #[.int .i64 (q : Int), .int .i64 (s : Int)] 39)
    rw [World.size_alloc, World.size_alloc] at h; exact h
  obtain ⟨i0, hi0, hz0, hz1, hz2⟩ := info_parts infoInt
  obtain ⟨W, hW⟩ : ∃ W, W = (((w.alloc (.cells #[.slice ta tn tc, .slice na nn nc, .slice la ln lc, .int .i64 st, .slice pa n pc] 27)).alloc (.cells #[.slice sa N sc, .int .i64 ask, .int .i64 nI] 49)).alloc (.cells #[.int .i64 (q : Int), .int .i64 (s : Int)] 39)) := ⟨_, rfl⟩
  have HWE := show Hid _ from hW
  rw [← hW] at HX0 HB0 HT0
  have HAC : Hid (∀ Y, W.grownBy Y none → (Y.cell? ⟨w.heap.size + 1, 0, none⟩ = some (.slice sa N sc) ∧ Y.cell? ⟨w.heap.size + 1, 1, none⟩ = some (.int .i64 ask) ∧ Y.cell? ⟨w.heap.size + 1, 2, none⟩ = some (.int .i64 nI)) ∧ Y.cell? ⟨w.heap.size + 1 + 1, 0, none⟩ = some (.int .i64 (q : Int)) ∧ Y.cell? ⟨w.heap.size + 1 + 1, 1, none⟩ = some (.int .i64 (s : Int))) := fun Y hY => by
    have h := box_kept HB0.out hY
    have h' := box_kept HT0.out hY
    exact ⟨⟨by rw [cell_of_row _ _ _ _ _ _ h]; rfl, by rw [cell_of_row _ _ _ _ _ _ h]; rfl, by rw [cell_of_row _ _ _ _ _ _ h]; rfl⟩, by rw [cell_of_row _ _ _ _ _ _ h']; rfl, by rw [cell_of_row _ _ _ _ _ _ h']; rfl⟩
  have HGC : Hid (∀ Y, W.grownBy Y none → (Y.cell? ⟨w.heap.size, 0, none⟩ = some (.slice ta tn tc) ∧ Y.cell? ⟨w.heap.size, 1, none⟩ = some (.slice na nn nc) ∧ Y.cell? ⟨w.heap.size, 2, none⟩ = some (.slice la ln lc) ∧ Y.cell? ⟨w.heap.size, 3, none⟩ = some (.int .i64 st) ∧ Y.cell? ⟨w.heap.size, 4, none⟩ = some (.slice pa n pc))) := fun Y hY => (HX0.out.kept hY).cells
  obtain ⟨E, hEE⟩ : ∃ E, E = (es.getD tq []).length := ⟨_, rfl⟩
  have HE : Hid (E = (es.getD tq []).length) := hEE
  obtain ⟨sb, ea, ec, hsa, hst⟩ : ∃ sb ea ec, sa = some ⟨sb, 0, none⟩ ∧ ∀ Y, W.grownBy Y none → Y.cell? ⟨sb, tq * 2 + 1, none⟩ = some (.slice ea E ec) ∧ ItsAt Y ea (elF es tq) := by
    have hPZ := HP.out W HX0.out.grown
    have hik : tq < ks.length := by rw [← hN]; exact htq
    obtain ⟨sb, sc', hsv, -, hs1⟩ := hPZ.st hik
    simp only [Value.slice.injEq] at hsv
    obtain ⟨ea, ec, hev, hei⟩ := hPZ.edgAt hik
    rw [hev, elF_len] at hs1
    exact ⟨sb, ea, ec, hsv.1, fun Y hY => ⟨by rw [hEE]; exact hY.cell hs1 (by simp), hei.kept hY⟩⟩
  subst hsa
  have HST := show Hid _ from hst
  have hEb : E ≤ 130 := by rw [hEE]; exact hEb0
  obtain ⟨b, hb⟩ : ∃ b, b = ((q : Int) == 0 && (s : Int) == st) := ⟨_, rfl⟩
  have HB : Hid (b = ((q : Int) == 0 && (s : Int) == st)) := hb
  have ht0 : (0 : Int) ≤ (tq : Int) := by omega
  have ht1 : (tq : Int) < (N : Int) := by omega
  rw [← hb]
  obtain ⟨⟨y0, y1, y2⟩, y3, y4⟩ := HAC.out W (grown_refl _ _)
  obtain ⟨k0, k1, k2, k3, k4⟩ := HGC.out W (grown_refl _ _)
  rw [hW] at y0 y1 y2 y3 y4 k0 k1 k2 k3 k4
  have HOE : Hid (∀ (L : Nat) (a : Option Addr) (c : Nat) (X : World), L = (preF b).length → X.ownsRow W.heap.size 3 1 (.slice a L c) L (intV (preF b)) → OwnI X W.heap.size a L c (preF b ++ dirL tn ((es.getD tq []).take 0)) ∧ L = (preF b ++ dirL tn ((es.getD tq []).take 0)).length) := fun L a c X h1 h2 => by
    have e : preF b ++ dirL tn ((es.getD tq []).take 0) = preF b := by rw [List.take_zero]; simp [dirL]
    rw [e]
    exact ⟨h2, h1⟩
  clear hP hE hN hl hst hEE hEb0 hW hb
  have hcs : ((q : Int) = 0 ∧ (s : Int) = st) ∨ ((q : Int) = 0 ∧ ¬ (s : Int) = st) ∨ ¬ (q : Int) = 0 := by
    by_cases h5 : (q : Int) = 0
    · by_cases h6 : (s : Int) = st
      · exact .inl ⟨h5, h6⟩
      · exact .inr (.inl ⟨h5, h6⟩)
    · exact .inr (.inr h5)
  rcases hcs with hc | hc | hc
  case' inl =>
    have hbt : b = true := by rw [HB.out, hc.1, hc.2]; simp
    have d1 : ((q : Int) == 0) = true := beq_iff_eq.2 hc.1
    have d1n : (q == 0) = true := beq_iff_eq.2 (by omega)
    have d2 : ((s : Int) == st) = true := beq_iff_eq.2 hc.2
    clear hc HB
    go_enter Tryz.func16, Tryz.ntmps16
    go_wp2_with (at_builtin; rw [← HWE.out]; refine wpList_append_srcW rfl (.tmp 21) (.tmp 22) 24 rfl W.heap.size 3 i0 (.int .i64 0) 1 8 Tryz.underlying24 hi0 hz0 hz1 hz2 rfl (by decide) (.slice none 0 0) 0 [] rfl (World.ownsRow_nil _ _ _ _) (some ⟨W.heap.size, 0, none⟩) 1 1 [.int .i64 0] (by rw [HWE.out]; simp [Act.eval]) (fun h => by cases h) rfl (fun ad e => by cases e; exact World.news_of_block (heap_alloc_last W _)) (by simp [Value.oneCell']) (by unfold maxLen; omega) (by omega) (World.grownBy_alloc _ _ none).size ?_)
    intro v8 X hoX hgX
    obtain ⟨a8, c8, rfl⟩ := owns_cut hoX
    have HGX : Hid (W.grownBy X none) := grown_trans (World.grownBy_alloc _ _ none) hgX
    have HOX := show Hid _ from HOE.out 1 a8 c8 X (by rw [hbt]; rfl) (by rw [hbt]; exact hoX)
    clear hoX hgX y0 y1 y2 y3 y4 k0 k1 k2 k3 k4
    obtain ⟨⟨y0, y1, y2⟩, y3, y4⟩ := HAC.out X HGX.out
    have k0 := True.intro
    have k1 := True.intro
    have k2 := True.intro
    have k3 := True.intro
    have k4 := True.intro
    have HCN := show Hid _ from HNX.out X (grown_trans HX0.out.grown HGX.out)
    have HNEXT := show Hid _ from fun (y : World) (hy : X.grownBy y none) => And.intro (grown_trans HGX.out hy) (And.intro (OwnI.kept HOX.out.1 hy) HOX.out.2)
    clear d2
    go_wp2_with fail
  case' inr.inl =>
    have hbt : b = false := by rw [HB.out, Bool.and_eq_false_iff, beq_eq_false_iff_ne, beq_eq_false_iff_ne]; exact .inr hc.2
    have d1 : ((q : Int) == 0) = true := beq_iff_eq.2 hc.1
    have d1n : (q == 0) = true := beq_iff_eq.2 (by omega)
    have d2 : ((s : Int) == st) = false := beq_eq_false_iff_ne.2 hc.2
    have HGX : Hid (W.grownBy W none) := grown_refl _ _
    have HOX := show Hid _ from HOE.out 0 none 0 W (by rw [hbt]; rfl) (by rw [hbt]; exact World.ownsRow_nil _ _ _ _)
    clear hc HB
    go_enter Tryz.func16, Tryz.ntmps16
    go_wp2_with fail
    rw [← HWE.out]
    have HCN := show Hid _ from HNX.out W HX0.out.grown
    have HNEXT := show Hid _ from fun (y : World) (hy : W.grownBy y none) => And.intro hy (And.intro (OwnI.kept HOX.out.1 hy) HOX.out.2)
    clear d2
  case' inr.inr =>
    have hbt : b = false := by rw [HB.out, Bool.and_eq_false_iff, beq_eq_false_iff_ne, beq_eq_false_iff_ne]; exact .inl hc
    have d1 : ((q : Int) == 0) = false := beq_eq_false_iff_ne.2 hc
    have d1n : (q == 0) = false := beq_eq_false_iff_ne.2 (by omega)
    have HGX : Hid (W.grownBy W none) := grown_refl _ _
    have HOX := show Hid _ from HOE.out 0 none 0 W (by rw [hbt]; rfl) (by rw [hbt]; exact World.ownsRow_nil _ _ _ _)
    clear hc HB
    go_enter Tryz.func16, Tryz.ntmps16
    go_wp2_with fail
    rw [← HWE.out]
    have HCN := show Hid _ from HNX.out W HX0.out.grown
    have HNEXT := show Hid _ from fun (y : World) (hy : W.grownBy y none) => And.intro hy (And.intro (OwnI.kept HOX.out.1 hy) HOX.out.2)
  all_goals
    refine Calls.mono HCN.out ?_
    rintro e w5 ⟨rfl, hg5⟩
    obtain ⟨hg6, ho6, hl6⟩ := HNEXT.out w5 hg5
    have HG6 : Hid (W.grownBy w5 none) := hg6
    have HO6 : Hid (OwnI w5 W.heap.size _ _ _ _) := ho6
    have HL6 := show Hid _ from hl6
    clear hg5 hg6 ho6 hl6 HCN HNEXT HOX HGX y0 y1 y2 y3 y4 k0 k1 k2 k3 k4 d1 d1n hbt
    obtain ⟨⟨y0, -, -⟩, -, -⟩ := HAC.out w5 HG6.out
    have s0 := (HST.out w5 HG6.out).1
    go_wp2_with fail
    clear y0 s0
    go_loopg [7, 10] E (fun gk v7 v10 wr => ∃ (j L : Nat) (a : Option Addr) (c : Nat), j ≤ E ∧ gk = E - j ∧ v10 = .int .i64 j ∧ v7 = .slice a L c ∧ L = (preF b ++ dirL tn ((es.getD tq []).take j)).length ∧ wr.ownsRow W.heap.size 3 1 (.slice a L c) L (intV (preF b ++ dirL tn ((es.getD tq []).take j))) ∧ W.grownBy wr none)
    case atStart => exact ⟨0, _, _, _, Nat.zero_le _, rfl, rfl, rfl, HL6.out, HO6.out, HG6.out⟩
    case round =>
      obtain ⟨j, L, a, c, hj, hgj, rfl, rfl, hLl, hown, hg⟩ := hrel
      have HGJ : Hid (gk = E - j) := hgj
      have HLL : Hid (L = (preF b ++ dirL tn ((es.getD tq []).take j)).length) := hLl
      have HO : Hid (wr.ownsRow W.heap.size 3 1 (.slice a L c) L (intV (preF b ++ dirL tn ((es.getD tq []).take j)))) := hown
      have HG : Hid (W.grownBy wr none) := hg
      have hLb : L ≤ 131 := by
        rw [hLl, List.length_append]
        have h1 := preF_len b
        have h2 := dirL_len tn ((es.getD tq []).take j)
        have h3 : ((es.getD tq []).take j).length ≤ j := by rw [List.length_take]; omega
        omega
      clear hgj hLl hown hg HO6 HL6 HG6
      by_cases hlt : j < E
      · have hjd : decide (j < E) = true := decide_eq_true hlt
        have hj0 : (0 : Int) ≤ (j : Int) := by omega
        have hj1 : (j : Int) < (E : Int) := by omega
        have hje : j < (es.getD tq []).length := by rw [← HE.out]; exact hlt
        have hei := (HST.out wr HG.out).2
        obtain ⟨eb, eo, hea, c0, -⟩ := hei.cellAt (i := j) (by rw [elF_len]; exact hje)
        rw [(elF_at hje).2] at c0
        obtain ⟨x, hx⟩ : ∃ x, x = (es.getD tq []).getD j (0, 0) := ⟨_, rfl⟩
        rw [← hx] at c0
        obtain ⟨u, v⟩ := x
        simp only at c0
        have HTK : Hid (dirL tn ((es.getD tq []).take (j + 1)) = dirL tn ((es.getD tq []).take j) ++ (if u < tn then [(u : Int)] else [])) := by
          show _ = _
          rw [take_snocE hje hx.symm, dirL_snoc]
        obtain ⟨k0, -, -, -, -⟩ := HGC.out wr HG.out
        subst hea
        clear hx hje hei
        by_cases hut : u < tn
        · have hud : decide (u < tn) = true := decide_eq_true hut
          have hud2 : decide ((u : Int) < (tn : Int)) = true := decide_eq_true (by omega)
          rw [if_pos hut] at HTK
          clear hut
          go_wp2_with fail
          go_quiet (fail)
          go_wp2_with (at_builtin; refine wpList_append_srcW rfl (.tmp 51) (.tmp 57) 24 rfl W.heap.size 3 i0 (.int .i64 0) 1 8 Tryz.underlying24 hi0 hz0 hz1 hz2 rfl (by decide) (.slice a L c) L (intV (preF b ++ dirL tn ((es.getD tq []).take j))) rfl (keep0 HO.out (grown_trans (grown_drewN _ _) (World.grownBy_alloc _ _ none))) (some ⟨_, 0, none⟩) 1 1 [.int .i64 (u : Int)] rfl (fun h => by cases h) rfl (fun ad e => by cases e; exact World.news_of_block (heap_alloc_last _ _)) (by simp [Value.oneCell']) (by unfold maxLen; omega) (by omega) (Nat.le_trans HG.out.size (grown_trans (grown_drewN _ _) (World.grownBy_alloc _ _ none)).size) ?_)
          intro v8 wB hoB hgB
          obtain ⟨a8, c8, rfl⟩ := owns_cut hoB
          have HGA : Hid (W.grownBy wB none) := grown_owned (grown_trans HG.out (grown_trans (grown_drewN _ _) (World.grownBy_alloc _ _ none))) (keep0 HO.out (grown_trans (grown_drewN _ _) (World.grownBy_alloc _ _ none))) (Nat.le_refl _) hgB
          have HOB : Hid (OwnI wB W.heap.size a8 (L + 1) c8 (preF b ++ dirL tn ((es.getD tq []).take (j + 1)))) := by
            show World.ownsRow _ _ _ _ _ _ _
            have e9 : intV (preF b ++ (dirL tn ((es.getD tq []).take j) ++ [(u : Int)])) = intV (preF b ++ dirL tn ((es.getD tq []).take j)) ++ [.int .i64 (u : Int)] := by rw [← List.append_assoc]; unfold intV; rw [List.map_append]; rfl
            rw [HTK.out, e9]
            exact hoB
          clear hoB hgB
          go_wp2_with fail
          go_roundg (E - (j + 1))
          case measure => have := HGJ.out; omega
          case rel => exact ⟨j + 1, L + 1, a8, c8, by omega, rfl, by go_num, rfl, by rw [HTK.out, ← List.append_assoc, List.length_append, ← HLL.out]; rfl, HOB.out, HGA.out⟩
        · have hud : decide (u < tn) = false := decide_eq_false hut
          have hud2 : decide ((u : Int) < (tn : Int)) = false := decide_eq_false (by omega)
          rw [if_neg hut, List.append_nil] at HTK
          clear hut
          go_wp2_with fail
          go_quiet (fail)
          go_wp2_with fail
          go_roundg (E - (j + 1))
          case measure => have := HGJ.out; omega
          case rel => exact ⟨j + 1, L, a, c, by omega, rfl, by go_num, rfl, by rw [HTK.out]; exact HLL.out, by rw [HTK.out]; first | exact HO.out | exact keep0 HO.out (grown_drewN _ _), by first | exact HG.out | exact grown_trans HG.out (grown_drewN _ _)⟩
      · have hjE : E = j := by omega
        subst hjE
        have hjd : decide (E < E) = false := decide_eq_false (by omega)
        have HTF : Hid ((es.getD tq []).take E = es.getD tq []) := by show _ = _; rw [HE.out, List.take_length]
        rw [HTF.out] at HLL HO
        go_wp2_with fail
        go_ret
        exact ⟨a, c, by rw [← HLL.out]; rfl, by rw [← HLL.out]; exact owns_base HO.out HX0.out.grown.size, grown_trans HX0.out.grown HG.out⟩
end

end Go.Proofs.YtckgjolaoifgkaaGreat.J

/-
  trans: the document's List and Direct.
-/
namespace Go.Proofs.YtckgjolaoifgkaaGreat.J
open Go.RowKit Go.Maps Go.Shelf

attribute [local go_sem] Oper.semAt_some

/-- Lists as cells. -/
def lsV (ua : Nat → Option Addr) (Q : Nat → List Int) (uc : Nat → Nat) (k : Nat) : List Value := (List.range k).map fun i => Value.slice (ua i) (Q i).length (uc i)
theorem lsV_at (ua : Nat → Option Addr) (Q : Nat → List Int) (uc : Nat → Nat) {k i : Nat} (h : i < k) : (lsV ua Q uc k)[i]? = some (.slice (ua i) (Q i).length (uc i)) := by
  unfold lsV
  rw [List.getElem?_map, List.getElem?_range h]; rfl
theorem lsV_snoc (ua : Nat → Option Addr) (Q : Nat → List Int) (uc : Nat → Nat) (k : Nat) (a : Option Addr) (c : Nat) : lsV (updL ua k a) Q (updL uc k c) (k + 1) = lsV ua Q uc k ++ [.slice a (Q k).length c] := by
  unfold lsV
  rw [List.range_succ, List.map_append]
  congr 1
  · refine List.map_congr_left fun i hi => ?_
    have := List.mem_range.1 hi
    rw [updL_other _ _ (by omega), updL_other _ _ (by omega)]
  · rw [List.map_singleton, updL_same, updL_same]
theorem ints_ofT {X : World} {B c : Nat} {a : Option Addr} {l : List Int} (h : OwnI X B a l.length c l) : IntsAt X a l := by
  unfold OwnI at h
  rcases h.2 with ⟨_, h0⟩ | ⟨g, cap, cur, hv, hB, hh, hn, hm, hs, ht⟩
  · exact .inl (List.eq_nil_of_length_eq_zero h0)
  · simp only [Value.slice.injEq] at hv
    refine .inr ⟨g, 0, hv.1, fun i hi => ?_⟩
    rw [cell_of_row _ _ _ _ _ _ hh, Nat.zero_add]
    have h1 : (cur.toList.take (l.length * 1))[i]? = (intV l)[i]? := by rw [ht]
    rw [List.getElem?_take, if_pos (by omega)] at h1
    rw [← Array.getElem?_toList, h1]
    unfold intV
    rw [List.getElem?_map, List.getElem?_eq_getElem hi, List.getD_eq_getElem?_getD, List.getElem?_eq_getElem hi]; rfl
/-- What the document's Direct tells. -/
def DocDir (K : Nat) (Q : Nat → List Int) (w : World) (e : Ending) (y : World) : Prop := ∃ (a : Option Addr) (c : Nat) (ua : Nat → Option Addr) (uc : Nat → Nat), e = .returned (.tuple #[.slice a K c, .int .i64 0]) ∧ LsAt y a K Q ua uc ∧ w.grownBy y none
theorem infoIntsT : (Tryz.prog.info? 24).map (fun i => (i.zero, i.size, i.bytes)) = some (some (.slice none 0 0), 1, 24) := by kernel_rfl

section
variable (ta na la pa : Option Addr) (tc nc lc pc : Nat) (n : Nat) (st : Int) (w : World) (tn nn ln : Nat)
set_option maxRecDepth 100000 in
theorem rlistD_bad (ec : Int) (hec : ec = 1 ∨ ec = 11) (hBU : ∀ X, w.grownBy X none → Calls Tryz.prog 14 #[.agg #[.slice ta tn tc, .slice na nn nc, .slice la ln lc, .int .i64 st, .slice pa n pc]] X fun e y => e = .returned (.tuple #[.agg #[.slice none 0 0, .int .i64 0, .int .i64 0], .int .i64 ec]) ∧ X.grownBy y none) :
    Calls Tryz.prog 6 #[.agg #[.slice ta tn tc, .slice na nn nc, .slice la ln lc, .int .i64 st, .slice pa n pc]] w fun e y => e = .returned (.tuple #[.slice none 0 0, .int .i64 ec]) ∧ w.grownBy y none := by
  have HBU := show Hid _ from hBU
  have HX0 : Hid (w.grownBy (w.alloc (.cells #[.slice ta tn tc, .slice na nn nc, .slice la ln lc, .int .i64 st, .slice pa n pc] 27)) none) := World.grownBy_alloc _ _ none
  have hne : (ec != 0) = true := bne_iff_ne.2 (by omega)
  clear hBU hec
  go_enter Tryz.func6, Tryz.ntmps6
  go_wp2_with fail
  refine Calls.mono (HBU.out _ HX0.out) ?_
  rintro e w1 ⟨rfl, hg1⟩
  have HG1 : Hid (w.grownBy w1 none) := grown_trans HX0.out hg1
  clear hg1
  go_wp2_with fail
  go_ret2
  exact ⟨rfl, grown_trans HG1.out (World.grownBy_alloc _ _ none)⟩
set_option maxRecDepth 100000 in
theorem rdirectD_bad (ec : Int) (hec : ec = 1 ∨ ec = 11) (hBU : ∀ X, w.grownBy X none → Calls Tryz.prog 14 #[.agg #[.slice ta tn tc, .slice na nn nc, .slice la ln lc, .int .i64 st, .slice pa n pc]] X fun e y => e = .returned (.tuple #[.agg #[.slice none 0 0, .int .i64 0, .int .i64 0], .int .i64 ec]) ∧ X.grownBy y none) :
    Calls Tryz.prog 7 #[.agg #[.slice ta tn tc, .slice na nn nc, .slice la ln lc, .int .i64 st, .slice pa n pc]] w fun e y => e = .returned (.tuple #[.slice none 0 0, .int .i64 ec]) ∧ w.grownBy y none := by
  have HBU := show Hid _ from hBU
  have HX0 : Hid (w.grownBy (w.alloc (.cells #[.slice ta tn tc, .slice na nn nc, .slice la ln lc, .int .i64 st, .slice pa n pc] 27)) none) := World.grownBy_alloc _ _ none
  have hne : (ec != 0) = true := bne_iff_ne.2 (by omega)
  clear hBU hec
  go_enter Tryz.func7, Tryz.ntmps7
  go_wp2_with fail
  refine Calls.mono (HBU.out _ HX0.out) ?_
  rintro e w1 ⟨rfl, hg1⟩
  have HG1 : Hid (w.grownBy w1 none) := grown_trans HX0.out hg1
  clear hg1
  go_wp2_with fail
  go_ret2
  exact ⟨rfl, grown_trans HG1.out (World.grownBy_alloc _ _ none)⟩

set_option maxRecDepth 100000 in
theorem rlistD_ok (N : Nat) (ask : Int) (htn : tn ≤ 65) (hnn : nn ≤ 65) (ks : List (List It)) (es : List (List (Nat × Nat))) (hN : N = ks.length) (hE : EsOK ks es) (hsy : ∀ q, q < ks.length → ∀ x ∈ es.getD q [], x.1 < tn + nn)
    (hBU : ∀ X, w.grownBy X none → Calls Tryz.prog 14 #[.agg #[.slice ta tn tc, .slice na nn nc, .slice la ln lc, .int .i64 st, .slice pa n pc]] X fun e y => ∃ sa sc kv ev, e = .returned (.tuple #[.agg #[.slice sa N sc, .int .i64 ask, .int .i64 (N : Int)], .int .i64 0]) ∧ AutP X.heap.size y (.slice sa ks.length sc) ks (elF es) kv ev ∧ X.grownBy y none) :
    Calls Tryz.prog 6 #[.agg #[.slice ta tn tc, .slice na nn nc, .slice la ln lc, .int .i64 st, .slice pa n pc]] w fun e y => TrErr (trT tn es N) w e y := by
  have HBU := show Hid _ from hBU
  have HX0 : Hid (PhAt w (w.alloc (.cells #[.slice ta tn tc, .slice na nn nc, .slice la ln lc, .int .i64 st, .slice pa n pc] 27)) w.heap.size #[.slice ta tn tc, .slice na nn nc, .slice la ln lc, .int .i64 st, .slice pa n pc]) := ⟨World.grownBy_alloc _ _ none, heap_alloc_last w _⟩
  obtain ⟨l, hl⟩ : ∃ l, l = trT tn es N := ⟨_, rfl⟩
  have HLE : Hid (l = trT tn es N) := hl
  have HAL : Hid (∀ X sa sc kv ev B, AutP B X (.slice sa ks.length sc) ks (elF es) kv ev → Calls Tryz.prog 15 #[.agg #[.slice ta tn tc, .slice na nn nc, .slice la ln lc, .int .i64 st, .slice pa n pc], .agg #[.slice sa N sc, .int .i64 ask, .int .i64 (N : Int)]] X fun e y => TrTold l X e y) := fun X sa sc kv ev B h => by
    rw [hl]
    exact rall_any ta na la pa sa tc nc lc pc sc n N st ask (N : Int) X tn nn ln htn hnn B ks es kv ev hN (by rw [hN]; exact hE.le) h (fun q hq => (hE.each q hq).1) hsy
  rw [← hl]
  clear hBU hl hE hsy hN
  go_enter Tryz.func6, Tryz.ntmps6
  go_wp2_with fail
  refine Calls.mono (HBU.out _ HX0.out.grown) ?_
  rintro e w2 ⟨sa, sc, kv, ev, rfl, hAP, hg2⟩
  obtain ⟨ab, hab⟩ : ∃ b, b = w2.heap.size := ⟨_, rfl⟩
  obtain ⟨W, hW⟩ : ∃ W, W = w2.alloc (.cells #[.slice sa N sc, .int .i64 ask, .int .i64 (N : Int)] 49) := ⟨_, rfl⟩
  have HWE := show Hid _ from hW
  have HBE := show Hid _ from hab
  have hgW : w2.grownBy W none := by rw [hW]; exact World.grownBy_alloc _ _ none
  have HXW : Hid (PhAt w W w.heap.size #[.slice ta tn tc, .slice na nn nc, .slice la ln lc, .int .i64 st, .slice pa n pc]) := HX0.out.kept (grown_trans hg2 hgW)
  have HAW : Hid (W.heap[ab]? = some (.cells #[.slice sa N sc, .int .i64 ask, .int .i64 (N : Int)] 49 (0, 0))) := by rw [hW, hab]; exact heap_alloc_last w2 _
  have HC := show Hid _ from HAL.out W sa sc kv ev _ (hAP.kept hgW)
  obtain ⟨k0, k1, k2, k3, k4⟩ := HXW.out.cells
  have y0 : W.cell? ⟨ab, 0, none⟩ = some (.slice sa N sc) := by rw [cell_of_row _ _ _ _ _ _ HAW.out]; rfl
  have y1 : W.cell? ⟨ab, 1, none⟩ = some (.int .i64 ask) := by rw [cell_of_row _ _ _ _ _ _ HAW.out]; rfl
  have y2 : W.cell? ⟨ab, 2, none⟩ = some (.int .i64 (N : Int)) := by rw [cell_of_row _ _ _ _ _ _ HAW.out]; rfl
  rw [HWE.out] at k0 k1 k2 k3 k4
  rw [HWE.out, HBE.out] at y0 y1 y2
  clear hg2 hAP HX0 hW hab hgW
  go_wp2_with fail
  rw [← HWE.out]
  refine Calls.mono HC.out ?_
  rintro e w3 ⟨a3, c3, rfl, ho3, hg3⟩
  have HG3 : Hid (w.grownBy w3 none) := grown_trans HXW.out.grown hg3
  have HO3 : Hid (w3.ownsRow w.heap.size 39 2 (.slice a3 l.length c3) l.length (itsV l)) := owns_base ho3 HXW.out.grown.size
  obtain ⟨K, hK⟩ : ∃ k, k = l.length := ⟨_, rfl⟩
  have HK : Hid (K = l.length) := hK
  rw [← hK]
  clear hg3 ho3 hK k0 k1 k2 k3 k4 y0 y1 y2
  go_wp2_with fail
  go_ret2
  exact ⟨a3, c3, by rw [← HK.out]; rfl, HO3.out, HG3.out⟩

set_option maxRecDepth 100000 in
set_option maxHeartbeats 4000000 in
theorem rdirectD_ok (N : Nat) (ask : Int) (htn : tn ≤ 65) (hnn : nn ≤ 65) (ks : List (List It)) (es : List (List (Nat × Nat))) (hN : N = ks.length) (hE : EsOK ks es) (hsy : ∀ q, q < ks.length → ∀ x ∈ es.getD q [], x.1 < tn + nn) (l : List It) (hl : l = trT tn es N) (hlb : l.length ≤ 33280)
    (hBU : ∀ X, w.grownBy X none → Calls Tryz.prog 14 #[.agg #[.slice ta tn tc, .slice na nn nc, .slice la ln lc, .int .i64 st, .slice pa n pc]] X fun e y => ∃ sa sc kv ev, e = .returned (.tuple #[.agg #[.slice sa N sc, .int .i64 ask, .int .i64 (N : Int)], .int .i64 0]) ∧ AutP X.heap.size y (.slice sa ks.length sc) ks (elF es) kv ev ∧ X.grownBy y none) :
    Calls Tryz.prog 7 #[.agg #[.slice ta tn tc, .slice na nn nc, .slice la ln lc, .int .i64 st, .slice pa n pc]] w fun e y => DocDir l.length (fun k => dirOf tn st es (l.getD k (0, 0))) w e y := by
  have HBU := show Hid _ from hBU
  have HX0 : Hid (PhAt w (w.alloc (.cells #[.slice ta tn tc, .slice na nn nc, .slice la ln lc, .int .i64 st, .slice pa n pc] 27)) w.heap.size #[.slice ta tn tc, .slice na nn nc, .slice la ln lc, .int .i64 st, .slice pa n pc]) := ⟨World.grownBy_alloc _ _ none, heap_alloc_last w _⟩
  have HAL : Hid (∀ X sa sc kv ev B, AutP B X (.slice sa ks.length sc) ks (elF es) kv ev → Calls Tryz.prog 15 #[.agg #[.slice ta tn tc, .slice na nn nc, .slice la ln lc, .int .i64 st, .slice pa n pc], .agg #[.slice sa N sc, .int .i64 ask, .int .i64 (N : Int)]] X fun e y => TrTold l X e y) := fun X sa sc kv ev B h => by
    rw [hl]
    exact rall_any ta na la pa sa tc nc lc pc sc n N st ask (N : Int) X tn nn ln htn hnn B ks es kv ev hN (by rw [hN]; exact hE.le) h (fun q hq => (hE.each q hq).1) hsy
  have HBH : Hid (∀ X sa sc kv ev B x, AutP B X (.slice sa ks.length sc) ks (elF es) kv ev → x ∈ l → Calls Tryz.prog 16 #[.agg #[.slice ta tn tc, .slice na nn nc, .slice la ln lc, .int .i64 st, .slice pa n pc], .agg #[.slice sa N sc, .int .i64 ask, .int .i64 (N : Int)], .agg #[.int .i64 x.1, .int .i64 x.2]] X fun e y => NumTold (dirOf tn st es x) X e y) := fun X sa sc kv ev B x h hx => by
    rw [hl, hN] at hx
    obtain ⟨q, s, tq, rfl, hq, h1, h2, h3, h4⟩ := hE.trans hx
    have e1 : dirOf tn st es ((q : Int), (s : Int)) = preF ((q : Int) == 0 && (s : Int) == st) ++ dirL tn (es.getD tq []) := by
      unfold dirOf
      rw [h3]; rfl
    rw [e1]
    exact rtbehind_any ta na la pa sa tc nc lc pc sc n N st ask (N : Int) X tn nn ln B ks es kv ev hN hE h q s tq (by rw [hN]; exact hq) h3 (by rw [hN]; exact h4)
  have HDL : Hid (∀ x, (dirOf tn st es x).length ≤ 131) := fun x => dirOf_len hE.short
  obtain ⟨i1, hi1, hy0, hy1, hy2⟩ := info_parts infoIntsT
  have EB : Hid (∀ args w, (callFunc 16 args).run Tryz.prog w = .ok (.enter 16 args) w) := enters_of Tryz.func16 (by kernel_rfl) rfl
  obtain ⟨K, hK⟩ : ∃ k, k = l.length := ⟨_, rfl⟩
  have HK : Hid (K = l.length) := hK
  obtain ⟨Q, hQ⟩ : ∃ Q : Nat → List Int, Q = fun k => dirOf tn st es (l.getD k (0, 0)) := ⟨_, rfl⟩
  have HQ : Hid (Q = fun k => dirOf tn st es (l.getD k (0, 0))) := hQ
  rw [← hK] at hlb
  rw [← hK, ← hQ]
  clear hBU hl hE hsy hN hK hQ
  go_enter Tryz.func7, Tryz.ntmps7
  go_wp2_with fail
  refine Calls.mono (HBU.out _ HX0.out.grown) ?_
  rintro e w2 ⟨sa, sc, kv, ev, rfl, hAP, hg2⟩
  obtain ⟨ab, hab⟩ : ∃ b, b = w2.heap.size := ⟨_, rfl⟩
  obtain ⟨W, hW⟩ : ∃ W, W = w2.alloc (.cells #[.slice sa N sc, .int .i64 ask, .int .i64 (N : Int)] 49) := ⟨_, rfl⟩
  have HWE := show Hid _ from hW
  have HBE := show Hid _ from hab
  have hgW : w2.grownBy W none := by rw [hW]; exact World.grownBy_alloc _ _ none
  have HXW : Hid (PhAt w W w.heap.size #[.slice ta tn tc, .slice na nn nc, .slice la ln lc, .int .i64 st, .slice pa n pc]) := HX0.out.kept (grown_trans hg2 hgW)
  have HAW : Hid (W.heap[ab]? = some (.cells #[.slice sa N sc, .int .i64 ask, .int .i64 (N : Int)] 49 (0, 0))) := by rw [hW, hab]; exact heap_alloc_last w2 _
  have HAC : Hid (∀ Y, W.grownBy Y none → (Y.cell? ⟨w.heap.size, 0, none⟩ = some (.slice ta tn tc) ∧ Y.cell? ⟨w.heap.size, 1, none⟩ = some (.slice na nn nc) ∧ Y.cell? ⟨w.heap.size, 2, none⟩ = some (.slice la ln lc) ∧ Y.cell? ⟨w.heap.size, 3, none⟩ = some (.int .i64 st) ∧ Y.cell? ⟨w.heap.size, 4, none⟩ = some (.slice pa n pc)) ∧ Y.cell? ⟨ab, 0, none⟩ = some (.slice sa N sc) ∧ Y.cell? ⟨ab, 1, none⟩ = some (.int .i64 ask) ∧ Y.cell? ⟨ab, 2, none⟩ = some (.int .i64 (N : Int))) := fun Y hY => by
    have h := box_kept HAW.out hY
    exact ⟨(HXW.out.kept hY).cells, by rw [cell_of_row _ _ _ _ _ _ h]; rfl, by rw [cell_of_row _ _ _ _ _ _ h]; rfl, by rw [cell_of_row _ _ _ _ _ _ h]; rfl⟩
  have HC := show Hid _ from HAL.out W sa sc kv ev _ (hAP.kept hgW)
  have HPW : Hid (∀ Y x, W.grownBy Y none → x ∈ l → Calls Tryz.prog 16 #[.agg #[.slice ta tn tc, .slice na nn nc, .slice la ln lc, .int .i64 st, .slice pa n pc], .agg #[.slice sa N sc, .int .i64 ask, .int .i64 (N : Int)], .agg #[.int .i64 x.1, .int .i64 x.2]] Y fun e y => NumTold (dirOf tn st es x) Y e y) := fun Y x hY hx => HBH.out Y sa sc kv ev _ x (hAP.kept (grown_trans hgW hY)) hx
  obtain ⟨⟨k0, k1, k2, k3, k4⟩, y0, y1, y2⟩ := HAC.out W (grown_refl _ _)
  rw [HWE.out] at k0 k1 k2 k3 k4
  rw [HWE.out, HBE.out] at y0 y1 y2
  clear hg2 hAP HX0 hW hab hgW HAW HBH HAL
  go_wp2_with fail
  rw [← HWE.out, ← HBE.out]
  refine Calls.mono HC.out ?_
  rintro e w3 ⟨a3, c3, rfl, ho3, hg3⟩
  have HG3 : Hid (W.grownBy w3 none) := hg3
  have HI3 : Hid (∀ Y, w3.grownBy Y none → ItsAt Y a3 l) := fun Y hY => (ItsAt.ofT ho3).kept hY
  rw [← HK.out]
  clear hg3 ho3 k0 k1 k2 k3 k4 y0 y1 y2 HWE HBE HC
  go_wp2_with fail
  go_loopg [7, 8] K (fun gk v7 v8 wr => ∃ (k c : Nat) (a : Option Addr) (ua : Nat → Option Addr) (uc : Nat → Nat), k ≤ K ∧ gk = K - k ∧ v8 = .int .i64 k ∧ v7 = .slice a k c ∧ w3.grownBy wr none ∧ wr.ownsRow w3.heap.size 24 1 (.slice a k c) k (lsV ua Q uc k) ∧ ∀ i, i < k → OwnI wr w3.heap.size (ua i) (Q i).length (uc i) (Q i))
  case atStart => exact ⟨0, 0, none, fun _ => none, fun _ => 0, Nat.zero_le _, rfl, rfl, rfl, grown_refl _ _, World.ownsRow_nil _ _ _ _, fun i hi => absurd hi (Nat.not_lt_zero _)⟩
  case round =>
    obtain ⟨k, c, a, ua, uc, hk, hgk, rfl, rfl, hg, ho, hr⟩ := hrel
    have HGK : Hid (gk = K - k) := hgk
    have HG : Hid (w3.grownBy wr none) := hg
    have HO : Hid (wr.ownsRow w3.heap.size 24 1 (.slice a k c) k (lsV ua Q uc k)) := ho
    have HR : Hid (∀ i, i < k → OwnI wr w3.heap.size (ua i) (Q i).length (uc i) (Q i)) := hr
    clear hgk hg ho hr
    by_cases hlt : k < K
    · have hkd : decide (k < K) = true := decide_eq_true hlt
      have hk0 : (0 : Int) ≤ (k : Int) := by omega
      have hk1 : (k : Int) < (K : Int) := by omega
      have hkl : k < l.length := by rw [← HK.out]; exact hlt
      obtain ⟨tb, to_, hta, c0, c1⟩ := (HI3.out wr HG.out).cellAt hkl
      subst hta
      have hmem : l.getD k (0, 0) ∈ l := by rw [List.getD_eq_getElem?_getD, List.getElem?_eq_getElem hkl]; exact List.getElem_mem hkl
      obtain ⟨x, hx⟩ : ∃ x, x = l.getD k (0, 0) := ⟨_, rfl⟩
      have HQK : Hid (Q k = dirOf tn st es x) := by show _ = _; rw [HQ.out, hx]
      rw [← hx] at c0 c1 hmem
      have HDC : Hid (∀ Y, wr.grownBy Y none → Calls Tryz.prog 16 #[.agg #[.slice ta tn tc, .slice na nn nc, .slice la ln lc, .int .i64 st, .slice pa n pc], .agg #[.slice sa N sc, .int .i64 ask, .int .i64 (N : Int)], .agg #[.int .i64 x.1, .int .i64 x.2]] Y fun e y => NumTold (dirOf tn st es x) Y e y) := fun Y hY => HPW.out Y x (grown_trans HG3.out (grown_trans HG.out hY)) hmem
      have hdb := HDL.out x
      obtain ⟨D, hD⟩ : ∃ D, D = dirOf tn st es x := ⟨_, rfl⟩
      rw [← hD] at HDC HQK hdb
      obtain ⟨p, d⟩ := x
      simp only at c0 c1 HDC
      obtain ⟨dl, hdl⟩ : ∃ d, d = D.length := ⟨_, rfl⟩
      have HDLL : Hid (dl = D.length) := hdl
      obtain ⟨⟨k0, k1, k2, k3, k4⟩, y0, y1, y2⟩ := HAC.out wr (grown_trans HG3.out HG.out)
      have HFIN : Hid (∀ (w6 wB : World) (a7 : Option Addr) (c7 : Nat) (v6 : Value), wr.grownBy w6 none → w6.ownsRow wr.heap.size 3 1 (.slice a7 dl c7) dl (intV D) → wB.ownsRow w3.heap.size 24 1 v6 (k + 1) (lsV ua Q uc k ++ [.slice a7 dl c7]) → (w6.alloc (.cells #[.slice a7 dl c7] 24)).grownBy wB (Value.slice a k c).ownBlock → ∃ a8 c8, v6 = .slice a8 (k + 1) c8 ∧ w3.grownBy wB none ∧ wB.ownsRow w3.heap.size 24 1 (.slice a8 (k + 1) c8) (k + 1) (lsV (updL ua k a7) Q (updL uc k c7) (k + 1)) ∧ ∀ i, i < k + 1 → OwnI wB w3.heap.size (updL ua k a7 i) (Q i).length (updL uc k c7 i) (Q i)) := by
        intro w6 wB a7 c7 v6 hg6 ho6 hoB hgB
        obtain ⟨a8, c8, rfl⟩ := owns_cut hoB
        have hgA := grown_trans hg6 (World.grownBy_alloc w6 (.cells #[.slice a7 dl c7] 24) none)
        have hoA := keep0 HO.out hgA
        refine ⟨a8, c8, rfl, grown_owned (grown_trans HG.out hgA) hoA (Nat.le_refl _) hgB, ?_, fun i hi => ?_⟩
        · rw [lsV_snoc, HQK.out, ← HDLL.out]
          exact hoB
        · by_cases e : i = k
          · subst e
            rw [updL_same, updL_same, HQK.out]
            show World.ownsRow _ _ _ _ _ _ _
            rw [← HDLL.out]
            exact owns_base (row_row (keep0 ho6 (World.grownBy_alloc _ _ none)) hoA (by decide) hgB) HG.out.size
          · rw [updL_other _ _ e, updL_other _ _ e]
            exact row_row (keep0 (HR.out i (by omega)) hgA) hoA (by decide) hgB
      have HOW : Hid (∀ Y, wr.grownBy Y none → Y.ownsRow w3.heap.size 24 1 (.slice a k c) k (lsV ua Q uc k)) := fun Y hY => keep0 HO.out hY
      have HBS : Hid (∀ Y, wr.grownBy Y none → w3.heap.size ≤ Y.heap.size) := fun Y hY => Nat.le_trans HG.out.size hY.size
      clear hx hkl hmem hD hdl
      go_wp2_with fail
      go_region_law (first
        | (refine step_call rfl 16 #[.tmp 27, .tmp 28, .tmp 32] #[27, 49, 39] rfl #[.agg #[.slice ta tn tc, .slice na nn nc, .slice la ln lc, .int .i64 st, .slice pa n pc], .agg #[.slice sa N sc, .int .i64 ask, .int .i64 (N : Int)], .agg #[.int .i64 p, .int .i64 d]] (by first | (simp [Act.eval]; done) | simp [Act.eval, Act.put]) EB.out (HDC.out _ (grown_drewN _ 1)) ?_; rintro e w6 ⟨a7, c7, rfl, ho6, hg6⟩; refine ⟨_, rfl, ?_⟩; rw [← HDLL.out] at ho6 ⊢; have HG6 : Hid (wr.grownBy w6 none) := grown_trans (grown_drewN _ 1) hg6; have HO6 : Hid (w6.ownsRow wr.heap.size 3 1 (.slice a7 dl c7) dl (intV D)) := ho6; clear hg6 ho6)
        | (refine step_append_src rfl (.tmp 26) (.tmp 34) 34 rfl w3.heap.size 24 i1 (.slice none 0 0) 1 24 Tryz.underlying34 hi1 hy0 hy1 hy2 rfl (by decide) (.slice a k c) k (lsV ua Q uc k) (by simp [Act.eval]) (HOW.out _ (grown_trans HG6.out (World.grownBy_alloc _ _ none))) (some ⟨w6.heap.size, 0, none⟩) 1 1 [.slice a7 dl c7] (by simp [Act.eval]) (fun h => by cases h) rfl (fun ad e => by cases e; exact World.news_of_block (heap_alloc_last w6 _)) (by simp [Value.oneCell']) (by unfold maxLen; omega) (by omega) (HBS.out _ (grown_trans HG6.out (World.grownBy_alloc _ _ none))) ?_; intro v6 wB hoB hgB; obtain ⟨aB, cB, rfl, z0, z1, z2⟩ := HFIN.out w6 wB a7 c7 v6 HG6.out HO6.out hoB hgB; have HZ0 : Hid (w3.grownBy wB none) := z0; have HZ1 : Hid (wB.ownsRow w3.heap.size 24 1 (.slice aB (k + 1) cB) (k + 1) (lsV (updL ua k a7) Q (updL uc k c7) (k + 1))) := z1; have HZ2 : Hid (∀ i, i < k + 1 → OwnI wB w3.heap.size (updL ua k a7 i) (Q i).length (updL uc k c7 i) (Q i)) := z2; clear z0 z1 z2 hoB hgB)
        | fail)
      all_goals go_wp2_with fail
      all_goals go_roundg (K - (k + 1))
      all_goals first
        | exact ⟨k + 1, cB, aB, _, _, by omega, rfl, by go_num, rfl, HZ0.out, HZ1.out, HZ2.out⟩
        | (have := HGK.out; omega)
    · have hkK : K = k := by omega
      subst hkK
      have hkd : decide (K < K) = false := decide_eq_false (by omega)
      go_wp2_with fail
      go_ret2
      refine ⟨a, c, ua, uc, rfl, ⟨?_, fun i hi => ints_ofT (HR.out i hi)⟩, grown_trans HXW.out.grown (grown_trans HG3.out HG.out)⟩
      by_cases h0 : K = 0
      · exact .inl h0
      · obtain ⟨g, c', he, hc⟩ := owns_at HO.out (by omega)
        simp only [Value.slice.injEq] at he
        exact .inr ⟨g, he.1, fun i hi => hc _ _ (lsV_at ua Q uc hi)⟩
end

end Go.Proofs.YtckgjolaoifgkaaGreat.J

/-
  lr0: an automaton that is spoilt, in memory.
-/
namespace Go.Proofs.YtckgjolaoifgkaaGreat.J
open Go.RowKit Go.Maps Go.Shelf

/-- A row of one's own, whatever it holds. -/
def Like2 (X : World) (B e : Nat) (v : Value) (n : Nat) : Prop := ∃ xs, X.ownsRow B e 2 v n xs
/-- Each block of cells stays one of its type and size. -/
def Sizes (X Y : World) : Prop := ∀ (b : Nat) (cs : Array Value) (e : TypeId), X.heap[b]? = some (.cells cs e (0, 0)) → ∃ cs', Y.heap[b]? = some (.cells cs' e (0, 0)) ∧ cs'.size = cs.size
theorem Sizes.ofG {X Y : World} (h : X.grownBy Y none) : Sizes X Y := fun _ cs _ hb => ⟨cs, box_kept hb h, rfl⟩
theorem Sizes.trans {X Y Z : World} (h : Sizes X Y) (k : Sizes Y Z) : Sizes X Z := fun b cs e hb => by
  obtain ⟨cs1, h1, h2⟩ := h b cs e hb
  obtain ⟨cs2, h3, h4⟩ := k b cs1 e h1
  exact ⟨cs2, h3, h4.trans h2⟩
theorem Sizes.set (X : World) (g o : Nat) (u : Value) : Sizes X (X.setCell ⟨g, o, none⟩ u) := fun b cs e hb => by
  by_cases h : b = g
  · subst h
    exact ⟨_, heap_setCell_same _ _ _ _ _ _ hb, Array.size_setIfInBounds⟩
  · have hg : X.grownBy (X.setCell ⟨g, o, none⟩ u) (some g) := grown_setCell _ _ _
    exact ⟨cs, (hg.block b (Array.getElem?_eq_some_iff.1 hb).1 (by simpa using h)).trans hb, rfl⟩
theorem Like2.sized {X Y : World} {B e n : Nat} {v : Value} (h : Like2 X B e v n) (hs : Sizes X Y) : Like2 Y B e v n := by
  obtain ⟨xs, h1, h2⟩ := h
  rcases h2 with ⟨rfl, rfl⟩ | ⟨g, cap, cur, rfl, hB, hh, h3, h4, h5, h6⟩
  · exact ⟨xs, h1, .inl ⟨rfl, rfl⟩⟩
  · obtain ⟨cur', h7, h8⟩ := hs g cur e hh
    refine ⟨cur'.toList.take (n * 2), ?_, .inr ⟨g, cap, cur', rfl, hB, h7, h3, h4, by rw [h8]; exact h5, rfl⟩⟩
    have h9 : n * 2 ≤ cap * 2 := Nat.mul_le_mul_right _ h3
    rw [List.length_take, Array.length_toList, h8, h5]
    omega
theorem Like2.at {X : World} {B e n i : Nat} {v : Value} (h : Like2 X B e v n) (hi : i < n) : ∃ g c u0 u1 cur, v = .slice (some ⟨g, 0, none⟩) n c ∧ B ≤ g ∧ X.cell? ⟨g, i * 2, none⟩ = some u0 ∧ X.cell? ⟨g, i * 2 + 1, none⟩ = some u1 ∧ (∀ o, X.frozen? ⟨g, o, none⟩ = false) ∧ X.heap[g]? = some (.cells cur e (0, 0)) := by
  obtain ⟨xs, h1, h2⟩ := h
  rcases h2 with ⟨rfl, rfl⟩ | ⟨g, cap, cur, rfl, hB, hh, h3, h4, h5, h6⟩
  · omega
  · refine ⟨g, cap, cur[i * 2]'(by omega), cur[i * 2 + 1]'(by omega), cur, rfl, hB, ?_, ?_, fun o => frozen_of_row _ _ _ _ _ hh, hh⟩
    · rw [cell_of_row _ _ _ _ _ _ hh, Array.getElem?_eq_getElem]
    · rw [cell_of_row _ _ _ _ _ _ hh, Array.getElem?_eq_getElem]
section
variable {P : Program} (w : World)
theorem run_append_like (t ty : TypeId) (base : Nat) (e : TypeId) (i : TypeInfo) (z : Value) (size bytes : Nat) (ht : P.underlying t = some (.slice e)) (hi : P.info? e = some i) (hz : i.zero = some z)
    (hsize : i.size = size) (hby : i.bytes = bytes) (hzs : z.cells.size = size) (hsz : 0 < size)
    (v : Value) (n : Nat) (xs : List Value) (hown : w.ownsRow base e size v n xs)
    (ad : Addr) (m c : Nat) (news : List Value) (hl : news.length = m * size) (hnews : ∀ j u, news[j]? = some u → w.cell? (ad.add j) = some u) (h1 : ∀ u ∈ news, u.oneCell' = true)
    (h63 : n + m ≤ maxLen) (hbytes : ((n + m) + (n + m) / 4 + 192) * bytes ≤ 281474976710656) (hbase : base ≤ w.heap.size) :
    ∃ a' c' w', (Builtin.append_ #[t, t] ty #[v, .slice (some ad) m c]).run P w = .ok (.slice a' (n + m) c') w' ∧ w.grownBy w' v.ownBlock ∧ Sizes w w' := by
  obtain ⟨v', w', hr, h2, h3, _⟩ := run_append_own_wide (P := P) w base t ty e i z size bytes ht hi hz hsize hby hzs hsz v n xs hown ad m c news hl hnews h1 h63 hbytes hbase
  obtain ⟨a', c', rfl⟩ := owns_cut h2
  refine ⟨a', c', w', hr, h3, ?_⟩
  subst hsize
  subst hby
  rcases hown.2 with ⟨rfl, rfl⟩ | ⟨g', cap', cur, rfl, hbg, hg, hnc, hcm, hcs, htake⟩
  · exact Sizes.ofG h3
  · by_cases hroom : n + m ≤ cap'
    · have hfit : n * i.size + news.length ≤ cur.size := by rw [hl, hcs, ← Nat.add_mul]; exact Nat.mul_le_mul_right _ hroom
      have hr2 := run_append_room (P := P) w t ty e i ht hi g' n cap' cur hg ad m c news hl hnews h1 hroom hfit
      rw [hr] at hr2
      simp only [Result.ok.injEq] at hr2
      obtain ⟨_, rfl⟩ := hr2
      intro b cs e2 hb
      by_cases eb : b = g'
      · subst eb
        rw [hg] at hb
        simp only [Option.some.injEq, Obj.cells.injEq] at hb
        obtain ⟨rfl, rfl, _⟩ := hb
        refine ⟨_, setRow_heap w b cur _ _ _ hg, ?_⟩
        simp only [List.size_toArray, List.length_append, List.length_take, List.length_drop, Array.length_toList]
        omega
      · refine ⟨cs, (h3.block b (Array.getElem?_eq_some_iff.1 hb).1 ?_).trans hb, rfl⟩
        simpa [Value.ownBlock] using eb
    · have holds : ∀ j u, xs[j]? = some u → w.cell? ((⟨g', 0, none⟩ : Addr).add j) = some u := hown.cells (g := g') rfl
      have hr2 := run_append_grow (P := P) w t ty e i z ht hi hz ⟨g', 0, none⟩ n cap' xs hown.1 holds ad m c news hl hnews (by omega) (by simp only [maxLen] at h63; omega) (growslice_fits_wide (by omega) hbytes)
      rw [hr] at hr2
      simp only [Result.ok.injEq] at hr2
      obtain ⟨_, rfl⟩ := hr2
      exact Sizes.ofG ⟨rfl, rfl, rfl, by simp, fun k hk _ => Go.heap_alloc_old w.drew _ hk⟩

end

theorem spoil_other {X Y : World} {b r : Nat} {cs cs' : Array Value} {t t' : TypeId} (h : X.heap[b]? = some (.cells cs t (0, 0))) (hr : X.heap[r]? = some (.cells cs' t' (0, 0))) (ht : t ≠ t') (hg : X.grownBy Y (some r)) : Y.heap[b]? = some (.cells cs t (0, 0)) := by
  refine (hg.block b (Array.getElem?_eq_some_iff.1 h).1 ?_).trans h
  intro e
  have e2 : b = r := by simpa using e
  subst e2
  rw [h] at hr
  simp only [Option.some.injEq, Obj.cells.injEq] at hr
  exact ht hr.2.1
/-- An automaton while it is spoilt: of the states from ik on the kernels, from ie on the edges, lie as they lay. -/
structure SpAt (w0 X : World) (ab : Nat) (bc : Array Value) (B sb N ik ie : Nat) (kv ev : Nat → Value) (kn en : Nat → Nat) (cur : Array Value) : Prop where
  grown : w0.grownBy X none
  blk : X.heap[sb]? = some (.cells cur 72 (0, 0))
  atK : ∀ j, ik ≤ j → j < N → cur[j * 2]? = some (kv j)
  atE : ∀ j, ie ≤ j → j < N → cur[j * 2 + 1]? = some (ev j)
  ker : ∀ j, ik ≤ j → j < N → Like2 X B 68 (kv j) (kn j)
  edg : ∀ j, ie ≤ j → j < N → Like2 X B 78 (ev j) (en j)
  lo : w0.heap.size ≤ B ∧ B ≤ sb
  box : X.heap[ab]? = some (.cells bc 49 (0, 0))
section
variable {w0 X Y : World} {ab : Nat} {bc : Array Value} {B sb N ik ie : Nat} {kv ev : Nat → Value} {kn en : Nat → Nat} {cur : Array Value}
/-- A block of another type than State, from B on, is turned, its size kept. -/
theorem SpAt.turn {g : Nat} {cs : Array Value} {t : TypeId} (h : SpAt w0 X ab bc B sb N ik ie kv ev kn en cur) (hg : X.grownBy Y (some g)) (hs : Sizes X Y) (hb : X.heap[g]? = some (.cells cs t (0, 0))) (ht : t ≠ 72) (ht2 : t ≠ 49) (hB : B ≤ g) : SpAt w0 Y ab bc B sb N ik ie kv ev kn en cur := by
  refine ⟨grown_new h.grown hg (Nat.le_trans h.lo.1 hB), ?_, h.atK, h.atE, fun j h1 h2 => (h.ker j h1 h2).sized hs, fun j h1 h2 => (h.edg j h1 h2).sized hs, h.lo, spoil_other h.box hb (fun e => ht2 e.symm) hg⟩
  refine (hg.block sb (Array.getElem?_eq_some_iff.1 h.blk).1 ?_).trans h.blk
  intro e
  have e2 : sb = g := by simpa using e
  subst e2
  rw [h.blk] at hb
  simp only [Option.some.injEq, Obj.cells.injEq] at hb
  exact ht hb.2.1.symm
theorem SpAt.kept (h : SpAt w0 X ab bc B sb N ik ie kv ev kn en cur) (hg : X.grownBy Y none) : SpAt w0 Y ab bc B sb N ik ie kv ev kn en cur :=
  ⟨grown_trans h.grown hg, box_kept h.blk hg, h.atK, h.atE, fun j h1 h2 => (h.ker j h1 h2).sized (.ofG hg), fun j h1 h2 => (h.edg j h1 h2).sized (.ofG hg), h.lo, box_kept h.box hg⟩
/-- A row of another type is appended to. -/
theorem SpAt.more {e n : Nat} {v : Value} {xs : List Value} (h : SpAt w0 X ab bc B sb N ik ie kv ev kn en cur) (ho : X.ownsRow B e 2 v n xs) (he : e ≠ 72) (he2 : e ≠ 49) (hg : X.grownBy Y v.ownBlock) (hs : Sizes X Y) : SpAt w0 Y ab bc B sb N ik ie kv ev kn en cur := by
  rcases ho.2 with ⟨rfl, _⟩ | ⟨g, cap, c2, rfl, hB, hh, _⟩
  · exact h.kept hg
  · exact h.turn (g := g) hg hs hh he he2 hB
theorem SpAt.free (h : SpAt w0 X ab bc B sb N ik ie kv ev kn en cur) (o : Nat) : X.frozen? ⟨sb, o, none⟩ = false := frozen_of_row _ _ _ _ _ h.blk
theorem SpAt.setE {i : Nat} {v : Value} (h : SpAt w0 X ab bc B sb N ik i kv ev kn en cur) : SpAt w0 (X.setCell ⟨sb, i * 2 + 1, none⟩ v) ab bc B sb N ik (i + 1) kv ev kn en (cur.setIfInBounds (i * 2 + 1) v) := by
  refine ⟨grown_new h.grown (grown_setCell _ _ _) (Nat.le_trans h.lo.1 h.lo.2), heap_setCell_same _ _ _ _ _ _ h.blk, fun j h1 h2 => ?_, fun j h1 h2 => ?_, fun j h1 h2 => (h.ker j h1 h2).sized (.set _ _ _ _), fun j h1 h2 => (h.edg j (by omega) h2).sized (.set _ _ _ _), h.lo, spoil_other h.box h.blk (by decide) (grown_setCell _ _ _)⟩
  · rw [Array.getElem?_setIfInBounds_ne (by omega)]; exact h.atK j h1 h2
  · rw [Array.getElem?_setIfInBounds_ne (by omega)]; exact h.atE j (by omega) h2
end

end Go.Proofs.YtckgjolaoifgkaaGreat.J
