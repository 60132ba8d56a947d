import Derived.Test.YtkcdipnobgggkaaQholcoakgjnia
import Derived.Deep.RegionHeld3
import Derived.Test.YtkcdipnobgggkaaQmcineippbklm

/-
  trans: direct.
-/
namespace Go.Proofs.Ytkcdipnobgggkaa.J
open Go.RowKit Go.Maps Go.Shelf

attribute [local go_sem] Oper.semAt_some

theorem eq_trans (p d p' d' : Int) (w : World) : (binOp .eql 62 (.agg #[.int .i64 p, .int .i64 d]) (.agg #[.int .i64 p', .int .i64 d'])).run Try.prog w = .ok (.bool (p == p' && d == d')) w := by
  have u3 := Try.underlying3
  have a3 := Try.isAgg3
  have z3 := Try.sizeOf3
  have hS : Try.prog.underlying 62 = some (.struct (Try.prog.fieldsOf 62)) := by kernel_rfl
  have hp : Try.prog.stoodInHeld 62 = false := by kernel_rfl
  rw [run_eql_struct, show (10000 : Nat) = 9999 + 1 from rfl, run_equalIn_agg w 9999 62 _ _ hS hp]
  simp only [Program.fieldsOf, Try.underlying62]
  go_simp
  by_cases h1 : p = p' <;> by_cases h2 : d = d' <;> simp [h1, h2]
def intV (l : List Int) : List Value := l.map (Value.int .i64)
theorem intV_append (l m : List Int) : intV (l ++ m) = intV l ++ intV m := by unfold intV; rw [List.map_append]
/-- The terminals among edges. -/
def dirL (tn : Nat) (l : List (Nat × Nat)) : List Int := (l.filter fun x => decide (x.1 < tn)).map fun x => (x.1 : Int)
theorem dirL_snoc (tn : Nat) (l : List (Nat × Nat)) (s t : Nat) : dirL tn (l ++ [(s, t)]) = dirL tn l ++ (if s < tn then [(s : Int)] else []) := by
  unfold dirL
  rw [List.filter_append, List.map_append]
  by_cases h : s < tn
  · rw [if_pos h]; simp [h]
  · rw [if_neg h]; simp [h]
theorem dirL_len (tn : Nat) (l : List (Nat × Nat)) : (dirL tn l).length ≤ l.length := by
  unfold dirL
  rw [List.length_map]
  exact List.length_filter_le _ _
def preF (b : Bool) : List Int := if b then [0] else []
theorem preF_len (b : Bool) : (preF b).length ≤ 1 := by cases b <;> decide
/-- What direct tells. -/
def NumTold (l : List Int) (w : World) (e : Ending) (y : World) : Prop := ∃ (a : Option Addr) (c : Nat), e = .returned (.slice a l.length c) ∧ y.ownsRow w.heap.size 3 1 (.slice a l.length c) l.length (intV l) ∧ w.grownBy y none

section
variable (ta na la pa sa : Option Addr) (tc nc lc pc sc : Nat) (n N lb : Nat) (st : Int) (w : World) (tn nn ln : Nat)

set_option maxRecDepth 100000 in
set_option maxHeartbeats 4000000 in
theorem direct_other (B m : Nat) (ks : List (List It)) (es : List (List (Nat × Nat))) (kv ev : Nat → Value) (hN : N = ks.length) (hN256 : N ≤ 256) (hP : AutP B w (.slice sa ks.length sc) ks (elF es) kv ev) (hes : ∀ q, q < ks.length → (es.getD q []).length ≤ 130) (hL : LdAt w lb m (leadA es)) (hOK : LeadOK es) (q tq : Nat) (s : Int) (hq : q < N) (hsw : (Lit.int .i64 s).wf = true) (hto : leadA es ((q : Int), s) = some (tq : Int)) (htN : tq < N) (hst : ¬ ((q : Int) = 0 ∧ s = st)) :
    Calls Try.prog 32 #[.agg #[.slice ta tn tc, .slice na nn nc, .slice la ln lc, .int .i64 st, .slice pa n pc, .slice sa N sc, .map (some lb)], .agg #[.int .i64 (q : Int), .int .i64 s]] w fun e y => NumTold (preF false ++ dirL tn (es.getD tq [])) w e y := by
  have HN : Hid (N = ks.length) := hN
  have HP : Hid (∀ Y, w.grownBy Y none → AutP B Y (.slice sa ks.length sc) ks (elF es) kv ev) := fun Y hY => hP.kept hY
  have HES := show Hid _ from hes
  have htk : tq < ks.length := by rw [← hN]; exact htN
  obtain ⟨sb, sc', hsv, _, _⟩ := hP.st htk
  simp only [Value.slice.injEq] at hsv
  obtain ⟨rfl, _, rfl⟩ := hsv
  obtain ⟨ea, ec, hev, _⟩ := hP.edgAt htk
  obtain ⟨E, hE⟩ : ∃ E, E = (elF es tq).length := ⟨_, rfl⟩
  have HE : Hid (E = (es.getD tq []).length) := by show _ = _; rw [hE]; exact elF_len _ _
  have hEb : E ≤ 130 := by rw [HE.out]; exact hes tq htk
  have HEC : Hid (∀ Y, w.grownBy Y none → Y.cell? ⟨sb, tq * 2 + 1, none⟩ = some (.slice ea E ec) ∧ ItsAt Y ea (elF es tq)) := fun Y hY => by
    have h := HP.out Y hY
    obtain ⟨sb2, sc2, h1, _, h3⟩ := h.st htk
    simp only [Value.slice.injEq, Option.some.injEq, Addr.mk.injEq] at h1
    obtain ⟨⟨rfl, _⟩, _⟩ := h1
    obtain ⟨ea2, ec2, h4, h5⟩ := h.edgAt htk
    rw [hev] at h3 h4
    simp only [Value.slice.injEq] at h4
    rw [← hE] at h3
    exact ⟨h3, by rw [h4.1]; exact h5⟩
  have HWK : Hid (∀ Y b, w.grownBy Y none → IntsAt Y (some ⟨b, 0, none⟩) [s] → Calls Try.prog 22 #[.agg #[.slice ta tn tc, .slice na nn nc, .slice la ln lc, .int .i64 st, .slice pa n pc, .slice (some ⟨sb, 0, none⟩) N sc, .map (some lb)], .int .i64 (q : Int), .slice (some ⟨b, 0, none⟩) 1 1] Y fun e y => e = .returned (.int .i64 (tq : Int)) ∧ Y.grownBy y none) := fun Y b hY hI => by
    have h := walk_any ta na la pa (some ⟨sb, 0, none⟩) tc nc lc pc sc n N lb st Y tn nn ln m es (hL.kept hY (by simp)) hOK q (by omega) (some ⟨b, 0, none⟩) 1 [s] hI (by simp) (fun x hx => by rw [List.mem_singleton.1 hx]; exact hsw)
    have e1 : wayF es (some ((q : Nat) : Int)) [s] = some (tq : Int) := hto
    rw [e1] at h
    exact h
  obtain ⟨i0, hi0, hz0, hz1, hz2⟩ := info_parts infoInt
  obtain ⟨W, hW⟩ : ∃ W, W = (w.alloc (.cells #[.slice ta tn tc, .slice na nn nc, .slice la ln lc, .int .i64 st, .slice pa n pc, .slice (some ⟨sb, 0, none⟩) N sc, .map (some lb)] 72)).alloc (.cells #[.int .i64 (q : Int), .int .i64 s] 62) := ⟨_, rfl⟩
  have HGW : Hid (w.grownBy W none) := by rw [hW]; exact grown_trans (World.grownBy_alloc _ _ none) (World.grownBy_alloc _ _ none)
  have HB7 : Hid (W.heap[w.heap.size]? = some (.cells #[.slice ta tn tc, .slice na nn nc, .slice la ln lc, .int .i64 st, .slice pa n pc, .slice (some ⟨sb, 0, none⟩) N sc, .map (some lb)] 72 (0, 0))) := by rw [hW]; exact box_kept (heap_alloc_last w _) (World.grownBy_alloc _ _ none)
  have HB2 : Hid (W.heap[w.heap.size + 1]? = some (.cells #[.int .i64 (q : Int), .int .i64 s] 62 (0, 0))) := by
    rw [hW]
    have h := heap_alloc_last (w.alloc (.cells #[.slice ta tn tc, .slice na nn nc, .slice la ln lc, .int .i64 st, .slice pa n pc, .slice (some ⟨sb, 0, none⟩) N sc, .map (some lb)] 72)) (.cells #[.int .i64 (q : Int), .int .i64 s] 62)
    rw [World.size_alloc] at h; exact h
  have HWE := show Hid _ from hW
  have HCS : Hid (∀ Y, W.grownBy Y none → (Y.cell? ⟨w.heap.size, 0, none⟩ = some (.slice ta tn tc) ∧ Y.cell? ⟨w.heap.size, 1, none⟩ = some (.slice na nn nc) ∧ Y.cell? ⟨w.heap.size, 2, none⟩ = some (.slice la ln lc) ∧ Y.cell? ⟨w.heap.size, 3, none⟩ = some (.int .i64 st) ∧ Y.cell? ⟨w.heap.size, 4, none⟩ = some (.slice pa n pc) ∧ Y.cell? ⟨w.heap.size, 5, none⟩ = some (.slice (some ⟨sb, 0, none⟩) N sc) ∧ Y.cell? ⟨w.heap.size, 6, none⟩ = some (.map (some lb))) ∧ Y.cell? ⟨w.heap.size + 1, 0, none⟩ = some (.int .i64 (q : Int)) ∧ Y.cell? ⟨w.heap.size + 1, 1, none⟩ = some (.int .i64 s) ∧ Y.cell? ⟨sb, tq * 2 + 1, none⟩ = some (.slice ea E ec)) := fun Y hY => ⟨cells7 (box_kept HB7.out hY), by rw [cell_of_row _ _ _ _ _ _ (box_kept HB2.out hY)]; rfl, by rw [cell_of_row _ _ _ _ _ _ (box_kept HB2.out hY)]; rfl, (HEC.out Y (grown_trans HGW.out hY)).1⟩
  obtain ⟨bb, hbb⟩ : ∃ b, b = ((q : Int) == 0 && s == st) := ⟨_, rfl⟩
  have hbf : bb = false := by
    rw [hbb, Bool.and_eq_false_iff, beq_eq_false_iff_ne, beq_eq_false_iff_ne]
    by_cases h : (q : Int) = 0
    · exact .inr fun h2 => hst ⟨h, h2⟩
    · exact .inl h
  have hEQ : ∀ X : World, (binOp .eql 62 (.agg #[.int .i64 (q : Int), .int .i64 s]) (.agg #[.int .i64 0, .int .i64 st])).run Try.prog X = .ok (.bool false) X := fun X => by
    rw [← hbf, hbb]; exact eq_trans (q : Int) s 0 st X
  clear hbb hbf hst
  have ht0 : (0 : Int) ≤ (tq : Int) := by omega
  have ht1 : (tq : Int) < (N : Int) := by omega
  clear hP hes hN hL hOK hto htk hev hE hW HP HB7 HB2
  go_enter Try.func32, Try.ntmps32
  go_wp2_with fail
  rw [← HWE.out]
  obtain ⟨Z, hZ⟩ : ∃ Z, Z = W := ⟨_, rfl⟩
  rw [← hZ]
  have HGZ : Hid (W.grownBy Z none) := by rw [hZ]; exact grown_refl _ _
  have HO0 : Hid (Z.ownsRow W.heap.size 3 1 (.slice none 0 0) 0 (intV (preF false))) := World.ownsRow_nil _ _ _ _
  have HL0 : Hid (0 = (preF false).length) := rfl
  clear hZ HWE
  have HGZ2 : Hid (W.grownBy (Z.alloc (.cells #[.int .i64 s] 3)).drew none) := grown_trans HGZ.out (grown_trans (World.grownBy_alloc _ _ none) (grown_drewN _ 1))
  have HGZ1 : Hid (W.grownBy Z.drew none) := grown_trans HGZ.out (grown_drewN _ 1)
  have HGZ3 : Hid (W.grownBy (Z.drew.alloc (.cells #[.int .i64 s] 3)) none) := grown_trans HGZ1.out (World.grownBy_alloc _ _ none)
  have HIA : Hid (IntsAt (Z.alloc (.cells #[.int .i64 s] 3)).drew (some ⟨Z.heap.size, 0, none⟩) [s]) := .inr ⟨Z.heap.size, 0, rfl, fun i hi => by
    have h2 : i = 0 := by simp at hi; omega
    subst h2
    have h3 : (Z.alloc (.cells #[.int .i64 s] 3)).drew.heap[Z.heap.size]? = some (.cells #[.int .i64 s] 3 (0, 0)) := heap_alloc_last Z _
    rw [cell_of_row _ _ _ _ _ _ h3]; rfl⟩
  go_region_held3 (fun Y => (Y.cell? ⟨w.heap.size, 0, none⟩ = some (.slice ta tn tc) ∧ Y.cell? ⟨w.heap.size, 1, none⟩ = some (.slice na nn nc) ∧ Y.cell? ⟨w.heap.size, 2, none⟩ = some (.slice la ln lc) ∧ Y.cell? ⟨w.heap.size, 3, none⟩ = some (.int .i64 st) ∧ Y.cell? ⟨w.heap.size, 4, none⟩ = some (.slice pa n pc) ∧ Y.cell? ⟨w.heap.size, 5, none⟩ = some (.slice (some ⟨sb, 0, none⟩) N sc) ∧ Y.cell? ⟨w.heap.size, 6, none⟩ = some (.map (some lb))) ∧ Y.cell? ⟨w.heap.size + 1, 0, none⟩ = some (.int .i64 (q : Int)) ∧ Y.cell? ⟨w.heap.size + 1, 1, none⟩ = some (.int .i64 s) ∧ Y.cell? ⟨sb, tq * 2 + 1, none⟩ = some (.slice ea E ec)) (first | exact HCS.out _ HGZ1.out | exact HCS.out _ HGZ2.out | exact HCS.out _ HGZ3.out | exact HCS.out _ HG4.out | go_keep)
    ((first
      | (go_at_call 22; refine Calls.mono (HWK.out _ _ (grown_trans HGW.out HGZ2.out) HIA.out) ?_; rintro e w4 ⟨rfl, hg4⟩; have HG4 : Hid (W.grownBy w4 none) := grown_trans HGZ2.out hg4; have HO4 : Hid (w4.ownsRow W.heap.size 3 1 (.slice none 0 0) 0 (intV (preF false))) := keep0 HO0.out (grown_trans (World.grownBy_alloc _ _ none) (grown_trans (grown_drewN _ 1) hg4)); clear hg4)
      | fail))
  clear HGZ1 HGZ2 HGZ3 HIA HO0 HGZ HWK
  go_wp2_with fail
  go_loopg [5, 30] E (fun gk v5 v30 wr => ∃ (j L : Nat) (a : Option Addr) (c : Nat), j ≤ E ∧ gk = E - j ∧ v30 = .int .i64 j ∧ v5 = .slice a L c ∧ L = (preF false ++ dirL tn ((es.getD tq []).take j)).length ∧ wr.ownsRow W.heap.size 3 1 (.slice a L c) L (intV (preF false ++ dirL tn ((es.getD tq []).take j))) ∧ W.grownBy wr none)
  case atStart => exact ⟨0, 0, none, 0, Nat.zero_le _, rfl, rfl, rfl, by simpa [dirL] using HL0.out, by simpa [dirL] using HO4.out, HG4.out⟩
  case round =>
    obtain ⟨j, L2, a2, c2, hj, hgj, rfl, rfl, hL2, hown2, hg2⟩ := hrel
    have HGJ : Hid (gk = E - j) := hgj
    have HL2 : Hid (L2 = (preF false ++ dirL tn ((es.getD tq []).take j)).length) := hL2
    have HO2 : Hid (wr.ownsRow W.heap.size 3 1 (.slice a2 L2 c2) L2 (intV (preF false ++ dirL tn ((es.getD tq []).take j)))) := hown2
    have HG2 : Hid (W.grownBy wr none) := hg2
    have hL2b : L2 ≤ 131 := by
      rw [hL2, List.length_append]
      have h1 := dirL_len tn ((es.getD tq []).take j)
      have h2 : ((es.getD tq []).take j).length ≤ j := by rw [List.length_take]; omega
      have h3 := preF_len (false)
      omega
    clear hgj hL2 hown2 hg2 HO4
    by_cases hlj : j < E
    · have hjd : decide (j < E) = true := decide_eq_true hlj
      have hj0 : (0 : Int) ≤ (j : Int) := by omega
      have hj1 : (j : Int) < (E : Int) := by omega
      have hje : j < (es.getD tq []).length := by rw [← HE.out]; exact hlj
      obtain ⟨eb, eo, hea, d0, d1⟩ := (HEC.out wr (grown_trans HGW.out HG2.out)).2.cellAt (i := j) (by rw [elF_len]; exact hje)
      subst hea
      rw [(elF_at hje).2] at d0 d1
      obtain ⟨x, hx⟩ : ∃ x, x = (es.getD tq []).getD j (0, 0) := ⟨_, rfl⟩
      rw [← hx] at d0 d1
      obtain ⟨u, t⟩ := x
      simp only at d0 d1
      have HTK : Hid (dirL tn ((es.getD tq []).take (j + 1)) = dirL tn ((es.getD tq []).take j) ++ (if u < tn then [(u : Int)] else [])) := by
        show _ = _
        rw [take_snocE hje hx.symm, dirL_snoc]
      have HA : Hid (W.grownBy (wr.alloc (.cells #[.int .i64 (u : Int), .int .i64 (t : Int)] 60)) none) := grown_trans HG2.out (World.grownBy_alloc _ _ none)
      obtain ⟨⟨k0, k1, k2, k3, k4, k5, k6⟩, _⟩ := HCS.out _ HA.out
      by_cases hts : u < tn
      · have HIT := show Hid _ from isTerm_any ta na la pa (some ⟨sb, 0, none⟩) tc nc lc pc sc n N lb st (wr.alloc (.cells #[.int .i64 (u : Int), .int .i64 (t : Int)] 60)) tn nn ln (u : Int) true (decide_eq_true (by omega)).symm
        clear hx hje
        go_wp2_with fail
        refine Calls.mono HIT.out ?_
        rintro e w5 ⟨rfl, hg5⟩
        have HG5 : Hid (W.grownBy w5 none) := grown_trans HA.out hg5
        have HO5 : Hid (w5.ownsRow W.heap.size 3 1 (.slice a2 L2 c2) L2 (intV (preF false ++ dirL tn ((es.getD tq []).take j)))) := keep0 HO2.out (grown_trans (World.grownBy_alloc _ _ none) hg5)
        have hbx : w5.heap[wr.heap.size]? = some (.cells #[.int .i64 (u : Int), .int .i64 (t : Int)] 60 (0, 0)) := box_kept (heap_alloc_last wr _) hg5
        have r0 : w5.cell? ⟨wr.heap.size, 0, none⟩ = some (.int .i64 (u : Int)) := by rw [cell_of_row _ _ _ _ _ _ hbx]; rfl
        have hsz := HG5.out.size
        clear hg5 hbx HIT k0 k1 k2 k3 k4 k5 k6 d0 d1
        go_wp2_with (at_builtin; refine wpList_append_lies _ rfl (.tmp 38) (.tmp 41) 24 rfl W.heap.size 3 i0 (.int .i64 0) 1 8 Try.underlying24 hi0 hz0 hz1 hz2 rfl (by decide) (.slice a2 L2 c2) L2 (intV (preF false ++ dirL tn ((es.getD tq []).take j))) rfl (HO5.out.alloc _) ⟨w5.heap.size, 0, none⟩ 1 1 [.int .i64 (u : Int)] rfl rfl (World.news_of_block (heap_alloc_last w5 _)) (by simp [Value.oneCell']) (by decide) (by unfold maxLen; omega) (by omega) (by simp; omega) _ rfl ?_)
        intro g7 c7 V hoV hgV _ _
        have HOV : Hid (V.ownsRow W.heap.size 3 1 (.slice (some ⟨g7, 0, none⟩) (L2 + 1) c7) (L2 + 1) (intV (preF false ++ dirL tn ((es.getD tq []).take (j + 1))))) := by
          rw [HTK.out, if_pos hts, ← List.append_assoc, intV_append]; exact hoV
        have HLV : Hid (L2 + 1 = (preF false ++ dirL tn ((es.getD tq []).take (j + 1))).length) := by
          show _ = _
          rw [HTK.out, if_pos hts, ← List.append_assoc, List.length_append, ← HL2.out]; rfl
        have HGV : Hid (W.grownBy V none) := grown_owned (grown_trans HG5.out (World.grownBy_alloc _ _ none)) (HO5.out.alloc _) (Nat.le_refl _) hgV
        clear hoV hgV r0
        go_wp2_with fail
        go_roundg (E - (j + 1))
        case measure => have := HGJ.out; omega
        case rel => exact ⟨j + 1, L2 + 1, some ⟨g7, 0, none⟩, c7, by omega, rfl, by go_num, rfl, HLV.out, HOV.out, HGV.out⟩
      · have HIT := show Hid _ from isTerm_any ta na la pa (some ⟨sb, 0, none⟩) tc nc lc pc sc n N lb st (wr.alloc (.cells #[.int .i64 (u : Int), .int .i64 (t : Int)] 60)) tn nn ln (u : Int) false (decide_eq_false (by omega)).symm
        clear hx hje
        go_wp2_with fail
        refine Calls.mono HIT.out ?_
        rintro e w5 ⟨rfl, hg5⟩
        have HG5 : Hid (W.grownBy w5 none) := grown_trans HA.out hg5
        have HO5 : Hid (w5.ownsRow W.heap.size 3 1 (.slice a2 L2 c2) L2 (intV (preF false ++ dirL tn ((es.getD tq []).take (j + 1))))) := by
          rw [HTK.out, if_neg hts, List.append_nil]; exact keep0 HO2.out (grown_trans (World.grownBy_alloc _ _ none) hg5)
        have HL5 : Hid (L2 = (preF false ++ dirL tn ((es.getD tq []).take (j + 1))).length) := by
          show _ = _
          rw [HTK.out, if_neg hts, List.append_nil]; exact HL2.out
        clear hg5 HIT k0 k1 k2 k3 k4 k5 k6 d0 d1
        go_wp2_with fail
        go_roundg (E - (j + 1))
        case measure => have := HGJ.out; omega
        case rel => exact ⟨j + 1, L2, a2, c2, by omega, rfl, by go_num, rfl, HL5.out, HO5.out, HG5.out⟩
    · have hjE : E = j := by omega
      subst hjE
      have hjd : decide (E < E) = false := decide_eq_false (by omega)
      have e9 : (es.getD tq []).take E = es.getD tq [] := by rw [HE.out, List.take_length]
      rw [e9] at HO2 HL2
      clear e9
      go_wp2_with fail
      go_ret
      exact ⟨a2, c2, by rw [← HL2.out]; rfl, by rw [← HL2.out]; exact owns_base HO2.out HGW.out.size, grown_trans HGW.out HG2.out⟩
set_option maxRecDepth 100000 in
set_option maxHeartbeats 4000000 in
theorem direct_start (B m : Nat) (ks : List (List It)) (es : List (List (Nat × Nat))) (kv ev : Nat → Value) (hN : N = ks.length) (hP : AutP B w (.slice sa ks.length sc) ks (elF es) kv ev) (hes : ∀ q, q < ks.length → (es.getD q []).length ≤ 130) (hL : LdAt w lb m (leadA es)) (hOK : LeadOK es) (tq : Nat) (hsw : (Lit.int .i64 st).wf = true) (hto : leadA es (0, st) = some (tq : Int)) (htN : tq < N) :
    Calls Try.prog 32 #[.agg #[.slice ta tn tc, .slice na nn nc, .slice la ln lc, .int .i64 st, .slice pa n pc, .slice sa N sc, .map (some lb)], .agg #[.int .i64 0, .int .i64 st]] w fun e y => NumTold (preF true ++ dirL tn (es.getD tq [])) w e y := by
  have HN : Hid (N = ks.length) := hN
  have HP : Hid (∀ Y, w.grownBy Y none → AutP B Y (.slice sa ks.length sc) ks (elF es) kv ev) := fun Y hY => hP.kept hY
  have HES := show Hid _ from hes
  have htk : tq < ks.length := by rw [← hN]; exact htN
  obtain ⟨sb, sc', hsv, _, _⟩ := hP.st htk
  simp only [Value.slice.injEq] at hsv
  obtain ⟨rfl, _, rfl⟩ := hsv
  obtain ⟨ea, ec, hev, _⟩ := hP.edgAt htk
  obtain ⟨E, hE⟩ : ∃ E, E = (elF es tq).length := ⟨_, rfl⟩
  have HE : Hid (E = (es.getD tq []).length) := by show _ = _; rw [hE]; exact elF_len _ _
  have hEb : E ≤ 130 := by rw [HE.out]; exact hes tq htk
  have HEC : Hid (∀ Y, w.grownBy Y none → Y.cell? ⟨sb, tq * 2 + 1, none⟩ = some (.slice ea E ec) ∧ ItsAt Y ea (elF es tq)) := fun Y hY => by
    have h := HP.out Y hY
    obtain ⟨sb2, sc2, h1, _, h3⟩ := h.st htk
    simp only [Value.slice.injEq, Option.some.injEq, Addr.mk.injEq] at h1
    obtain ⟨⟨rfl, _⟩, _⟩ := h1
    obtain ⟨ea2, ec2, h4, h5⟩ := h.edgAt htk
    rw [hev] at h3 h4
    simp only [Value.slice.injEq] at h4
    rw [← hE] at h3
    exact ⟨h3, by rw [h4.1]; exact h5⟩
  have HWK : Hid (∀ Y b, w.grownBy Y none → IntsAt Y (some ⟨b, 0, none⟩) [st] → Calls Try.prog 22 #[.agg #[.slice ta tn tc, .slice na nn nc, .slice la ln lc, .int .i64 st, .slice pa n pc, .slice (some ⟨sb, 0, none⟩) N sc, .map (some lb)], .int .i64 0, .slice (some ⟨b, 0, none⟩) 1 1] Y fun e y => e = .returned (.int .i64 (tq : Int)) ∧ Y.grownBy y none) := fun Y b hY hI => by
    have h := walk_any ta na la pa (some ⟨sb, 0, none⟩) tc nc lc pc sc n N lb st Y tn nn ln m es (hL.kept hY (by simp)) hOK 0 (by omega) (some ⟨b, 0, none⟩) 1 [st] hI (by simp) (fun x hx => by rw [List.mem_singleton.1 hx]; exact hsw)
    have e1 : wayF es (some ((0 : Nat) : Int)) [st] = some (tq : Int) := hto
    rw [e1] at h
    exact h
  obtain ⟨i0, hi0, hz0, hz1, hz2⟩ := info_parts infoInt
  obtain ⟨W, hW⟩ : ∃ W, W = (w.alloc (.cells #[.slice ta tn tc, .slice na nn nc, .slice la ln lc, .int .i64 st, .slice pa n pc, .slice (some ⟨sb, 0, none⟩) N sc, .map (some lb)] 72)).alloc (.cells #[.int .i64 0, .int .i64 st] 62) := ⟨_, rfl⟩
  have HGW : Hid (w.grownBy W none) := by rw [hW]; exact grown_trans (World.grownBy_alloc _ _ none) (World.grownBy_alloc _ _ none)
  have HB7 : Hid (W.heap[w.heap.size]? = some (.cells #[.slice ta tn tc, .slice na nn nc, .slice la ln lc, .int .i64 st, .slice pa n pc, .slice (some ⟨sb, 0, none⟩) N sc, .map (some lb)] 72 (0, 0))) := by rw [hW]; exact box_kept (heap_alloc_last w _) (World.grownBy_alloc _ _ none)
  have HB2 : Hid (W.heap[w.heap.size + 1]? = some (.cells #[.int .i64 0, .int .i64 st] 62 (0, 0))) := by
    rw [hW]
    have h := heap_alloc_last (w.alloc (.cells #[.slice ta tn tc, .slice na nn nc, .slice la ln lc, .int .i64 st, .slice pa n pc, .slice (some ⟨sb, 0, none⟩) N sc, .map (some lb)] 72)) (.cells #[.int .i64 0, .int .i64 st] 62)
    rw [World.size_alloc] at h; exact h
  have HWE := show Hid _ from hW
  have HCS : Hid (∀ Y, W.grownBy Y none → (Y.cell? ⟨w.heap.size, 0, none⟩ = some (.slice ta tn tc) ∧ Y.cell? ⟨w.heap.size, 1, none⟩ = some (.slice na nn nc) ∧ Y.cell? ⟨w.heap.size, 2, none⟩ = some (.slice la ln lc) ∧ Y.cell? ⟨w.heap.size, 3, none⟩ = some (.int .i64 st) ∧ Y.cell? ⟨w.heap.size, 4, none⟩ = some (.slice pa n pc) ∧ Y.cell? ⟨w.heap.size, 5, none⟩ = some (.slice (some ⟨sb, 0, none⟩) N sc) ∧ Y.cell? ⟨w.heap.size, 6, none⟩ = some (.map (some lb))) ∧ Y.cell? ⟨w.heap.size + 1, 0, none⟩ = some (.int .i64 0) ∧ Y.cell? ⟨w.heap.size + 1, 1, none⟩ = some (.int .i64 st) ∧ Y.cell? ⟨sb, tq * 2 + 1, none⟩ = some (.slice ea E ec)) := fun Y hY => ⟨cells7 (box_kept HB7.out hY), by rw [cell_of_row _ _ _ _ _ _ (box_kept HB2.out hY)]; rfl, by rw [cell_of_row _ _ _ _ _ _ (box_kept HB2.out hY)]; rfl, (HEC.out Y (grown_trans HGW.out hY)).1⟩
  have hEQ : ∀ X : World, (binOp .eql 62 (.agg #[.int .i64 0, .int .i64 st]) (.agg #[.int .i64 0, .int .i64 st])).run Try.prog X = .ok (.bool true) X := fun X => by
    have h := eq_trans 0 st 0 st X
    simpa using h
  have hWs : W.heap.size = w.heap.size + 1 + 1 := by rw [HWE.out, World.size_alloc, World.size_alloc]
  have HWS : Hid (W.heap.size = w.heap.size + 1 + 1) := hWs
  have HNB : Hid ((((w.alloc (.cells #[.slice ta tn tc, .slice na nn nc, .slice la ln lc, .int .i64 st, .slice pa n pc, .slice (some ⟨sb, 0, none⟩) N sc, .map (some lb)] 72)).alloc (.cells #[.int .i64 0, .int .i64 st] 62)).alloc (.cells #[.int .i64 0] 3)).heap[w.heap.size + 1 + 1]? = some (.cells #[.int .i64 0] 3 (0, 0))) := by
    have h := heap_alloc_last ((w.alloc (.cells #[.slice ta tn tc, .slice na nn nc, .slice la ln lc, .int .i64 st, .slice pa n pc, .slice (some ⟨sb, 0, none⟩) N sc, .map (some lb)] 72)).alloc (.cells #[.int .i64 0, .int .i64 st] 62)) (.cells #[.int .i64 0] 3)
    rw [World.size_alloc, World.size_alloc] at h; exact h
  clear hWs
  have ht0 : (0 : Int) ≤ (tq : Int) := by omega
  have ht1 : (tq : Int) < (N : Int) := by omega
  clear hP hes hN hL hOK hto htk hev hE hW HP HB7 HB2
  go_enter Try.func32, Try.ntmps32
  go_wp2_with (at_builtin; refine wpList_append_lies _ rfl (.tmp 14) (.tmp 15) 24 rfl (w.heap.size + 1 + 1) 3 i0 (.int .i64 0) 1 8 Try.underlying24 hi0 hz0 hz1 hz2 rfl (by decide) (.slice none 0 0) 0 [] rfl (World.ownsRow_nil _ _ _ _) ⟨w.heap.size + 1 + 1, 0, none⟩ 1 1 [.int .i64 0] rfl rfl (World.news_of_block HNB.out) (by simp [Value.oneCell']) (by decide) (by unfold maxLen; omega) (by omega) (by simp) _ rfl ?_)
  intro g0 c0 Z hoZ hgZ _ _
  have HGZ : Hid (W.grownBy Z none) := by rw [HWE.out]; exact grown_trans (World.grownBy_alloc _ _ none) hgZ
  have HO0 : Hid (Z.ownsRow W.heap.size 3 1 (.slice (some ⟨g0, 0, none⟩) 1 c0) 1 (intV (preF true))) := by rw [HWS.out]; exact hoZ
  have HL0 : Hid (1 = (preF true).length) := rfl
  clear hoZ hgZ HWE HWS HNB
  go_wp2_with fail
  have HGZ2 : Hid (W.grownBy (Z.alloc (.cells #[.int .i64 st] 3)).drew none) := grown_trans HGZ.out (grown_trans (World.grownBy_alloc _ _ none) (grown_drewN _ 1))
  have HGZ1 : Hid (W.grownBy Z.drew none) := grown_trans HGZ.out (grown_drewN _ 1)
  have HGZ3 : Hid (W.grownBy (Z.drew.alloc (.cells #[.int .i64 st] 3)) none) := grown_trans HGZ1.out (World.grownBy_alloc _ _ none)
  have HIA : Hid (IntsAt (Z.alloc (.cells #[.int .i64 st] 3)).drew (some ⟨Z.heap.size, 0, none⟩) [st]) := .inr ⟨Z.heap.size, 0, rfl, fun i hi => by
    have h2 : i = 0 := by simp at hi; omega
    subst h2
    have h3 : (Z.alloc (.cells #[.int .i64 st] 3)).drew.heap[Z.heap.size]? = some (.cells #[.int .i64 st] 3 (0, 0)) := heap_alloc_last Z _
    rw [cell_of_row _ _ _ _ _ _ h3]; rfl⟩
  go_region_held3 (fun Y => (Y.cell? ⟨w.heap.size, 0, none⟩ = some (.slice ta tn tc) ∧ Y.cell? ⟨w.heap.size, 1, none⟩ = some (.slice na nn nc) ∧ Y.cell? ⟨w.heap.size, 2, none⟩ = some (.slice la ln lc) ∧ Y.cell? ⟨w.heap.size, 3, none⟩ = some (.int .i64 st) ∧ Y.cell? ⟨w.heap.size, 4, none⟩ = some (.slice pa n pc) ∧ Y.cell? ⟨w.heap.size, 5, none⟩ = some (.slice (some ⟨sb, 0, none⟩) N sc) ∧ Y.cell? ⟨w.heap.size, 6, none⟩ = some (.map (some lb))) ∧ Y.cell? ⟨w.heap.size + 1, 0, none⟩ = some (.int .i64 0) ∧ Y.cell? ⟨w.heap.size + 1, 1, none⟩ = some (.int .i64 st) ∧ Y.cell? ⟨sb, tq * 2 + 1, none⟩ = some (.slice ea E ec)) (first | exact HCS.out _ HGZ1.out | exact HCS.out _ HGZ2.out | exact HCS.out _ HGZ3.out | exact HCS.out _ HG4.out | go_keep)
    ((first
      | (go_at_call 22; refine Calls.mono (HWK.out _ _ (grown_trans HGW.out HGZ2.out) HIA.out) ?_; rintro e w4 ⟨rfl, hg4⟩; have HG4 : Hid (W.grownBy w4 none) := grown_trans HGZ2.out hg4; have HO4 : Hid (w4.ownsRow W.heap.size 3 1 (.slice (some ⟨g0, 0, none⟩) 1 c0) 1 (intV (preF true))) := keep0 HO0.out (grown_trans (World.grownBy_alloc _ _ none) (grown_trans (grown_drewN _ 1) hg4)); clear hg4)
      | fail))
  clear HGZ1 HGZ2 HGZ3 HIA HO0 HGZ HWK
  go_wp2_with fail
  go_loopg [5, 30] E (fun gk v5 v30 wr => ∃ (j L : Nat) (a : Option Addr) (c : Nat), j ≤ E ∧ gk = E - j ∧ v30 = .int .i64 j ∧ v5 = .slice a L c ∧ L = (preF true ++ dirL tn ((es.getD tq []).take j)).length ∧ wr.ownsRow W.heap.size 3 1 (.slice a L c) L (intV (preF true ++ dirL tn ((es.getD tq []).take j))) ∧ W.grownBy wr none)
  case atStart => exact ⟨0, 1, some ⟨g0, 0, none⟩, c0, Nat.zero_le _, rfl, rfl, rfl, by simpa [dirL] using HL0.out, by simpa [dirL] using HO4.out, HG4.out⟩
  case round =>
    obtain ⟨j, L2, a2, c2, hj, hgj, rfl, rfl, hL2, hown2, hg2⟩ := hrel
    have HGJ : Hid (gk = E - j) := hgj
    have HL2 : Hid (L2 = (preF true ++ dirL tn ((es.getD tq []).take j)).length) := hL2
    have HO2 : Hid (wr.ownsRow W.heap.size 3 1 (.slice a2 L2 c2) L2 (intV (preF true ++ dirL tn ((es.getD tq []).take j)))) := hown2
    have HG2 : Hid (W.grownBy wr none) := hg2
    have hL2b : L2 ≤ 131 := by
      rw [hL2, List.length_append]
      have h1 := dirL_len tn ((es.getD tq []).take j)
      have h2 : ((es.getD tq []).take j).length ≤ j := by rw [List.length_take]; omega
      have h3 := preF_len (true)
      omega
    clear hgj hL2 hown2 hg2 HO4
    by_cases hlj : j < E
    · have hjd : decide (j < E) = true := decide_eq_true hlj
      have hj0 : (0 : Int) ≤ (j : Int) := by omega
      have hj1 : (j : Int) < (E : Int) := by omega
      have hje : j < (es.getD tq []).length := by rw [← HE.out]; exact hlj
      obtain ⟨eb, eo, hea, d0, d1⟩ := (HEC.out wr (grown_trans HGW.out HG2.out)).2.cellAt (i := j) (by rw [elF_len]; exact hje)
      subst hea
      rw [(elF_at hje).2] at d0 d1
      obtain ⟨x, hx⟩ : ∃ x, x = (es.getD tq []).getD j (0, 0) := ⟨_, rfl⟩
      rw [← hx] at d0 d1
      obtain ⟨u, t⟩ := x
      simp only at d0 d1
      have HTK : Hid (dirL tn ((es.getD tq []).take (j + 1)) = dirL tn ((es.getD tq []).take j) ++ (if u < tn then [(u : Int)] else [])) := by
        show _ = _
        rw [take_snocE hje hx.symm, dirL_snoc]
      have HA : Hid (W.grownBy (wr.alloc (.cells #[.int .i64 (u : Int), .int .i64 (t : Int)] 60)) none) := grown_trans HG2.out (World.grownBy_alloc _ _ none)
      obtain ⟨⟨k0, k1, k2, k3, k4, k5, k6⟩, _⟩ := HCS.out _ HA.out
      by_cases hts : u < tn
      · have HIT := show Hid _ from isTerm_any ta na la pa (some ⟨sb, 0, none⟩) tc nc lc pc sc n N lb st (wr.alloc (.cells #[.int .i64 (u : Int), .int .i64 (t : Int)] 60)) tn nn ln (u : Int) true (decide_eq_true (by omega)).symm
        clear hx hje
        go_wp2_with fail
        refine Calls.mono HIT.out ?_
        rintro e w5 ⟨rfl, hg5⟩
        have HG5 : Hid (W.grownBy w5 none) := grown_trans HA.out hg5
        have HO5 : Hid (w5.ownsRow W.heap.size 3 1 (.slice a2 L2 c2) L2 (intV (preF true ++ dirL tn ((es.getD tq []).take j)))) := keep0 HO2.out (grown_trans (World.grownBy_alloc _ _ none) hg5)
        have hbx : w5.heap[wr.heap.size]? = some (.cells #[.int .i64 (u : Int), .int .i64 (t : Int)] 60 (0, 0)) := box_kept (heap_alloc_last wr _) hg5
        have r0 : w5.cell? ⟨wr.heap.size, 0, none⟩ = some (.int .i64 (u : Int)) := by rw [cell_of_row _ _ _ _ _ _ hbx]; rfl
        have hsz := HG5.out.size
        clear hg5 hbx HIT k0 k1 k2 k3 k4 k5 k6 d0 d1
        go_wp2_with (at_builtin; refine wpList_append_lies _ rfl (.tmp 38) (.tmp 41) 24 rfl W.heap.size 3 i0 (.int .i64 0) 1 8 Try.underlying24 hi0 hz0 hz1 hz2 rfl (by decide) (.slice a2 L2 c2) L2 (intV (preF true ++ dirL tn ((es.getD tq []).take j))) rfl (HO5.out.alloc _) ⟨w5.heap.size, 0, none⟩ 1 1 [.int .i64 (u : Int)] rfl rfl (World.news_of_block (heap_alloc_last w5 _)) (by simp [Value.oneCell']) (by decide) (by unfold maxLen; omega) (by omega) (by simp; omega) _ rfl ?_)
        intro g7 c7 V hoV hgV _ _
        have HOV : Hid (V.ownsRow W.heap.size 3 1 (.slice (some ⟨g7, 0, none⟩) (L2 + 1) c7) (L2 + 1) (intV (preF true ++ dirL tn ((es.getD tq []).take (j + 1))))) := by
          rw [HTK.out, if_pos hts, ← List.append_assoc, intV_append]; exact hoV
        have HLV : Hid (L2 + 1 = (preF true ++ dirL tn ((es.getD tq []).take (j + 1))).length) := by
          show _ = _
          rw [HTK.out, if_pos hts, ← List.append_assoc, List.length_append, ← HL2.out]; rfl
        have HGV : Hid (W.grownBy V none) := grown_owned (grown_trans HG5.out (World.grownBy_alloc _ _ none)) (HO5.out.alloc _) (Nat.le_refl _) hgV
        clear hoV hgV r0
        go_wp2_with fail
        go_roundg (E - (j + 1))
        case measure => have := HGJ.out; omega
        case rel => exact ⟨j + 1, L2 + 1, some ⟨g7, 0, none⟩, c7, by omega, rfl, by go_num, rfl, HLV.out, HOV.out, HGV.out⟩
      · have HIT := show Hid _ from isTerm_any ta na la pa (some ⟨sb, 0, none⟩) tc nc lc pc sc n N lb st (wr.alloc (.cells #[.int .i64 (u : Int), .int .i64 (t : Int)] 60)) tn nn ln (u : Int) false (decide_eq_false (by omega)).symm
        clear hx hje
        go_wp2_with fail
        refine Calls.mono HIT.out ?_
        rintro e w5 ⟨rfl, hg5⟩
        have HG5 : Hid (W.grownBy w5 none) := grown_trans HA.out hg5
        have HO5 : Hid (w5.ownsRow W.heap.size 3 1 (.slice a2 L2 c2) L2 (intV (preF true ++ dirL tn ((es.getD tq []).take (j + 1))))) := by
          rw [HTK.out, if_neg hts, List.append_nil]; exact keep0 HO2.out (grown_trans (World.grownBy_alloc _ _ none) hg5)
        have HL5 : Hid (L2 = (preF true ++ dirL tn ((es.getD tq []).take (j + 1))).length) := by
          show _ = _
          rw [HTK.out, if_neg hts, List.append_nil]; exact HL2.out
        clear hg5 HIT k0 k1 k2 k3 k4 k5 k6 d0 d1
        go_wp2_with fail
        go_roundg (E - (j + 1))
        case measure => have := HGJ.out; omega
        case rel => exact ⟨j + 1, L2, a2, c2, by omega, rfl, by go_num, rfl, HL5.out, HO5.out, HG5.out⟩
    · have hjE : E = j := by omega
      subst hjE
      have hjd : decide (E < E) = false := decide_eq_false (by omega)
      have e9 : (es.getD tq []).take E = es.getD tq [] := by rw [HE.out, List.take_length]
      rw [e9] at HO2 HL2
      clear e9
      go_wp2_with fail
      go_ret
      exact ⟨a2, c2, by rw [← HL2.out]; rfl, by rw [← HL2.out]; exact owns_base HO2.out HGW.out.size, grown_trans HGW.out HG2.out⟩
end

end Go.Proofs.Ytkcdipnobgggkaa.J

/-
  trans: Direct, exported.
-/
namespace Go.Proofs.Ytkcdipnobgggkaa.J
open Go.RowKit Go.Maps Go.Shelf

attribute [local go_sem] Oper.semAt_some

theorem trI_mem {tn : Nat} {l : List (Nat × Nat)} {i : Nat} {x : It} (h : x ∈ trI tn l i) : ∃ e ∈ l, tn ≤ e.1 ∧ x = ((i : Int), (e.1 : Int)) := by
  unfold trI at h
  obtain ⟨e, he, rfl⟩ := List.mem_map.1 h
  obtain ⟨h1, h2⟩ := List.mem_filter.1 he
  exact ⟨e, h1, by simpa using h2, rfl⟩
theorem trT_mem {tn : Nat} {es : List (List (Nat × Nat))} : ∀ {i : Nat} {x : It}, x ∈ trT tn es i → ∃ q, q < i ∧ ∃ e ∈ es.getD q [], tn ≤ e.1 ∧ x = ((q : Int), (e.1 : Int))
  | 0, x, h => by cases h
  | i + 1, x, h => by
    rcases List.mem_append.1 h with h | h
    · obtain ⟨q, h1, h2⟩ := trT_mem h
      exact ⟨q, by omega, h2⟩
    · exact ⟨i, Nat.lt_succ_self _, trI_mem h⟩
theorem nextL_some {l : List (Nat × Nat)} {e : Nat × Nat} (h : e ∈ l) : ∃ t : Nat, nextL l (e.1 : Int) = some (t : Int) ∧ ∃ e' ∈ l, e'.1 = e.1 ∧ e'.2 = t := by
  unfold nextL
  cases h1 : l.find? (fun x => decide ((x.1 : Int) = (e.1 : Int))) with
  | none =>
    have := List.find?_eq_none.1 h1 e h
    simp at this
  | some x =>
    have h2 := List.find?_some h1
    refine ⟨x.2, rfl, x, List.mem_of_find?_eq_some h1, ?_, rfl⟩
    have : (x.1 : Int) = (e.1 : Int) := by simpa using h2
    omega
/-- What stands right behind a transition. -/
def dirOf (tn : Nat) (st : Int) (es : List (List (Nat × Nat))) (x : It) : List Int := preF (x.1 == 0 && x.2 == st) ++ dirL tn (es.getD ((leadA es x).getD 0).toNat [])
theorem dirOf_len {tn : Nat} {st : Int} {es : List (List (Nat × Nat))} {x : It} (h : ∀ q, (es.getD q []).length ≤ 130) : (dirOf tn st es x).length ≤ 131 := by
  unfold dirOf
  rw [List.length_append]
  have h1 := preF_len (x.1 == 0 && x.2 == st)
  have h2 := dirL_len tn (es.getD ((leadA es x).getD 0).toNat [])
  have h3 := h ((leadA es x).getD 0).toNat
  omega

/-- What always holds of the edges that are walked. -/
structure EsOK (ks : List (List It)) (es : List (List (Nat × Nat))) : Prop where
  le : ks.length ≤ 256
  len : es.length = ks.length
  each : ∀ q, q < ks.length → (es.getD q []).length ≤ 130 ∧ ((es.getD q []).map Prod.fst).Nodup ∧ ∀ x ∈ es.getD q [], x.1 < 130 ∧ x.2 < ks.length
theorem EsOK.short {ks : List (List It)} {es : List (List (Nat × Nat))} (h : EsOK ks es) (q : Nat) : (es.getD q []).length ≤ 130 := by
  by_cases hq : q < ks.length
  · exact (h.each q hq).1
  · rw [List.getD_eq_getElem?_getD, List.getElem?_eq_none (by rw [h.len]; omega)]; simp
theorem EsOK.lead {ks : List (List It)} {es : List (List (Nat × Nat))} (h : EsOK ks es) {x : It} {v : Int} (hx : leadA es x = some v) : 0 ≤ v ∧ v < (ks.length : Int) := by
  unfold leadA leadT at hx
  split at hx
  · rename_i hc
    obtain ⟨e, he, _, h2⟩ := nextL_mem hx
    have := ((h.each x.1.toNat (by rw [← h.len]; omega)).2.2 e he).2
    omega
  · split at hx
    · simp [nextL] at hx
    · cases hx
theorem EsOK.ok {ks : List (List It)} {es : List (List (Nat × Nat))} (h : EsOK ks es) : LeadOK es := fun x v hx => by
  have := h.lead hx
  have := h.le
  omega
theorem EsOK.trans {ks : List (List It)} {es : List (List (Nat × Nat))} (h : EsOK ks es) {tn : Nat} {x : It} (hx : x ∈ trT tn es ks.length) : ∃ q s tq : Nat, x = ((q : Int), (s : Int)) ∧ q < ks.length ∧ tn ≤ s ∧ s < 130 ∧ leadA es ((q : Int), (s : Int)) = some (tq : Int) ∧ tq < ks.length := by
  obtain ⟨q, hq, e, he, h1, rfl⟩ := trT_mem hx
  obtain ⟨t, h2, e', he', _, h4⟩ := nextL_some he
  have h5 := (h.each q hq).2.2 e' he'
  have h6 := (h.each q hq).2.2 e he
  exact ⟨q, e.1, t, rfl, hq, h1, h6.1, by rw [leadA_at es (by rw [h.len]; exact hq)]; exact h2, by rw [← h4]; exact h5.2⟩

/-- What Direct tells. -/
def DirErr (l : List It) (D : It → List Int) (w : World) (e : Ending) (y : World) : Prop := ∃ (rb : Nat) (ua : Nat → Option Addr) (uc : Nat → Nat), e = .returned (.tuple #[.slice (some ⟨rb, 0, none⟩) l.length l.length, .int .i64 0]) ∧ ValAt y rb l.length 24 (fun k => .slice (ua k) (D (l.getD k (0, 0))).length (uc k)) ∧ (∀ k, k < l.length → y.ownsRow w.heap.size 3 1 (.slice (ua k) (D (l.getD k (0, 0))).length (uc k)) (D (l.getD k (0, 0))).length (intV (D (l.getD k (0, 0))))) ∧ w.grownBy y none

section
variable (ta na la pa : Option Addr) (tc nc lc pc : Nat) (n : Nat) (st : Int) (w : World) (tn nn ln : Nat)
set_option maxRecDepth 100000 in
theorem directX_bad (ec : Int) (hec : ec = 1 ∨ ec = 11) (hO : OfBad ta na la pa tc nc lc pc n st w tn nn ln ec) : Calls Try.prog 18 #[.agg #[.slice ta tn tc, .slice na nn nc, .slice la ln lc, .int .i64 st, .slice pa n pc]] w fun e y => e = .returned (.tuple #[.slice none 0 0, .int .i64 ec]) ∧ w.grownBy y none := by
  have HO : Hid (OfBad ta na la pa tc nc lc pc n st w tn nn ln ec) := hO
  have HX0 : Hid (w.grownBy (w.alloc (.cells #[.slice ta tn tc, .slice na nn nc, .slice la ln lc, .int .i64 st, .slice pa n pc] 27)) none) := World.grownBy_alloc _ _ none
  have hne : (ec != 0) = true := bne_iff_ne.2 (by omega)
  clear hO hec
  go_enter Try.func18, Try.ntmps18
  go_wp2_with fail
  refine Calls.mono (HO.out _ HX0.out) ?_
  rintro e w1 ⟨rfl, hg1⟩
  have HG1 : Hid (w.grownBy w1 none) := grown_trans HX0.out hg1
  clear hg1
  go_wp2_with fail
  go_ret2
  exact ⟨rfl, grown_trans HG1.out (World.grownBy_alloc _ _ none)⟩

/-- direct, of any transition. -/
theorem direct_any (sa : Option Addr) (sc lb B m : Nat) (ks : List (List It)) (es : List (List (Nat × Nat))) (kv ev : Nat → Value) (h : EsOK ks es) (hP : AutP B w (.slice sa ks.length sc) ks (elF es) kv ev) (hL : LdAt w lb m (leadA es)) (x : It) (hx : x ∈ trT tn es ks.length) :
    Calls Try.prog 32 #[.agg #[.slice ta tn tc, .slice na nn nc, .slice la ln lc, .int .i64 st, .slice pa n pc, .slice sa ks.length sc, .map (some lb)], .agg #[.int .i64 x.1, .int .i64 x.2]] w fun e y => NumTold (dirOf tn st es x) w e y := by
  obtain ⟨q, s, tq, rfl, hq, h1, h2, h3, h4⟩ := h.trans hx
  have e1 : dirOf tn st es ((q : Int), (s : Int)) = preF ((q : Int) == 0 && (s : Int) == st) ++ dirL tn (es.getD tq []) := by
    unfold dirOf
    rw [h3]; rfl
  rw [e1]
  by_cases hst : (q : Int) = 0 ∧ (s : Int) = st
  · obtain ⟨hq0, hs⟩ := hst
    obtain rfl : q = 0 := by omega
    subst hs
    have e2 : ((((0 : Nat) : Int) == 0 && (s : Int) == (s : Int))) = true := by simp
    rw [e2]
    exact direct_start ta na la pa sa tc nc lc pc sc n ks.length lb (s : Int) w tn nn ln B m ks es kv ev rfl hP (fun q hq => (h.each q hq).1) hL h.ok tq (WalkArith.wf_i64 ⟨by omega, by omega⟩) h3 h4
  · have e2 : ((q : Int) == 0 && (s : Int) == st) = false := by
      rw [Bool.and_eq_false_iff, beq_eq_false_iff_ne, beq_eq_false_iff_ne]
      by_cases h5 : (q : Int) = 0
      · exact .inr fun h6 => hst ⟨h5, h6⟩
      · exact .inl h5
    rw [e2]
    exact direct_other ta na la pa sa tc nc lc pc sc n ks.length lb st w tn nn ln B m ks es kv ev rfl h.le hP (fun q hq => (h.each q hq).1) hL h.ok q tq (s : Int) hq (WalkArith.wf_i64 ⟨by omega, by omega⟩) h3 h4 hst

set_option maxRecDepth 100000 in
set_option maxHeartbeats 4000000 in
theorem directX_ok (ks : List (List It)) (es : List (List (Nat × Nat))) (h : EsOK ks es) (hO : OfOk ta na la pa tc nc lc pc n st w tn nn ln ks es) : Calls Try.prog 18 #[.agg #[.slice ta tn tc, .slice na nn nc, .slice la ln lc, .int .i64 st, .slice pa n pc]] w fun e y => DirErr (trT tn es ks.length) (dirOf tn st es) w e y := by
  have HO : Hid (OfOk ta na la pa tc nc lc pc n st w tn nn ln ks es) := hO
  have HE : Hid (EsOK ks es) := h
  have HX0 : Hid (w.grownBy (w.alloc (.cells #[.slice ta tn tc, .slice na nn nc, .slice la ln lc, .int .i64 st, .slice pa n pc] 27)) none) := World.grownBy_alloc _ _ none
  have infoInts : (Try.prog.info? 24).map (fun i => (i.zero, i.size, i.bytes)) = some (some (.slice none 0 0), 1, 24) := by kernel_rfl
  obtain ⟨i1, hi1, hy0, hy1, hy2⟩ := info_parts infoInts
  obtain ⟨l, hl⟩ : ∃ l, l = trT tn es ks.length := ⟨_, rfl⟩
  have HLE : Hid (l = trT tn es ks.length) := hl
  rw [← hl]
  clear hO h infoInts hl
  go_enter Try.func18, Try.ntmps18
  go_wp2_with fail
  refine Calls.mono (HO.out _ HX0.out) ?_
  rintro e w1 ⟨sa, sc, kv, ev, lb, m, rfl, hAP, hLd, hg1⟩
  obtain ⟨W, hW⟩ : ∃ W, W = w1.alloc (.cells #[.slice ta tn tc, .slice na nn nc, .slice la ln lc, .int .i64 st, .slice pa n pc, .slice sa ks.length sc, .map (some lb)] 72) := ⟨_, rfl⟩
  obtain ⟨bx, hbx⟩ : ∃ b, b = w1.heap.size := ⟨_, rfl⟩
  have HGW : Hid (w.grownBy W none) := by rw [hW]; exact grown_trans HX0.out (grown_trans hg1 (World.grownBy_alloc _ _ none))
  have HAP : Hid (∀ Y, W.grownBy Y none → ∃ B, AutP B Y (.slice sa ks.length sc) ks (elF es) kv ev) := fun Y hY => ⟨_, hAP.kept (grown_trans (by rw [hW]; exact World.grownBy_alloc _ _ none) hY)⟩
  have HLD : Hid (∀ Y, W.grownBy Y none → LdAt Y lb m (leadA es)) := fun Y hY => hLd.kept (grown_trans (by rw [hW]; exact World.grownBy_alloc _ _ none) hY) (by simp)
  have HBX : Hid (W.heap[bx]? = some (.cells #[.slice ta tn tc, .slice na nn nc, .slice la ln lc, .int .i64 st, .slice pa n pc, .slice sa ks.length sc, .map (some lb)] 72 (0, 0))) := by rw [hW, hbx]; exact heap_alloc_last w1 _
  have HTR : Hid (Calls Try.prog 29 #[.agg #[.slice ta tn tc, .slice na nn nc, .slice la ln lc, .int .i64 st, .slice pa n pc, .slice sa ks.length sc, .map (some lb)]] W fun e y => TrTold (trT tn es ks.length) W e y) := by
    obtain ⟨B, hB⟩ := HAP.out W (grown_refl _ _)
    exact trans_any ta na la pa sa tc nc lc pc sc n ks.length lb st W tn nn ln B ks es kv ev rfl HE.out.le hB (fun q hq => (HE.out.each q hq).1)
  have HDI : Hid (∀ Y x, W.grownBy Y none → x ∈ trT tn es ks.length → Calls Try.prog 32 #[.agg #[.slice ta tn tc, .slice na nn nc, .slice la ln lc, .int .i64 st, .slice pa n pc, .slice sa ks.length sc, .map (some lb)], .agg #[.int .i64 x.1, .int .i64 x.2]] Y fun e y => NumTold (dirOf tn st es x) Y e y) := fun Y x hY hx => by
    obtain ⟨B, hB⟩ := HAP.out Y hY
    exact direct_any ta na la pa tc nc lc pc n st Y tn nn ln sa sc lb B m ks es kv ev HE.out hB (HLD.out Y hY) x hx
  have HWE := show Hid _ from hW
  have HBE := show Hid _ from hbx
  have hlb : l.length ≤ 33280 := by
    rw [HLE.out]
    have h1 := trT_len (tn := tn) (c := 130) ks.length (fun q hq => (HE.out.each q hq).1)
    have h2 : ks.length * 130 ≤ 256 * 130 := Nat.mul_le_mul_right _ HE.out.le
    omega
  rw [← HLE.out] at HTR HDI
  obtain ⟨N, hN⟩ : ∃ n, n = ks.length := ⟨_, rfl⟩
  rw [← hN] at HBX HTR HDI HWE ⊢
  clear hg1 hAP hLd hW hbx hN HAP HLD HE HLE
  go_wp2_with fail
  rw [← HWE.out, ← HBE.out]
  refine Calls.mono HTR.out ?_
  rintro e w2 ⟨a2, c2, rfl, ho2, hg2⟩
  have HG2 : Hid (W.grownBy w2 none) := hg2
  have HI2 : Hid (∀ Y, w2.grownBy Y none → ItsAt Y a2 l) := fun Y hY => (ItsAt.ofT ho2).kept hY
  obtain ⟨K, hK⟩ : ∃ k, k = l.length := ⟨_, rfl⟩
  have HK : Hid (K = l.length) := hK
  rw [← hK] at hlb ⊢
  clear hg2 ho2 HTR HWE HBE hK
  go_wp2_with (at_make; refine wpList_make_full _ rfl _ _ 65 rfl w2.heap.size 24 i1 (.slice none 0 0) 1 Try.underlying65 hi1 hy0 hy1 .i64 .i64 _ _ K rfl rfl (by simp) (by simp) (by rw [hy2]; omega) (by unfold maxLen; omega) (by simp) ?_)
  intro P hown hgrow
  have hval : ValAt P w2.heap.size K 24 (fun _ => .slice none 0 0) := made_rowK (B := w2.heap.size) rfl (by simpa [Value.cells] using hown)
  obtain ⟨rb, hrb⟩ : ∃ rb, rb = w2.heap.size := ⟨_, rfl⟩
  rw [← hrb] at hval
  rw [← hrb]
  have HGP : Hid (W.grownBy P none) := grown_trans HG2.out hgrow
  have HIP : Hid (∀ Y, P.grownBy Y none → ItsAt Y a2 l) := fun Y hY => HI2.out Y (grown_trans hgrow hY)
  have HVP : Hid (ValAt P rb K 24 (fun _ => .slice none 0 0)) := hval
  have HRL : Hid (W.heap.size ≤ rb) := by show _ ≤ _; rw [hrb]; exact HG2.out.size
  have HRI : Hid (∀ Y, w2.grownBy Y none → ItsAt Y a2 l) := HI2.out
  have HW2 : Hid (w2.heap.size ≤ rb) := by show _ ≤ _; omega
  have HWP : Hid (w2.grownBy P none) := hgrow
  clear hown hgrow hval hrb HI2
  go_wp2_with fail
  go_loopg [25] K (fun gk v25 wr => ∃ (k : Nat) (ua : Nat → Option Addr) (uc : Nat → Nat), k ≤ K ∧ gk = K - k ∧ v25 = .int .i64 k ∧ w2.grownBy wr none ∧ ValAt wr rb K 24 (fun i => if i < k then .slice (ua i) (dirOf tn st es (l.getD i (0, 0))).length (uc i) else .slice none 0 0) ∧ ∀ i, i < k → wr.ownsRow w.heap.size 3 1 (.slice (ua i) (dirOf tn st es (l.getD i (0, 0))).length (uc i)) (dirOf tn st es (l.getD i (0, 0))).length (intV (dirOf tn st es (l.getD i (0, 0)))))
  case atStart => exact ⟨0, fun _ => none, fun _ => 0, Nat.zero_le _, rfl, rfl, HWP.out, HVP.out.ext (fun i _ => by rw [if_neg (by omega)]), fun i hi => absurd hi (Nat.not_lt_zero _)⟩
  case round =>
    obtain ⟨k, ua, uc, hk, hgk, rfl, hg, hv, hr⟩ := hrel
    have HGK : Hid (gk = K - k) := hgk
    have HG : Hid (w2.grownBy wr none) := hg
    have HV : Hid (ValAt wr rb K 24 (fun i => if i < k then .slice (ua i) (dirOf tn st es (l.getD i (0, 0))).length (uc i) else .slice none 0 0)) := hv
    have HR := show Hid _ from hr
    clear hgk hg hv hr
    by_cases hlt : k < K
    · have hkd : decide (k < K) = true := decide_eq_true hlt
      have hk0 : (0 : Int) ≤ (k : Int) := by omega
      have hk1 : (k : Int) < (K : Int) := by omega
      have hkl : k < l.length := by rw [← HK.out]; exact hlt
      obtain ⟨tb, to_, hta, c0, c1⟩ := (HRI.out wr HG.out).cellAt hkl
      subst hta
      have hmem : l.getD k (0, 0) ∈ l := by rw [List.getD_eq_getElem?_getD, List.getElem?_eq_getElem hkl]; exact List.getElem_mem hkl
      obtain ⟨x, hx⟩ : ∃ x, x = l.getD k (0, 0) := ⟨_, rfl⟩
      have HX : Hid (x = l.getD k (0, 0)) := hx
      rw [← hx] at c0 c1 hmem
      have HD := show Hid _ from HDI.out (wr.alloc (.cells #[.int .i64 x.1, .int .i64 x.2] 62)) x (grown_trans HG2.out (grown_trans HG.out (World.grownBy_alloc _ _ none))) hmem
      obtain ⟨k0, k1, k2, k3, k4, k5, k6⟩ := cells7 (box_kept HBX.out (grown_trans HG2.out (grown_trans HG.out (World.grownBy_alloc wr (.cells #[.int .i64 x.1, .int .i64 x.2] 62) none))))
      clear hx hmem hkl
      obtain ⟨p, d⟩ := x
      simp only at c0 c1 HD k0 k1 k2 k3 k4 k5 k6
      go_wp2_with fail
      refine Calls.mono HD.out ?_
      rintro e w5 ⟨a5, c5, rfl, ho5, hg5⟩
      have HG5 : Hid (w2.grownBy w5 none) := grown_trans HG.out (grown_trans (World.grownBy_alloc _ _ none) hg5)
      have HV5 : Hid (ValAt w5 rb K 24 (fun i => if i < k then .slice (ua i) (dirOf tn st es (l.getD i (0, 0))).length (uc i) else .slice none 0 0)) := HV.out.kept (grown_trans (World.grownBy_alloc _ _ none) hg5)
      have y0 := HV5.out.cell k hlt
      rw [if_neg (by omega)] at y0
      have f0 := HV5.out.free k
      obtain ⟨dl, hdl⟩ : ∃ m, m = (dirOf tn st es (p, d)).length := ⟨_, rfl⟩
      have HNX : Hid (∃ (ua' : Nat → Option Addr) (uc' : Nat → Nat), w2.grownBy (w5.setCell ⟨rb, k, none⟩ (.slice a5 dl c5)) none ∧ ValAt (w5.setCell ⟨rb, k, none⟩ (.slice a5 dl c5)) rb K 24 (fun i => if i < k + 1 then .slice (ua' i) (dirOf tn st es (l.getD i (0, 0))).length (uc' i) else .slice none 0 0) ∧ ∀ i, i < k + 1 → (w5.setCell ⟨rb, k, none⟩ (.slice a5 dl c5)).ownsRow w.heap.size 3 1 (.slice (ua' i) (dirOf tn st es (l.getD i (0, 0))).length (uc' i)) (dirOf tn st es (l.getD i (0, 0))).length (intV (dirOf tn st es (l.getD i (0, 0))))) := by
        have hgs : w5.grownBy (w5.setCell ⟨rb, k, none⟩ (.slice a5 dl c5)) (some rb) := grown_setCell _ _ _
        refine ⟨updL ua k a5, updL uc k c5, grown_new HG5.out hgs HW2.out, (HV5.out.set k _).ext (fun i _ => ?_), fun i hi => ?_⟩
        · unfold put
          by_cases e : i = k
          · subst e
            rw [if_pos rfl, if_pos (by omega), updL_same, updL_same, hdl, HX.out]
          · rw [if_neg e, updL_other _ _ e, updL_other _ _ e]
            simp only
            by_cases e2 : i < k
            · rw [if_pos e2, if_pos (by omega)]
            · rw [if_neg e2, if_neg (by omega)]
        · by_cases e : i = k
          · subst e
            rw [updL_same, updL_same, ← HX.out]
            have h9 := owns_base ho5 (B' := w.heap.size) (Nat.le_trans HGW.out.size (grown_trans HG2.out (grown_trans HG.out (World.grownBy_alloc _ _ none))).size)
            exact h9.kept hgs (owns_nebox h9 HV5.out (by decide))
          · rw [updL_other _ _ e, updL_other _ _ e]
            have h9 := keep0 (HR.out i (by omega)) (grown_trans (World.grownBy_alloc wr (.cells #[.int .i64 p, .int .i64 d] 62) none) hg5)
            exact h9.kept hgs (owns_nebox h9 HV5.out (by decide))
      rw [← hdl]
      clear ho5 hg5 hdl k0 k1 k2 k3 k4 k5 k6 c0 c1 HD
      go_wp2_with fail
      go_roundg (K - (k + 1))
      case measure => have := HGK.out; omega
      case rel =>
        obtain ⟨ua', uc', h1, h2, h3⟩ := HNX.out
        exact ⟨k + 1, ua', uc', by omega, rfl, by go_num, h1, h2, h3⟩
    · have hkK : K = k := by omega
      subst hkK
      have hkd : decide (K < K) = false := decide_eq_false (by omega)
      go_wp2_with fail
      go_ret2
      exact ⟨rb, ua, uc, by rw [← HK.out]; rfl, by rw [← HK.out]; exact HV.out.ext (fun i hi => by rw [if_pos hi]), fun i hi => HR.out i (by rw [HK.out]; exact hi), grown_trans HGW.out (grown_trans HG2.out HG.out)⟩
end

end Go.Proofs.Ytkcdipnobgggkaa.J
