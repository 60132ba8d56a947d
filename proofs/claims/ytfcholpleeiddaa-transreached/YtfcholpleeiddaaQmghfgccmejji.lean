import Derived.Test.YtfcholpleeiddaaQncdjhaalajdo
import Derived.Test.YtfcholpleeiddaaQcnpckfmeglni
import Derived.Deep.RegionHeld3

/-
  trans: the document's Next; the transitions by their numbers.
-/
namespace Go.Proofs.Ytfcholpleeiddaa.J
open Go.RowKit Go.Maps Go.Shelf

attribute [local go_sem] Oper.semAt_some

theorem neq_trans (p d p' d' : Int) (w : World) : (binOp .neq 58 (.agg #[.int .i64 p, .int .i64 d]) (.agg #[.int .i64 p', .int .i64 d'])).run Try.prog w = .ok (.bool (!(p == p' && d == d'))) w := by
  have u3 := Try.underlying3
  have a3 := Try.isAgg3
  have z3 := Try.sizeOf3
  have hS : Try.prog.underlying 58 = some (.struct (Try.prog.fieldsOf 58)) := by kernel_rfl
  have hp : Try.prog.stoodInHeld 58 = false := by kernel_rfl
  rw [run_neq_struct, show (10000 : Nat) = 9999 + 1 from rfl, run_equalIn_agg w 9999 58 _ _ hS hp]
  simp only [Program.fieldsOf, Try.underlying58]
  go_simp
  by_cases h1 : p = p' <;> by_cases h2 : d = d' <;> simp [h1, h2]
theorem nextL_cons_no {x : Nat × Nat} {l : List (Nat × Nat)} {s : Int} (h : ¬ (x.1 : Int) = s) : nextL (x :: l) s = nextL l s := by
  unfold nextL
  rw [List.find?_cons]
  simp [h]
theorem nextL_found {l : List (Nat × Nat)} {s : Int} {j : Nat} (hj : j < l.length) (h : ((l.getD j (0, 0)).1 : Int) = s) (hno : ∀ i, i < j → ¬ ((l.getD i (0, 0)).1 : Int) = s) : nextL l s = some ((l.getD j (0, 0)).2 : Int) := by
  induction l generalizing j with
  | nil => cases hj
  | cons x l ih =>
    cases j with
    | zero =>
      unfold nextL
      rw [List.find?_cons]
      have h' : (x.1 : Int) = s := h
      simp [h']
    | succ j =>
      rw [nextL_cons_no (x := x) (hno 0 (Nat.succ_pos _))]
      exact ih (by simpa using hj) h fun i hi => hno (i + 1) (by omega)
theorem nextL_none {l : List (Nat × Nat)} {s : Int} (hno : ∀ i, i < l.length → ¬ ((l.getD i (0, 0)).1 : Int) = s) : nextL l s = none := by
  induction l with
  | nil => rfl
  | cons x l ih =>
    rw [nextL_cons_no (x := x) (hno 0 (by simp))]
    exact ih fun i hi => hno (i + 1) (by simpa using hi)

set_option maxRecDepth 100000 in
theorem rnext_any (sa : Option Addr) (sc : Nat) (ask nI : Int) (w : World) (B : Nat) (ks : List (List It)) (es : List (List (Nat × Nat))) (kv ev : Nat → Value) (hP : AutP B w (.slice sa ks.length sc) ks (elF es) kv ev) (hEl : ∀ q, (es.getD q []).length ≤ 130) (q : Nat) (hq : q < ks.length) (s : Int) :
    Calls Try.prog 31 #[.agg #[.slice sa ks.length sc, .int .i64 ask, .int .i64 nI], .int .i64 (q : Int), .int .i64 s] w fun e y => e = .returned (.int .i64 (wayV (nextL (es.getD q []) s))) ∧ w.grownBy y none := by
  have hg0 : w.grownBy (w.alloc (.cells #[.slice sa ks.length sc, .int .i64 ask, .int .i64 nI] 39)) none := World.grownBy_alloc _ _ none
  have hPZ := hP.kept hg0
  obtain ⟨sb, sc', hsv, _, hs1⟩ := hPZ.st hq
  simp only [Value.slice.injEq] at hsv
  obtain ⟨rfl, _, rfl⟩ := hsv
  obtain ⟨ea, ec, hev, hei⟩ := hPZ.edgAt hq
  rw [hev] at hs1
  obtain ⟨N, hN⟩ : ∃ n, n = ks.length := ⟨_, rfl⟩
  obtain ⟨E, hE⟩ : ∃ E, E = (elF es q).length := ⟨_, rfl⟩
  rw [← hE] at hs1
  rw [← hN] at hs1 hg0 hei hq ⊢
  have HE : Hid (E = (es.getD q []).length) := by show _ = _; rw [hE]; exact elF_len _ _
  have hEb : E ≤ 130 := by rw [HE.out]; exact hEl q
  have HEI : Hid (∀ Y, (w.alloc (.cells #[.slice (some ⟨sb, 0, none⟩) N sc, .int .i64 ask, .int .i64 nI] 39)).grownBy Y none → ItsAt Y ea (elF es q)) := fun Y hY => hei.kept hY
  have HG0 : Hid (w.grownBy (w.alloc (.cells #[.slice (some ⟨sb, 0, none⟩) N sc, .int .i64 ask, .int .i64 nI] 39)) none) := hg0
  have hq0 : (0 : Int) ≤ (q : Int) := by omega
  have hq1 : (q : Int) < (N : Int) := by omega
  obtain ⟨r, hr⟩ : ∃ r, r = wayV (nextL (es.getD q []) s) := ⟨_, rfl⟩
  have HRR : Hid (r = wayV (nextL (es.getD q []) s)) := hr
  rw [← hr]
  clear hP hPZ hev hei hE hN hg0 hEl hr
  go_enter Try.func31, Try.ntmps31
  go_wp2_with fail
  obtain ⟨W, hW⟩ : ∃ W, W = w.alloc (.cells #[.slice (some ⟨sb, 0, none⟩) N sc, .int .i64 ask, .int .i64 nI] 39) := ⟨_, rfl⟩
  rw [← hW] at HEI HG0 ⊢
  clear hW hs1
  go_loopg [8] E (fun gk v8 wr => ∃ j : Nat, j ≤ E ∧ gk = E - j ∧ v8 = .int .i64 j ∧ W.grownBy wr none ∧ ∀ i, i < j → ¬ (((es.getD q []).getD i (0, 0)).1 : Int) = s)
  case atStart => exact ⟨0, Nat.zero_le _, rfl, rfl, grown_refl _ _, fun i hi => absurd hi (Nat.not_lt_zero _)⟩
  case round =>
    obtain ⟨j, hj, hgj, rfl, hg, hno⟩ := hrel
    have HGJ : Hid (gk = E - j) := hgj
    have HG : Hid (W.grownBy wr none) := hg
    have HNO := show Hid _ from hno
    clear hgj hg hno
    by_cases hlt : j < E
    · have hjd : decide (j < E) = true := decide_eq_true hlt
      have hj0 : (0 : Int) ≤ (j : Int) := by omega
      have hj1 : (j : Int) < (E : Int) := by omega
      have hje : j < (es.getD q []).length := by rw [← HE.out]; exact hlt
      obtain ⟨eb, eo, hea, c0, c1⟩ := (HEI.out wr HG.out).cellAt (i := j) (by rw [elF_len]; exact hje)
      subst hea
      rw [(elF_at hje).2] at c0 c1
      by_cases hs : (((es.getD q []).getD j (0, 0)).1 : Int) = s
      · have HF : Hid (nextL (es.getD q []) s = some (((es.getD q []).getD j (0, 0)).2 : Int)) := nextL_found hje hs HNO.out
        obtain ⟨t, ht⟩ : ∃ t : Nat, t = ((es.getD q []).getD j (0, 0)).2 := ⟨_, rfl⟩
        rw [← ht] at c1 HF
        simp only at c0
        rw [hs] at c0
        have hss : (s == s) = true := beq_self_eq_true _
        clear hs ht hje
        go_wp2_with fail
        go_ret
        exact ⟨by rw [HRR.out, HF.out]; rfl, grown_trans HG0.out HG.out⟩
      · have HNS : Hid (¬ (((es.getD q []).getD j (0, 0)).1 : Int) = s) := hs
        obtain ⟨u, hu⟩ : ∃ u : Int, u = (((es.getD q []).getD j (0, 0)).1 : Int) := ⟨_, rfl⟩
        simp only at c0
        rw [← hu] at c0 hs
        have hss : (u == s) = false := beq_eq_false_iff_ne.2 hs
        clear hs hu hje c1
        go_wp2_with fail
        go_roundg (E - (j + 1))
        case measure => have := HGJ.out; omega
        case rel => exact ⟨j + 1, by omega, rfl, by go_num, HG.out, fun i hi => by
          by_cases e : i = j
          · rw [e]; exact HNS.out
          · exact HNO.out i (by omega)⟩
    · have hjE : E = j := by omega
      subst hjE
      have hjd : decide (E < E) = false := decide_eq_false (by omega)
      have HF : Hid (nextL (es.getD q []) s = none) := nextL_none (by rw [← HE.out]; exact HNO.out)
      go_wp2_with fail
      go_ret
      exact ⟨by rw [HRR.out, HF.out]; rfl, grown_trans HG0.out HG.out⟩

theorem trT_prefix (tn : Nat) (es : List (List (Nat × Nat))) {i N : Nat} (h : i ≤ N) : trT tn es i <+: trT tn es N := by
  obtain ⟨d, rfl⟩ : ∃ d, N = i + d := ⟨N - i, by omega⟩
  clear h
  induction d with
  | zero => exact List.prefix_refl _
  | succ d ih => exact ih.trans (List.prefix_append _ _)
theorem trI_prefix (tn : Nat) {l m : List (Nat × Nat)} (i : Nat) (h : l <+: m) : trI tn l i <+: trI tn m i := by
  obtain ⟨t, rfl⟩ := h
  unfold trI
  rw [List.filter_append, List.map_append]
  exact List.prefix_append _ _
/-- The transition of an edge, and its number. -/
theorem trT_at {tn : Nat} {es : List (List (Nat × Nat))} {q N j s t : Nat} (hq : q < N) (hj : j < (es.getD q []).length) (he : (es.getD q []).getD j (0, 0) = (s, t)) (hs : tn ≤ s) : (trT tn es q ++ trI tn ((es.getD q []).take j) q).length < (trT tn es N).length ∧ (trT tn es N).getD (trT tn es q ++ trI tn ((es.getD q []).take j) q).length (0, 0) = ((q : Int), (s : Int)) := by
  have h1 : trT tn es q ++ trI tn ((es.getD q []).take (j + 1)) q = (trT tn es q ++ trI tn ((es.getD q []).take j) q) ++ [((q : Int), (s : Int))] := by
    rw [take_snocE hj he, trI_snoc, if_pos hs, List.append_assoc]
  have h2 : trT tn es q ++ trI tn ((es.getD q []).take (j + 1)) q <+: trT tn es N := by
    refine List.IsPrefix.trans ?_ (trT_prefix tn es (i := q + 1) hq)
    exact (List.prefix_append_right_inj _).2 (trI_prefix tn q (List.take_prefix _ _))
  rw [h1] at h2
  have h3 := h2.length_le
  rw [List.length_append, List.length_singleton] at h3
  refine ⟨by omega, ?_⟩
  rw [getD_prefix h2 (by simp), getD_snoc_new]


end Go.Proofs.Ytfcholpleeiddaa.J

/-
  trans: the law TransReached, where there is an automaton.
-/
namespace Go.Proofs.Ytfcholpleeiddaa.J
open Go.RowKit Go.Maps Go.Shelf

attribute [local go_sem] Oper.semAt_some

theorem ints_cells {w : World} {a : Option Addr} {l : List Int} (h : IntsAt w a l) : ∀ x, a = some x → ∀ j u, (intV l)[j]? = some u → w.cell? (x.add j) = some u := by
  intro x hx j u hu
  have hj : j < l.length := by have := (List.getElem?_eq_some_iff.1 hu).1; unfold intV at this; simpa using this
  rcases h with h | ⟨b, off, e, hc⟩
  · rw [h] at hj; cases hj
  · rw [hx] at e
    simp only [Option.some.injEq] at e
    subst e
    rw [Addr.add_mid, hc j hj, ← hu]
    unfold intV
    rw [List.getElem?_map, List.getElem?_eq_getElem hj, List.getD_eq_getElem?_getD, List.getElem?_eq_getElem hj]; rfl
theorem box_other {X Y : World} {b r : Nat} {cs cs' : Array Value} {t t' : TypeId} (h : X.heap[b]? = some (.cells cs t (0, 0))) (hr : X.heap[r]? = some (.cells cs' t' (0, 0))) (ht : t ≠ t') (hg : X.grownBy Y (some r)) : Y.heap[b]? = some (.cells cs t (0, 0)) := by
  refine (hg.block b (Array.getElem?_eq_some_iff.1 h).1 ?_).trans h
  intro e
  have e2 : b = r := by simpa using e
  subst e2
  rw [h] at hr
  simp only [Option.some.injEq, Obj.cells.injEq] at hr
  exact ht hr.2.1
theorem edge_at {es : List (List (Nat × Nat))} {q i : Nat} {ea : Option Addr} {X : World} (h : ItsAt X ea (elF es q)) (hi : i < (es.getD q []).length) : ∃ eb eo, ea = some ⟨eb, eo, none⟩ ∧ X.cell? ⟨eb, eo + i * 2, none⟩ = some (.int .i64 ((((es.getD q []).getD i (0, 0)).1 : Nat) : Int)) ∧ X.cell? ⟨eb, eo + i * 2 + 1, none⟩ = some (.int .i64 ((((es.getD q []).getD i (0, 0)).2 : Nat) : Int)) := by
  obtain ⟨eb, eo, e, c0, c1⟩ := h.cellAt (i := i) (by rw [elF_len]; exact hi)
  rw [(elF_at hi).2] at c0 c1
  exact ⟨eb, eo, e, c0, c1⟩
theorem fst_inj {l : List (Nat × Nat)} (hnd : (l.map Prod.fst).Nodup) {i j : Nat} (hij : i < j) (hj : j < l.length) : (l.getD i (0, 0)).1 ≠ (l.getD j (0, 0)).1 := by
  have h := (List.pairwise_iff_getElem.1 hnd) i j (by rw [List.length_map]; omega) (by rw [List.length_map]; omega) hij
  rw [List.getElem_map, List.getElem_map] at h
  rw [List.getD_eq_getElem?_getD, List.getElem?_eq_getElem (show i < l.length by omega), List.getD_eq_getElem?_getD, List.getElem?_eq_getElem hj]
  exact h
theorem lead_of {ks : List (List It)} {es : List (List (Nat × Nat))} (hE : EsOK ks es) {q i s t : Nat} (hq : q < ks.length) (hi : i < (es.getD q []).length) (hx : (es.getD q []).getD i (0, 0) = (s, t)) : leadA es ((q : Int), (s : Int)) = some (t : Int) := by
  rw [leadA_at es (by rw [hE.len]; exact hq)]
  have h1 := nextL_found (l := es.getD q []) (s := (s : Int)) hi (by rw [hx]) (fun j hj h2 => by
    have h3 := fst_inj (hE.each q hq).2.1 hj hi
    rw [hx] at h3
    exact h3 (by omega))
  rw [h1, hx]

section
variable (ta na la pa : Option Addr) (tc nc lc pc : Nat) (n : Nat) (st : Int) (w : World) (tn nn ln : Nat)
set_option maxRecDepth 100000 in
set_option maxHeartbeats 8000000 in
theorem reached_ok (N ask : Nat) (ks : List (List It)) (es : List (List (Nat × Nat))) (hN : N = ks.length) (hpos : 0 < N) (htn : tn ≤ 65) (hnn : nn ≤ 65) (hE : EsOK ks es) (hO : OfOk ta na la pa tc nc lc pc n st w tn nn ln ks es)
    (hsy : ∀ q, q < N → ∀ x ∈ es.getD q [], x.1 < tn + nn) (hnew : ∀ t, 0 < t → t < N → ∃ p, p < t ∧ ∃ x ∈ es.getD p [], x.2 = t)
    (hBU : ∀ X, w.grownBy X none → Calls Try.prog 10 #[.agg #[.slice ta tn tc, .slice na nn nc, .slice la ln lc, .int .i64 st, .slice pa n pc]] X fun e y => ∃ sa sc kv ev, e = .returned (.tuple #[.agg #[.slice sa N sc, .int .i64 (ask : Int), .int .i64 (N : Int)], .int .i64 0]) ∧ AutP X.heap.size y (.slice sa ks.length sc) ks (elF es) kv ev ∧ X.grownBy y none) :
    Calls Try.prog 4 #[.agg #[.slice ta tn tc, .slice na nn nc, .slice la ln lc, .int .i64 st, .slice pa n pc]] w fun e w' => e = .returned (.bool true) ∧ w.grownBy w' none := by
  have HBU := show Hid _ from hBU
  have hN256 : N ≤ 256 := by rw [hN]; exact hE.le
  obtain ⟨S, hS⟩ : ∃ S, S = tn + nn := ⟨_, rfl⟩
  have HWX : Hid (∀ X ra rc (row : List Int) (q : Nat), w.grownBy X none → IntsAt X ra row → row.length ≤ 256 → (∀ x ∈ row, 0 ≤ x ∧ x < (S : Int)) → wayF es (some 0) row = some (q : Int) → Calls Try.prog 7 #[.agg #[.slice ta tn tc, .slice na nn nc, .slice la ln lc, .int .i64 st, .slice pa n pc], .int .i64 0, .slice ra row.length rc] X fun e y => e = .returned (.tuple #[.int .i64 (q : Int), .int .i64 0]) ∧ X.grownBy y none) := fun X ra rc row q hX hr hrb hrow hway => by
    have h := walkX_ok ta na la pa tc nc lc pc n st X tn nn ln ks es htn hnn hE.le hE.ok (fun Y hY => hO Y (grown_trans hX hY)) 0 (by rw [← hN]; exact hpos) ra rc row hr (by omega) (fun x hx => by
      unfold noB
      have h9 := hrow x hx
      rw [hS] at h9
      have h10 : x < (tn : Int) + (nn : Int) := by omega
      simp [h9.1, h10])
    have e0 : wayF es (some ((0 : Nat) : Int)) row = some (q : Int) := hway
    rw [e0] at h
    exact h
  have HEI : Hid (∀ q i s t, q < N → i < (es.getD q []).length → (es.getD q []).getD i (0, 0) = (s, t) → s < S ∧ t < N ∧ leadA es ((q : Int), (s : Int)) = some (t : Int)) := fun q i s t hq hi hx => by
    have hm : (es.getD q []).getD i (0, 0) ∈ es.getD q [] := by
      generalize es.getD q [] = l at hi ⊢
      rw [List.getD_eq_getElem?_getD, List.getElem?_eq_getElem hi]; exact List.getElem_mem hi
    have h1 := hsy q hq _ hm
    have h2 := ((hE.each q (by rw [← hN]; exact hq)).2.2 _ hm).2
    rw [hx] at h1 h2
    exact ⟨by rw [hS]; exact h1, by rw [hN]; exact h2, lead_of hE (by rw [← hN]; exact hq) hi hx⟩
  have HEL : Hid (∀ q, (es.getD q []).length ≤ 130) := hE.short
  have HNW : Hid (∀ t, 0 < t → t < N → ∃ p, p < t ∧ ∃ x ∈ es.getD p [], x.2 = t) := hnew
  have HN : Hid (N = ks.length) := hN
  have HX0 : Hid (PhAt w (w.alloc (.cells #[.slice ta tn tc, .slice na nn nc, .slice la ln lc, .int .i64 st, .slice pa n pc] 27)) w.heap.size #[.slice ta tn tc, .slice na nn nc, .slice la ln lc, .int .i64 st, .slice pa n pc]) := ⟨World.grownBy_alloc _ _ none, heap_alloc_last w _⟩
  have hN0 : ((N : Int) == 0) = false := beq_eq_false_iff_ne.2 (by omega)
  have hN1 : (N == 0) = false := beq_eq_false_iff_ne.2 (by omega)
  have infoInts : (Try.prog.info? 24).map (fun i => (i.zero, i.size, i.bytes)) = some (some (.slice none 0 0), 1, 24) := by kernel_rfl
  obtain ⟨i1, hi1, hy0, hy1, hy2⟩ := info_parts infoInts
  obtain ⟨i4, hi4, hx0, hx1, hx2⟩ := info_parts infoBool
  obtain ⟨i5, hi5, hw0, hw1, hw2⟩ := info_parts infoInt
  clear hBU hO hsy hnew hN hE infoInts hS
  go_enter Try.func4, Try.ntmps4
  go_wp2_with fail
  refine Calls.mono (awake_any _) ?_
  rintro e w1 ⟨rfl, hg1⟩
  have HX1 : Hid (PhAt w w1 w.heap.size #[.slice ta tn tc, .slice na nn nc, .slice la ln lc, .int .i64 st, .slice pa n pc]) := HX0.out.kept hg1
  clear hg1 HX0
  obtain ⟨k0, k1, k2, k3, k4⟩ := HX1.out.cells
  go_wp2_with fail
  refine Calls.mono (HBU.out _ HX1.out.grown) ?_
  rintro e w2 ⟨sa, sc, kv, ev, rfl, hAP, hg2⟩
  obtain ⟨ab, hab⟩ : ∃ b, b = w2.heap.size := ⟨_, rfl⟩
  obtain ⟨W, hW⟩ : ∃ W, W = w2.alloc (.cells #[.slice sa N sc, .int .i64 (ask : Int), .int .i64 (N : Int)] 39) := ⟨_, rfl⟩
  have hgW : w2.grownBy W none := by rw [hW]; exact World.grownBy_alloc _ _ none
  have HXW : Hid (PhAt w W w.heap.size #[.slice ta tn tc, .slice na nn nc, .slice la ln lc, .int .i64 st, .slice pa n pc]) := HX1.out.kept (grown_trans hg2 hgW)
  have HAW : Hid (W.heap[ab]? = some (.cells #[.slice sa N sc, .int .i64 (ask : Int), .int .i64 (N : Int)] 39 (0, 0))) := by rw [hW, hab]; exact heap_alloc_last w2 _
  have HWE := show Hid _ from hW
  have HBE := show Hid _ from hab
  have hPW := hAP.kept hgW
  obtain ⟨sb, sc', hsv, -, -⟩ := hPW.st (q := 0) (by rw [← HN.out]; exact hpos)
  simp only [Value.slice.injEq] at hsv
  obtain ⟨rfl, _, rfl⟩ := hsv
  have HST : Hid (∀ q, q < N → ∃ ea ec, ∀ Y, W.grownBy Y none → Y.cell? ⟨sb, q * 2 + 1, none⟩ = some (.slice ea (es.getD q []).length ec) ∧ ItsAt Y ea (elF es q)) := fun q hq => by
    obtain ⟨sb2, sc2, hsv2, _, hs2⟩ := hPW.st (q := q) (by rw [← HN.out]; exact hq)
    simp only [Value.slice.injEq, Option.some.injEq, Addr.mk.injEq] at hsv2
    obtain ⟨⟨rfl, _⟩, _⟩ := hsv2
    obtain ⟨ea, ec, h1, h2⟩ := hPW.edgAt (q := q) (by rw [← HN.out]; exact hq)
    rw [h1, elF_len] at hs2
    exact ⟨ea, ec, fun Y hY => ⟨hY.cell hs2 (by simp), h2.kept hY⟩⟩
  have HCE : Hid (∀ Y, W.grownBy Y none → Y.cell? ⟨ab, 0, none⟩ = some (.slice (some ⟨sb, 0, none⟩) N sc)) := fun Y hY => by rw [cell_of_row _ _ _ _ _ _ (box_kept HAW.out hY)]; rfl
  clear hg2 hAP HX1 k0 k1 k2 k3 k4 hW hab hgW hPW HAW
  have y0 := HCE.out W (grown_refl _ _)
  rw [HWE.out, HBE.out] at y0
  go_wp2_with (at_make; rw [← HWE.out]; refine wpList_make_full _ rfl _ _ 42 rfl W.heap.size 24 i1 (.slice none 0 0) 1 Try.underlying42 hi1 hy0 hy1 .i64 .i64 _ _ N rfl rfl (by simp) (by simp) (by rw [hy2]; omega) (by unfold maxLen; omega) (by simp) ?_)
  intro w3 hown3 hgr3
  have hval3 : ValAt w3 W.heap.size N 24 (fun _ => .slice none 0 0) := made_rowK (B := W.heap.size) rfl (by simpa [Value.cells] using hown3)
  obtain ⟨wb, hwb⟩ : ∃ b, b = W.heap.size := ⟨_, rfl⟩
  rw [← hwb] at hval3
  try rw [← hwb]
  try rw [← HBE.out]
  have HG3 : Hid (W.grownBy w3 none) := hgr3
  have HV3 : Hid (ValAt w3 wb N 24 (fun _ => .slice none 0 0)) := hval3
  have HWB : Hid (W.heap.size ≤ wb) := by show _ ≤ _; omega
  clear hown3 hgr3 hval3 hwb y0
  have y0 := HCE.out w3 HG3.out
  go_wp2_with (at_make; refine wpList_make_full _ rfl _ _ 43 rfl w3.heap.size 4 i4 (.bool false) 1 Try.underlying43 hi4 hx0 hx1 .i64 .i64 _ _ N rfl rfl (by simp) (by simp) (by rw [hx2]; omega) (by unfold maxLen; omega) (by simp) ?_)
  intro w4 hown4 hgr4
  have hval4 : ValAt w4 w3.heap.size N 4 (fun _ => .bool false) := made_rowK (B := w3.heap.size) rfl (by simpa [Value.cells] using hown4)
  obtain ⟨ib, hib⟩ : ∃ b, b = w3.heap.size := ⟨_, rfl⟩
  rw [← hib] at hval4
  try rw [← hib]
  have HR4 : Hid (RcAt W (w4.alloc (.cells #[.int .i64 0] 3)) wb ib N (fun _ => false) (fun _ => []) (fun _ => none) (fun _ => 0) (some ⟨w4.heap.size, 0, none⟩) 1 (natI [0])) := by
    have g4 := grown_trans HG3.out hgr4
    refine ⟨grown_trans g4 (World.grownBy_alloc _ _ none), (HV3.out.kept hgr4).kept (World.grownBy_alloc _ _ none), hval4.kept (World.grownBy_alloc _ _ none), ⟨Nat.le_refl _, fun _ => ⟨w4.heap.size, 0, _, rfl, g4.size, heap_alloc_last w4 _, Nat.le_refl _, fun j hj => ?_⟩⟩, fun k hk => World.ownsRow_nil _ _ _ _, fun _ g off _ k hk => (by simp [Value.ownBlock]), HWB.out, by have := HG3.out.size; omega⟩
    have hj0 : j = 0 := by simpa [natI] using hj
    subst hj0; rfl
  have HR5 : Hid (RcAt W ((w4.alloc (.cells #[.int .i64 0] 3)).setCell ⟨ib, 0, none⟩ (.bool true)) wb ib N (markN (fun _ => false) 0) (fun _ => []) (fun _ => none) (fun _ => 0) (some ⟨w4.heap.size, 0, none⟩) 1 (natI [0])) := HR4.out.mark 0
  have m0 := HR4.out.iv.cell 0 hpos
  have mf := HR4.out.iv.free 0
  clear y0
  have y0 := HCE.out _ HR4.out.grown
  have y1 := HCE.out w4 (grown_trans HG3.out hgr4)
  have hp1 : (0 : Int) < (N : Int) := by omega
  clear hown4 hgr4 hval4 hib HR4
  go_wp2_with fail
  obtain ⟨qb, hqb⟩ : ∃ b, b = w4.heap.size := ⟨_, rfl⟩
  obtain ⟨X5, hX5⟩ : ∃ X, X = (w4.alloc (.cells #[.int .i64 0] 3)).setCell ⟨ib, 0, none⟩ (.bool true) := ⟨_, rfl⟩
  rw [← hX5, ← hqb] at HR5
  try rw [← hX5]
  try rw [← hqb]
  have HS0 : Hid (SrP es N S (markN (fun _ => false) 0) (fun _ => []) [0] N 0) := SrP.start hpos
  obtain ⟨M0, hM0⟩ : ∃ m, m = 1 + (N - cntN (markN (fun _ => false) 0) N) := ⟨_, rfl⟩
  have HM0 : Hid (M0 = 1 + (N - cntN (markN (fun _ => false) 0) N)) := hM0
  have HZN : Hid (N ≤ N) := Nat.le_refl _
  clear hX5 hqb hM0 m0 mf y0 y1 HV3 HG3 HWB
  go_loopg [10] M0 (fun gk v10 wr => ∃ (k cap : Nat) (a : Option Addr) (inn : Nat → Bool) (ways : Nat → List Int) (ua : Nat → Option Addr) (uc : Nat → Nat) (todo : List Nat), v10 = .slice a k cap ∧ k = todo.length ∧ gk = k + (N - cntN inn N) ∧ gk ≤ N + 1 ∧ SrP es N S inn ways todo N 0 ∧ RcAt W wr wb ib N inn ways ua uc a cap (natI todo))
  case atStart => exact ⟨1, 1, _, _, _, _, _, [0], rfl, rfl, HM0.out, by have := HM0.out; omega, HS0.out, HR5.out⟩
  case round =>
    obtain ⟨k, cap, a, inn, ways, ua, uc, todo, rfl, hk, hgk, hgb, hSr, hRc⟩ := hrel
    have HGB : Hid (gk ≤ N + 1) := hgb
    have HGK : Hid (gk = k + (N - cntN inn N)) := hgk
    have HSR : Hid (SrP es N S inn ways todo N 0) := hSr
    have HRC : Hid (RcAt W wr wb ib N inn ways ua uc a cap (natI todo)) := hRc
    have HK : Hid (k = todo.length) := hk
    have hkN : k ≤ 257 := by omega
    clear hgk hgb hSr hRc HS0 HR5 HM0
    cases todo with
    | cons q0 rest =>
      have hq0 := HSR.out.todoIn q0 List.mem_cons_self
      have hq0N : q0 < N := hq0.1
      obtain ⟨g, off, rfl, hcz⟩ := HRC.out.que.head
      have hk1 : 1 ≤ k := by rw [hk]; simp
      have hkc : k ≤ cap := by have := HRC.out.que.1; rw [natI_len] at this; omega
      have hkd : decide (0 < k) = true := decide_eq_true (by omega)
      have hkd2 : decide ((0 : Int) < (k : Int)) = true := decide_eq_true (by omega)
      have hki : (1 : Int) ≤ (k : Int) := by omega
      have hki2 : (0 : Int) < (k : Int) := by omega
      obtain ⟨k2, hk2⟩ : ∃ k2, k = k2 + 1 := ⟨k - 1, by omega⟩
      have HK2 : Hid (k2 = rest.length) := by have := HK.out; simp at this; show _ = _; omega
      have HSP : Hid (SrP es N S inn ways rest q0 0) := HSR.out.pop
      have HINQ : Hid (inn q0 = true) := hq0.2
      obtain ⟨ea, ec, hst⟩ := HST.out q0 hq0N
      obtain ⟨E, hE⟩ : ∃ E, E = (es.getD q0 []).length := ⟨_, rfl⟩
      have HE : Hid (E = (es.getD q0 []).length) := hE
      have hEb : E ≤ 130 := by rw [hE]; exact HEL.out q0
      have HST0 : Hid (∀ Y, W.grownBy Y none → Y.cell? ⟨sb, q0 * 2 + 1, none⟩ = some (.slice ea E ec) ∧ ItsAt Y ea (elF es q0)) := by rw [hE]; exact hst
      obtain ⟨M1, hM1⟩ : ∃ m, m = k2 + (N - cntN inn N) := ⟨_, rfl⟩
      have HM1 : Hid (M1 = k2 + (N - cntN inn N)) := hM1
      have HGK1 : Hid (gk = M1 + 1) := by have h1 := HGK.out; show _ = _; omega
      have hq00 : (0 : Int) ≤ (q0 : Int) := by omega
      have hq01 : (q0 : Int) < (N : Int) := by omega
      generalize hwr : wr = W0 at *
      have hM1b : M1 ≤ N := by have h1 := HGB.out; have h2 := HGK1.out; omega
      clear hwr hk hq0 hst hE hM1 hkd HGK HK HSR
      subst hk2
      by_cases hcp : cap = 1
      case' pos =>
        have HT : Hid (RcAt W W0 wb ib N inn ways ua uc (some ⟨g, off, none⟩) 0 (natI rest)) := by
          have := HRC.out.pop (some ⟨g, off, none⟩) (fun h => by omega)
          rwa [hcp] at this
        subst hcp
        obtain rfl : k2 = 0 := by omega
        go_wp2_with fail
      case' neg =>
        have hcp1 : 1 < cap := by omega
        have HT : Hid (RcAt W W0 wb ib N inn ways ua uc (some ⟨g, off + 1, none⟩) (cap - 1) (natI rest)) := HRC.out.pop _ (fun _ => rfl)
        have hcd : decide (1 < cap) = true := decide_eq_true hcp1
        go_wp2_with fail
      all_goals
        have HW0 : Hid (W.grownBy W0 none) := HRC.out.grown
        clear HRC hcz
        go_loopg [10, 12] E (fun gi v10 v12 wr => ∃ (i k cap : Nat) (a : Option Addr) (inn : Nat → Bool) (ways : Nat → List Int) (ua : Nat → Option Addr) (uc : Nat → Nat) (todo : List Nat), i ≤ E ∧ gi = E - i ∧ v10 = .slice a k cap ∧ v12 = .int .i64 i ∧ k = todo.length ∧ k + (N - cntN inn N) = M1 ∧ inn q0 = true ∧ SrP es N S inn ways todo q0 i ∧ RcAt W wr wb ib N inn ways ua uc a cap (natI todo))
        case atStart => exact ⟨0, _, _, _, _, _, _, _, rest, Nat.zero_le _, rfl, rfl, rfl, HK2.out, HM1.out.symm, HINQ.out, HSP.out, HT.out⟩
        case round =>
          obtain ⟨i, k, cap, a, inn, ways, ua, uc, todo, hi, hgi, rfl, rfl, hk, hms, hiq, hSr, hRc⟩ := hrel
          have HGI : Hid (gk = E - i) := hgi
          have HK : Hid (k = todo.length) := hk
          have HMS : Hid (k + (N - cntN inn N) = M1) := hms
          have HIQ : Hid (inn q0 = true) := hiq
          have HSR : Hid (SrP es N S inn ways todo q0 i) := hSr
          have HRC : Hid (RcAt W wr wb ib N inn ways ua uc a cap (natI todo)) := hRc
          have hkb : k ≤ 257 := by omega
          clear hgi hk hms hiq hSr hRc HT HSP HINQ HM1 HK2
          have y0 := HCE.out wr HRC.out.grown
          have s0 := (HST0.out wr HRC.out.grown).1
          by_cases hlt : i < E
          · have hid : decide (i < E) = true := decide_eq_true hlt
            have hi0 : (0 : Int) ≤ (i : Int) := by omega
            have hi1 : (i : Int) < (E : Int) := by omega
            have hil : i < (es.getD q0 []).length := by rw [← HE.out]; exact hlt
            obtain ⟨eb0, eo, rfl, e0, e1⟩ := edge_at (HST0.out wr HRC.out.grown).2 hil
            obtain ⟨s, hs⟩ : ∃ s : Nat, s = ((es.getD q0 []).getD i (0, 0)).1 := ⟨_, rfl⟩
            obtain ⟨t, ht⟩ : ∃ t : Nat, t = ((es.getD q0 []).getD i (0, 0)).2 := ⟨_, rfl⟩
            have hx : (es.getD q0 []).getD i (0, 0) = (s, t) := by rw [hs, ht]
            have HX : Hid ((es.getD q0 []).getD i (0, 0) = (s, t)) := hx
            obtain ⟨hsS, htN, hld⟩ := HEI.out q0 i s t hq0N hil hx
            have HLD : Hid (s < S ∧ leadA es ((q0 : Int), (s : Int)) = some (t : Int)) := ⟨hsS, hld⟩
            rw [← hs] at e0
            rw [← ht] at e1
            obtain ⟨eb, heb⟩ : ∃ b, b = wr.heap.size := ⟨_, rfl⟩
            obtain ⟨Y0, hY0⟩ : ∃ Y, Y = wr.alloc (.cells #[.int .i64 (s : Int), .int .i64 (t : Int)] 49) := ⟨_, rfl⟩
            have HY0 : Hid (Y0 = wr.alloc (.cells #[.int .i64 (s : Int), .int .i64 (t : Int)] 49)) := hY0
            have HEB : Hid (eb = wr.heap.size) := heb
            have hgY : wr.grownBy Y0 none := by rw [hY0]; exact World.grownBy_alloc _ _ none
            have HBX : Hid (Y0.heap[eb]? = some (.cells #[.int .i64 (s : Int), .int .i64 (t : Int)] 49 (0, 0))) := by rw [hY0, heb]; exact heap_alloc_last wr _
            have HRY : Hid (RcAt W Y0 wb ib N inn ways ua uc a cap (natI todo)) := HRC.out.kept hgY
            have ht0 : (0 : Int) ≤ (t : Int) := by omega
            have ht1 : (t : Int) < (N : Int) := by omega
            have htd : decide ((t : Int) < 0) = false := decide_eq_false (by omega)
            have htd2 : decide ((N : Int) ≤ (t : Int)) = false := decide_eq_false (by omega)
            have htd3 : decide (N ≤ t) = false := decide_eq_false (by omega)
            have y1 := HCE.out Y0 HRY.out.grown
            have b1 : Y0.cell? ⟨eb, 1, none⟩ = some (.int .i64 (t : Int)) := by rw [cell_of_row _ _ _ _ _ _ HBX.out]; rfl
            have n0 := HRY.out.iv.cell t htN
            have nf := HRY.out.iv.free t
            obtain ⟨bt, hbt⟩ : ∃ b, b = inn t := ⟨_, rfl⟩
            have HBT : Hid (bt = inn t) := hbt
            rw [← hbt] at n0
            rw [hY0] at y1 b1 n0 nf
            rw [heb] at b1
            clear hil hs ht hx hsS hld hY0 hgY hbt heb
            cases bt with
            | true =>
              have HSK : Hid (SrP es N S inn ways todo q0 (i + 1)) := HSR.out.skip (by rw [HX.out]; exact HBT.out.symm)
              clear HBT
              go_wp2_with fail
              try rw [← HY0.out]
              go_roundg (E - (i + 1))
              case measure => have := HGI.out; omega
              case rel => exact ⟨i + 1, k, cap, a, inn, ways, ua, uc, todo, by omega, rfl, rfl, by go_num, HK.out, HMS.out, HIQ.out, HSK.out, HRY.out⟩
            | false =>
              have HR1 : Hid (RcAt W (Y0.setCell ⟨ib, t, none⟩ (.bool true)) wb ib N (markN inn t) ways ua uc a cap (natI todo)) := HRY.out.mark t
              have HB1 : Hid ((Y0.setCell ⟨ib, t, none⟩ (.bool true)).heap[eb]? = some (.cells #[.int .i64 (s : Int), .int .i64 (t : Int)] 49 (0, 0))) := box_other HBX.out HRY.out.iv (by decide) (grown_setCell _ _ _)
              have HSA : Hid (SrP es N S (markN inn t) (fun u => if u = t then ways q0 ++ [(s : Int)] else ways u) (todo ++ [t]) q0 (i + 1)) := HSR.out.add hq0N HIQ.out HX.out HLD.out.1 htN HBT.out.symm HLD.out.2
              have HMS1 : Hid (k + 1 + (N - cntN (markN inn t) N) = M1) := by
                have h1 := cntN_mark HBT.out.symm N htN
                have h2 := cntN_le (markN inn t) N
                have h3 := HMS.out
                show _ = _
                omega
              have HIQ1 : Hid (markN inn t q0 = true) := by
                show _ = _
                unfold markN
                by_cases e : q0 = t
                · rw [if_pos e]
                · rw [if_neg e]; exact HIQ.out
              obtain ⟨lq, hlq⟩ : ∃ l, l = (ways q0).length := ⟨_, rfl⟩
              have HLQ : Hid (lq = (ways q0).length) := hlq
              have hlqb : lq ≤ 256 := by
                have h1 := (HSR.out.way q0 hq0N HIQ.out).2.2
                have h2 := cntN_le inn N
                omega
              obtain ⟨Y1, hY1⟩ : ∃ Y, Y = Y0.setCell ⟨ib, t, none⟩ (.bool true) := ⟨_, rfl⟩
              have HY1 : Hid (Y1 = Y0.setCell ⟨ib, t, none⟩ (.bool true)) := hY1
              rw [← hY1] at HR1 HB1
              have wq := HR1.out.wv.cell q0 hq0N
              have hoq := HR1.out.own q0 hq0N
              obtain ⟨uq, huq⟩ : ∃ u, u = ua q0 := ⟨_, rfl⟩
              obtain ⟨cq, hcq⟩ : ∃ c, c = uc q0 := ⟨_, rfl⟩
              rw [← huq, ← hcq] at wq hoq
              have HIQ9 : Hid (IntsAt Y1 uq (ways q0)) := ints_ofR hoq
              have HNQ : Hid (uq = none → lq = 0 ∧ cq = 0) := by rw [hlq]; exact ints_nil hoq
              have HVL : Hid ((intV (ways q0)).length = lq * 1) := by show _ = _; unfold intV; rw [List.length_map, hlq]; omega
              have HV1 : Hid (∀ u ∈ intV (ways q0), u.oneCell' = true) := fun u h => by
                unfold intV at h
                obtain ⟨i, _, rfl⟩ := List.mem_map.1 h
                rfl
              rw [← hlq] at wq
              rw [hY1, HY0.out] at wq
              clear hlq hoq huq hcq hY1 HBT HRY HBX HSR HRC HIQ HMS
              go_wp2_with (at_builtin; rw [← HY0.out, ← HY1.out]; refine wpList_append_srcW rfl (.tmp 105) (.tmp 109) 24 rfl Y1.heap.size 3 i5 (.int .i64 0) 1 8 Try.underlying24 hi5 hw0 hw1 hw2 rfl (by decide) (.slice none 0 0) 0 [] rfl (World.ownsRow_nil _ _ _ _) uq lq cq (intV (ways q0)) rfl HNQ.out HVL.out (fun ad e => ints_cells HIQ9.out ad e) HV1.out (by unfold maxLen; omega) (by omega) (Nat.le_refl _) ?_)
              intro v9 Z hoZ hgZ
              obtain ⟨lA, lC, rfl⟩ := owns_cut hoZ
              have HGZ : Hid (Y1.grownBy Z none) := hgZ
              have HOZ : Hid (Z.ownsRow Y1.heap.size 3 1 (.slice lA lq lC) lq (intV (ways q0))) := hoZ
              have HBZ : Hid (Z.heap[eb]? = some (.cells #[.int .i64 (s : Int), .int .i64 (t : Int)] 49 (0, 0))) := box_kept HB1.out hgZ
              have hbc : ∀ Y, Z.grownBy Y none → Y.cell? ⟨wr.heap.size, 0, none⟩ = some (.int .i64 (s : Int)) ∧ Y.cell? ⟨wr.heap.size, 1, none⟩ = some (.int .i64 (t : Int)) := fun Y hY => by
                have h := box_kept HBZ.out hY
                rw [HEB.out] at h
                exact ⟨by rw [cell_of_row _ _ _ _ _ _ h]; rfl, by rw [cell_of_row _ _ _ _ _ _ h]; rfl⟩
              have HBC := show Hid _ from hbc
              obtain ⟨x1, x2⟩ := hbc Z (grown_refl _ _)
              have x4 : ∀ o, (Z.alloc o).cell? ⟨wr.heap.size, 1, none⟩ = some (.int .i64 (t : Int)) := fun o => (HBC.out _ (World.grownBy_alloc _ _ none)).2
              obtain ⟨ut, hut⟩ : ∃ u, u = Value.slice (ua t) (ways t).length (uc t) := ⟨_, rfl⟩
              have HUT : Hid (ut = Value.slice (ua t) (ways t).length (uc t)) := hut
              clear hoZ hgZ hbc wq n0 nf y1 b1 hut s0 e0 e1 y0
              go_wp2_with fail
              refine tr_wayq (Z := Z) (B := Y1.heap.size) (wb := wb) (eb := wr.heap.size) (N := N) (s := s) (t := t) (lq := lq) (lc := lC) (la := lA) (ut := ut) (xs := intV (ways q0)) x1 x2 x4 ht1 (by omega) (fun Y hY => keep0 HOZ.out hY) (fun Y hY => Nat.le_trans HGZ.out.size hY.size) ?_
              intro Y9 V g9 c9 hY9 hg9 ho9
              have hgV : Y1.grownBy V none := grown_owned (grown_trans HGZ.out hY9) (keep0 HOZ.out hY9) (Nat.le_refl _) hg9
              have hRV := HR1.out.kept hgV
              have hl9 : (ways q0 ++ [(s : Int)]).length = lq + 1 := by rw [List.length_append, ← HLQ.out]; rfl
              have hv9 : intV (ways q0 ++ [(s : Int)]) = intV (ways q0) ++ [.int .i64 (s : Int)] := by unfold intV; rw [List.map_append]; rfl
              have hRA := HR1.out.add (t := t) (g := g9) (c := c9) (l := ways q0 ++ [(s : Int)]) hgV (by rw [hl9, hv9]; exact ho9)
              rw [hl9] at hRA
              have hbV : V.heap[eb]? = some (.cells #[.int .i64 (s : Int), .int .i64 (t : Int)] 49 (0, 0)) := box_kept HB1.out hgV
              refine ⟨by rw [HUT.out]; exact hRV.wv.cell t htN, hRV.wv.free t, by rw [← HEB.out, cell_of_row _ _ _ _ _ _ hbV]; rfl, ?_⟩
              intro u111 u112 u113 u114 u115 u116 u117 u118 u119
              obtain ⟨V9, hV9⟩ : ∃ X, X = V.setCell ⟨wb, t, none⟩ (.slice (some ⟨g9, 0, none⟩) (lq + 1) c9) := ⟨_, rfl⟩
              have hbV9 : V9.heap[eb]? = some (.cells #[.int .i64 (s : Int), .int .i64 (t : Int)] 49 (0, 0)) := by rw [hV9]; exact box_other hbV hRV.wv (by decide) (grown_setCell _ _ _)
              rw [← hV9] at hRA
              rw [← hV9]
              have HRA := show Hid _ from hRA
              have HQA := show Hid _ from (hRA.kept (World.grownBy_alloc V9 (.cells #[.int .i64 (t : Int)] 3) none)).que
              have HSZ : Hid (W.heap.size ≤ (V9.alloc (.cells #[.int .i64 (t : Int)] 3)).heap.size) := (hRA.kept (World.grownBy_alloc V9 (.cells #[.int .i64 (t : Int)] 3) none)).grown.size
              have HNC : Hid ((V9.alloc (.cells #[.int .i64 (t : Int)] 3)).cell? ⟨V9.heap.size, 0, none⟩ = some (.int .i64 (t : Int))) := by
                show _ = _
                rw [cell_of_row _ _ _ _ _ _ (heap_alloc_last V9 _)]; rfl
              have z1 : V9.cell? ⟨wr.heap.size, 1, none⟩ = some (.int .i64 (t : Int)) := by rw [← HEB.out, cell_of_row _ _ _ _ _ _ hbV9]; rfl
              clear hV9 hbV hbV9 hRA hRV hgV hY9 hg9 ho9 hl9 hv9 x1 x2 x4
              go_wp2_with (at_builtin; refine wpList_append_que _ rfl (.tmp 120) (.tmp 123) 24 rfl W.heap.size i5 Try.underlying24 hi5 hw0 hw1 hw2 a k cap (natI todo) rfl (by rw [natI_len]; exact HK.out) HQA.out HSZ.out V9.heap.size (t : Int) 1 rfl HNC.out (by omega) ?_)
              intro a8 cap8 w8 hq8 hg8
              have HR8 : Hid (RcAt W w8 wb ib N (markN inn t) (fun u => if u = t then ways q0 ++ [(s : Int)] else ways u) (updL ua t (some ⟨g9, 0, none⟩)) (updL uc t c9) a8 cap8 (natI (todo ++ [t]))) := by
                show RcAt _ _ _ _ _ _ _ _ _ _ _ _
                rw [natI_snoc]
                exact (HRA.out.kept (World.grownBy_alloc V9 (.cells #[.int .i64 (t : Int)] 3) none)).push hq8 hg8
              clear hq8 hg8 HRA HQA HSZ HNC z1
              go_wp2_with fail
              go_roundg (E - (i + 1))
              case measure => have := HGI.out; omega
              case rel => exact ⟨i + 1, k + 1, cap8, a8, _, _, _, _, todo ++ [t], by omega, rfl, rfl, by go_num, by rw [List.length_append, ← HK.out]; rfl, HMS1.out, HIQ1.out, HSA.out, HR8.out⟩
          · have hiE : E = i := by omega
            subst hiE
            have hid : decide (E < E) = false := decide_eq_false (by omega)
            have HSL : Hid (SrP es N S inn ways todo N 0) := HSR.out.left (by rw [← HE.out]; exact Nat.le_refl _)
            go_wp2_with fail
            go_roundg M1
            case measure => have := HGK1.out; omega
            case rel => exact ⟨k, cap, a, inn, ways, ua, uc, todo, rfl, HK.out, HMS.out.symm, by omega, HSL.out, HRC.out⟩
    | nil =>
      obtain rfl : k = 0 := by rw [hk]; rfl
      have HALL : Hid (∀ t, t < N → inn t = true) := fun t ht => HSR.out.all HNW.out (t + 1) t (Nat.lt_succ_self _) ht
      have HWAY : Hid (∀ t, t < N → wayF es (some 0) (ways t) = some (t : Int) ∧ (∀ x ∈ ways t, 0 ≤ x ∧ x < (S : Int)) ∧ (ways t).length < N) := fun t ht => by
        obtain ⟨h1, h2, h3⟩ := HSR.out.way t ht (HALL.out t ht)
        have h4 := cntN_le inn N
        exact ⟨h1, h2, by omega⟩
      generalize wr = W0 at *
      clear hk HK HGK HGB HSR
      go_wp2_with fail
      go_loopg [15] N (fun gk v15 wr => ∃ q : Nat, q ≤ N ∧ gk = N - q ∧ v15 = .int .i64 q ∧ W0.grownBy wr none)
      case atStart => exact ⟨0, Nat.zero_le _, rfl, rfl, grown_refl _ _⟩
      case round =>
        obtain ⟨q, hq, hgq, rfl, hg⟩ := hrel
        have HGQ : Hid (gk = N - q) := hgq
        have HG : Hid (W0.grownBy wr none) := hg
        clear hgq hg
        by_cases hlt : q < N
        · have hqd : decide (q < N) = true := decide_eq_true hlt
          by_cases h40 : q < 40
          · have hqe : decide (q < 40) = true := decide_eq_true h40
            have hqe2 : decide ((q : Int) < 40) = true := decide_eq_true (by omega)
            have hq0 : (0 : Int) ≤ (q : Int) := by omega
            have hq1 : (q : Int) < (N : Int) := by omega
            have HRW : Hid (RcAt W wr wb ib N inn ways ua uc a cap (natI [])) := HRC.out.kept HG.out
            have wq := HRW.out.wv.cell q hlt
            have hoq := HRW.out.own q hlt
            obtain ⟨lq, hlq⟩ : ∃ l, l = (ways q).length := ⟨_, rfl⟩
            obtain ⟨uq, huq⟩ : ∃ u, u = ua q := ⟨_, rfl⟩
            obtain ⟨cq, hcq⟩ : ∃ c, c = uc q := ⟨_, rfl⟩
            rw [← huq, ← hcq] at wq hoq
            obtain ⟨h1, h2, h3⟩ := HWAY.out q hlt
            have HCC : Hid (∀ Y, wr.grownBy Y none → Calls Try.prog 7 #[.agg #[.slice ta tn tc, .slice na nn nc, .slice la ln lc, .int .i64 st, .slice pa n pc], .int .i64 0, .slice uq lq cq] Y fun e y => e = .returned (.tuple #[.int .i64 (q : Int), .int .i64 0]) ∧ Y.grownBy y none) := fun Y hY => by
              rw [hlq]
              exact HWX.out Y uq cq (ways q) q (grown_trans HXW.out.grown (grown_trans HRW.out.grown hY)) ((ints_ofR hoq).kept hY) (by omega) h2 h1
            have hlqN : lq < N := by omega
            have hld : decide ((N : Int) ≤ (lq : Int)) = false := decide_eq_false (by omega)
            have hld2 : decide (N ≤ lq) = false := decide_eq_false (by omega)
            rw [← hlq] at wq
            have HIV : Hid (∀ Y, wr.grownBy Y none → Y.cell? ⟨ib, q, none⟩ = some (.bool true)) := fun Y hY => by
              have h := (HRW.out.kept hY).iv.cell q hlt
              rw [HALL.out q hlt] at h
              exact h
            have HKS : Hid (∀ Y, wr.grownBy Y none → (Y.cell? ⟨w.heap.size, 0, none⟩ = some (.slice ta tn tc) ∧ Y.cell? ⟨w.heap.size, 1, none⟩ = some (.slice na nn nc) ∧ Y.cell? ⟨w.heap.size, 2, none⟩ = some (.slice la ln lc) ∧ Y.cell? ⟨w.heap.size, 3, none⟩ = some (.int .i64 st) ∧ Y.cell? ⟨w.heap.size, 4, none⟩ = some (.slice pa n pc)) ∧ Y.cell? ⟨wb, q, none⟩ = some (.slice uq lq cq)) := fun Y hY => ⟨(HXW.out.kept (grown_trans HRW.out.grown hY)).cells, hY.cell wq (by simp)⟩
            have HUP : Hid (wr.grownBy wr.drew none) := grown_drewN _ 1
            clear wq hoq hlq huq hcq h1 h2 h3
            go_wp2_with fail
            go_region_held3 (fun Y => (Y.cell? ⟨w.heap.size, 0, none⟩ = some (.slice ta tn tc) ∧ Y.cell? ⟨w.heap.size, 1, none⟩ = some (.slice na nn nc) ∧ Y.cell? ⟨w.heap.size, 2, none⟩ = some (.slice la ln lc) ∧ Y.cell? ⟨w.heap.size, 3, none⟩ = some (.int .i64 st) ∧ Y.cell? ⟨w.heap.size, 4, none⟩ = some (.slice pa n pc)) ∧ Y.cell? ⟨wb, q, none⟩ = some (.slice uq lq cq)) (first | exact HKS.out _ HUP.out | exact HKS.out _ HG4.out | go_keep)
              ((first
                | (go_at_call 7; refine Calls.mono (HCC.out _ HUP.out) ?_; rintro e w5 ⟨rfl, hg5⟩; have HG4 : Hid (wr.grownBy w5 none) := grown_trans HUP.out hg5; clear hg5)
                | fail))
            have z0 := HCE.out w5 (grown_trans HRW.out.grown HG4.out)
            have z1 := HIV.out w5 HG4.out
            obtain ⟨_, z2⟩ := HKS.out w5 HG4.out
            have hqq : ((q : Int) != (q : Int)) = false := bne_self_eq_false _
            have hqq2 : (q != q) = false := bne_self_eq_false _
            go_wp2_with fail
            go_quiet (fail)
            go_wp2_with fail
            go_roundg (N - (q + 1))
            case measure => have := HGQ.out; omega
            case rel => exact ⟨q + 1, by omega, rfl, by go_num, by first | exact grown_trans HG.out HG4.out | exact grown_trans HG.out (grown_trans HG4.out (grown_drewN _ _))⟩
          · have hqe : decide (q < 40) = false := decide_eq_false h40
            have hqe2 : decide ((q : Int) < 40) = false := decide_eq_false (by omega)
            go_wp2_with fail
            go_ret
            exact ⟨rfl, grown_trans HXW.out.grown (grown_trans HRC.out.grown HG.out)⟩
        · have hqN : N = q := by omega
          subst hqN
          have hqd : decide (N < N) = false := decide_eq_false (by omega)
          go_wp2_with fail
          go_ret
          exact ⟨rfl, grown_trans HXW.out.grown (grown_trans HRC.out.grown HG.out)⟩
end

end Go.Proofs.Ytfcholpleeiddaa.J

/-
  trans: the law TransReached, for every input.
-/
namespace Go.Proofs.Ytfcholpleeiddaa.J
open Go.RowKit Go.Maps Go.Shelf

theorem reached_core (ta na la pa : Option Addr) (tc nc lc pc : Nat) (ts : List (ByteArray × Int)) (ns : List ByteArray) (lv : List Int) (n : Nat) (L : Nat → Int) (R : Nat → List Int) (ra : Nat → Option Addr) (rc : Nat → Nat) (V : Nat → Int) (st : Int) (w : World) (tn nn ln : Nat) (hlen : ts.length = tn ∧ ns.length = nn ∧ lv.length = ln) (hG : GAt w ta na la pa tc nc lc pc ts ns lv n L R ra rc V) : Calls Try.prog 4 #[.agg #[.slice ta tn tc, .slice na nn nc, .slice la ln lc, .int .i64 st, .slice pa n pc]] w fun e w' => e = .returned (.bool true) ∧ w.grownBy w' none := by
  by_cases hc : closedOK ts ns lv st n L R V
  · have hM : MayOK tn nn n st L R true := by obtain ⟨rfl, rfl, rfl⟩ := hlen; exact mayOK_closed hc
    cases hau : autoF (GG tn n L R) (tn + nn) 256 with
    | none => exact reached_bad ta na la pa tc nc lc pc n st w tn nn ln 11 (.inr rfl) (ofBad11 ta na la pa tc nc lc pc ts ns lv n L R ra rc V st w tn nn ln hlen hG hc hau) (build_none ta na la pa tc nc lc pc ts ns lv n L R ra rc V st w tn nn ln hlen hG hc hau)
    | some p =>
      obtain ⟨ks, es⟩ := p
      obtain ⟨hO, hE⟩ := ofOk ta na la pa tc nc lc pc ts ns lv n L R ra rc V st w tn nn ln hlen hG hc hau
      have hA := autF hM.p0 hau
      exact reached_ok ta na la pa tc nc lc pc n st w tn nn ln ks.length (askN es) ks es rfl hA.pos hM.tmax hM.nmax hE hO (fun q hq x hx => (hA.snd q hq x hx).1) (auto_new 256 hau) (build_some ta na la pa tc nc lc pc ts ns lv n L R ra rc V st w tn nn ln hlen hG hc hau)
  · exact reached_bad ta na la pa tc nc lc pc n st w tn nn ln 1 (.inl rfl) (ofBad1 ta na la pa tc nc lc pc ts ns lv n L R ra rc V st w tn nn ln hlen hG hc) (fun X hX => buildBad ta na la pa tc nc lc pc ts ns lv n L R ra rc V st X tn nn ln hlen (hG.kept hX) hc)

end Go.Proofs.Ytfcholpleeiddaa.J
