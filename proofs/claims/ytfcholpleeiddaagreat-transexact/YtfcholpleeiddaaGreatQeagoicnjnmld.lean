import Derived.Test.YtfcholpleeiddaaGreatQmjdogcpipfjm
import Derived.Test.YtfcholpleeiddaaGreatQjgcbokclajck
import Derived.Test.YtfcholpleeiddaaGreatQgabgifjlojpb
import Derived.Test.YtfcholpleeiddaaGreatQpjoclkeocikn

/-
  trans: the document's List and Direct.
-/
namespace Go.Proofs.YtfcholpleeiddaaGreat.J
open Go.RowKit Go.Maps Go.Shelf

attribute [local go_sem] Oper.semAt_some

/-- Lists as cells. -/
def lsV (ua : Nat → Option Addr) (Q : Nat → List Int) (uc : Nat → Nat) (k : Nat) : List Value := (List.range k).map fun i => Value.slice (ua i) (Q i).length (uc i)
theorem lsV_len (ua : Nat → Option Addr) (Q : Nat → List Int) (uc : Nat → Nat) (k : Nat) : (lsV ua Q uc k).length = k := by unfold lsV; rw [List.length_map, List.length_range]
theorem lsV_at (ua : Nat → Option Addr) (Q : Nat → List Int) (uc : Nat → Nat) {k i : Nat} (h : i < k) : (lsV ua Q uc k)[i]? = some (.slice (ua i) (Q i).length (uc i)) := by
  unfold lsV
  rw [List.getElem?_map, List.getElem?_range h]; rfl
theorem lsV_snoc (ua : Nat → Option Addr) (Q : Nat → List Int) (uc : Nat → Nat) (k : Nat) (a : Option Addr) (c : Nat) : lsV (updL ua k a) Q (updL uc k c) (k + 1) = lsV ua Q uc k ++ [.slice a (Q k).length c] := by
  unfold lsV
  rw [List.range_succ, List.map_append]
  congr 1
  · refine List.map_congr_left fun i hi => ?_
    have := List.mem_range.1 hi
    rw [updL_other _ _ (by omega), updL_other _ _ (by omega)]
  · rw [List.map_singleton, updL_same, updL_same]
theorem ints_ofT {X : World} {B c : Nat} {a : Option Addr} {l : List Int} (h : OwnI X B a l.length c l) : IntsAt X a l := by
  unfold OwnI at h
  rcases h.2 with ⟨_, h0⟩ | ⟨g, cap, cur, hv, hB, hh, hn, hm, hs, ht⟩
  · exact .inl (List.eq_nil_of_length_eq_zero h0)
  · simp only [Value.slice.injEq] at hv
    refine .inr ⟨g, 0, hv.1, fun i hi => ?_⟩
    rw [cell_of_row _ _ _ _ _ _ hh, Nat.zero_add]
    have h1 : (cur.toList.take (l.length * 1))[i]? = (intV l)[i]? := by rw [ht]
    rw [List.getElem?_take, if_pos (by omega)] at h1
    rw [← Array.getElem?_toList, h1]
    unfold intV
    rw [List.getElem?_map, List.getElem?_eq_getElem hi, List.getD_eq_getElem?_getD, List.getElem?_eq_getElem hi]; rfl
/-- What the document's Direct tells. -/
def DocDir (K : Nat) (Q : Nat → List Int) (w : World) (e : Ending) (y : World) : Prop := ∃ (a : Option Addr) (c : Nat) (ua : Nat → Option Addr) (uc : Nat → Nat), e = .returned (.tuple #[.slice a K c, .int .i64 0]) ∧ LsAt y a K Q ua uc ∧ w.grownBy y none
theorem infoIntsT : (Tryz.prog.info? 24).map (fun i => (i.zero, i.size, i.bytes)) = some (some (.slice none 0 0), 1, 24) := by kernel_rfl

section
variable (ta na la pa : Option Addr) (tc nc lc pc : Nat) (n : Nat) (st : Int) (w : World) (tn nn ln : Nat)
set_option maxRecDepth 100000 in
theorem rlistD_bad (ec : Int) (hec : ec = 1 ∨ ec = 11) (hBU : ∀ X, w.grownBy X none → Calls Tryz.prog 14 #[.agg #[.slice ta tn tc, .slice na nn nc, .slice la ln lc, .int .i64 st, .slice pa n pc]] X fun e y => e = .returned (.tuple #[.agg #[.slice none 0 0, .int .i64 0, .int .i64 0], .int .i64 ec]) ∧ X.grownBy y none) :
    Calls Tryz.prog 6 #[.agg #[.slice ta tn tc, .slice na nn nc, .slice la ln lc, .int .i64 st, .slice pa n pc]] w fun e y => e = .returned (.tuple #[.slice none 0 0, .int .i64 ec]) ∧ w.grownBy y none := by
  have HBU := show Hid _ from hBU
  have HX0 : Hid (w.grownBy (w.alloc (.cells #[.slice ta tn tc, .slice na nn nc, .slice la ln lc, .int .i64 st, .slice pa n pc] 27)) none) := World.grownBy_alloc _ _ none
  have hne : (ec != 0) = true := bne_iff_ne.2 (by omega)
  clear hBU hec
  go_enter Tryz.func6, Tryz.ntmps6
  go_wp2_with fail
  refine Calls.mono (HBU.out _ HX0.out) ?_
  rintro e w1 ⟨rfl, hg1⟩
  have HG1 : Hid (w.grownBy w1 none) := grown_trans HX0.out hg1
  clear hg1
  go_wp2_with fail
  go_ret2
  exact ⟨rfl, grown_trans HG1.out (World.grownBy_alloc _ _ none)⟩
set_option maxRecDepth 100000 in
theorem rdirectD_bad (ec : Int) (hec : ec = 1 ∨ ec = 11) (hBU : ∀ X, w.grownBy X none → Calls Tryz.prog 14 #[.agg #[.slice ta tn tc, .slice na nn nc, .slice la ln lc, .int .i64 st, .slice pa n pc]] X fun e y => e = .returned (.tuple #[.agg #[.slice none 0 0, .int .i64 0, .int .i64 0], .int .i64 ec]) ∧ X.grownBy y none) :
    Calls Tryz.prog 7 #[.agg #[.slice ta tn tc, .slice na nn nc, .slice la ln lc, .int .i64 st, .slice pa n pc]] w fun e y => e = .returned (.tuple #[.slice none 0 0, .int .i64 ec]) ∧ w.grownBy y none := by
  have HBU := show Hid _ from hBU
  have HX0 : Hid (w.grownBy (w.alloc (.cells #[.slice ta tn tc, .slice na nn nc, .slice la ln lc, .int .i64 st, .slice pa n pc] 27)) none) := World.grownBy_alloc _ _ none
  have hne : (ec != 0) = true := bne_iff_ne.2 (by omega)
  clear hBU hec
  go_enter Tryz.func7, Tryz.ntmps7
  go_wp2_with fail
  refine Calls.mono (HBU.out _ HX0.out) ?_
  rintro e w1 ⟨rfl, hg1⟩
  have HG1 : Hid (w.grownBy w1 none) := grown_trans HX0.out hg1
  clear hg1
  go_wp2_with fail
  go_ret2
  exact ⟨rfl, grown_trans HG1.out (World.grownBy_alloc _ _ none)⟩

set_option maxRecDepth 100000 in
theorem rlistD_ok (N : Nat) (ask : Int) (htn : tn ≤ 65) (hnn : nn ≤ 65) (ks : List (List It)) (es : List (List (Nat × Nat))) (hN : N = ks.length) (hE : EsOK ks es) (hsy : ∀ q, q < ks.length → ∀ x ∈ es.getD q [], x.1 < tn + nn)
    (hBU : ∀ X, w.grownBy X none → Calls Tryz.prog 14 #[.agg #[.slice ta tn tc, .slice na nn nc, .slice la ln lc, .int .i64 st, .slice pa n pc]] X fun e y => ∃ sa sc kv ev, e = .returned (.tuple #[.agg #[.slice sa N sc, .int .i64 ask, .int .i64 (N : Int)], .int .i64 0]) ∧ AutP X.heap.size y (.slice sa ks.length sc) ks (elF es) kv ev ∧ X.grownBy y none) :
    Calls Tryz.prog 6 #[.agg #[.slice ta tn tc, .slice na nn nc, .slice la ln lc, .int .i64 st, .slice pa n pc]] w fun e y => TrErr (trT tn es N) w e y := by
  have HBU := show Hid _ from hBU
  have HX0 : Hid (PhAt w (w.alloc (.cells #[.slice ta tn tc, .slice na nn nc, .slice la ln lc, .int .i64 st, .slice pa n pc] 27)) w.heap.size #[.slice ta tn tc, .slice na nn nc, .slice la ln lc, .int .i64 st, .slice pa n pc]) := ⟨World.grownBy_alloc _ _ none, heap_alloc_last w _⟩
  obtain ⟨l, hl⟩ : ∃ l, l = trT tn es N := ⟨_, rfl⟩
  have HLE : Hid (l = trT tn es N) := hl
  have HAL : Hid (∀ X sa sc kv ev B, AutP B X (.slice sa ks.length sc) ks (elF es) kv ev → Calls Tryz.prog 15 #[.agg #[.slice ta tn tc, .slice na nn nc, .slice la ln lc, .int .i64 st, .slice pa n pc], .agg #[.slice sa N sc, .int .i64 ask, .int .i64 (N : Int)]] X fun e y => TrTold l X e y) := fun X sa sc kv ev B h => by
    rw [hl]
    exact rall_any ta na la pa sa tc nc lc pc sc n N st ask (N : Int) X tn nn ln htn hnn B ks es kv ev hN (by rw [hN]; exact hE.le) h (fun q hq => (hE.each q hq).1) hsy
  rw [← hl]
  clear hBU hl hE hsy hN
  go_enter Tryz.func6, Tryz.ntmps6
  go_wp2_with fail
  refine Calls.mono (HBU.out _ HX0.out.grown) ?_
  rintro e w2 ⟨sa, sc, kv, ev, rfl, hAP, hg2⟩
  obtain ⟨ab, hab⟩ : ∃ b, b = w2.heap.size := ⟨_, rfl⟩
  obtain ⟨W, hW⟩ : ∃ W, W = w2.alloc (.cells #[.slice sa N sc, .int .i64 ask, .int .i64 (N : Int)] 49) := ⟨_, rfl⟩
  have HWE := show Hid _ from hW
  have HBE := show Hid _ from hab
  have hgW : w2.grownBy W none := by rw [hW]; exact World.grownBy_alloc _ _ none
  have HXW : Hid (PhAt w W w.heap.size #[.slice ta tn tc, .slice na nn nc, .slice la ln lc, .int .i64 st, .slice pa n pc]) := HX0.out.kept (grown_trans hg2 hgW)
  have HAW : Hid (W.heap[ab]? = some (.cells #[.slice sa N sc, .int .i64 ask, .int .i64 (N : Int)] 49 (0, 0))) := by rw [hW, hab]; exact heap_alloc_last w2 _
  have HC := show Hid _ from HAL.out W sa sc kv ev _ (hAP.kept hgW)
  obtain ⟨k0, k1, k2, k3, k4⟩ := HXW.out.cells
  have y0 : W.cell? ⟨ab, 0, none⟩ = some (.slice sa N sc) := by rw [cell_of_row _ _ _ _ _ _ HAW.out]; rfl
  have y1 : W.cell? ⟨ab, 1, none⟩ = some (.int .i64 ask) := by rw [cell_of_row _ _ _ _ _ _ HAW.out]; rfl
  have y2 : W.cell? ⟨ab, 2, none⟩ = some (.int .i64 (N : Int)) := by rw [cell_of_row _ _ _ _ _ _ HAW.out]; rfl
  rw [HWE.out] at k0 k1 k2 k3 k4
  rw [HWE.out, HBE.out] at y0 y1 y2
  clear hg2 hAP HX0 hW hab hgW
  go_wp2_with fail
  rw [← HWE.out]
  refine Calls.mono HC.out ?_
  rintro e w3 ⟨a3, c3, rfl, ho3, hg3⟩
  have HG3 : Hid (w.grownBy w3 none) := grown_trans HXW.out.grown hg3
  have HO3 : Hid (w3.ownsRow w.heap.size 39 2 (.slice a3 l.length c3) l.length (itsV l)) := owns_base ho3 HXW.out.grown.size
  obtain ⟨K, hK⟩ : ∃ k, k = l.length := ⟨_, rfl⟩
  have HK : Hid (K = l.length) := hK
  rw [← hK]
  clear hg3 ho3 hK k0 k1 k2 k3 k4 y0 y1 y2
  go_wp2_with fail
  go_ret2
  exact ⟨a3, c3, by rw [← HK.out]; rfl, HO3.out, HG3.out⟩

set_option maxRecDepth 100000 in
set_option maxHeartbeats 4000000 in
theorem rdirectD_ok (N : Nat) (ask : Int) (htn : tn ≤ 65) (hnn : nn ≤ 65) (ks : List (List It)) (es : List (List (Nat × Nat))) (hN : N = ks.length) (hE : EsOK ks es) (hsy : ∀ q, q < ks.length → ∀ x ∈ es.getD q [], x.1 < tn + nn) (l : List It) (hl : l = trT tn es N) (hlb : l.length ≤ 33280)
    (hBU : ∀ X, w.grownBy X none → Calls Tryz.prog 14 #[.agg #[.slice ta tn tc, .slice na nn nc, .slice la ln lc, .int .i64 st, .slice pa n pc]] X fun e y => ∃ sa sc kv ev, e = .returned (.tuple #[.agg #[.slice sa N sc, .int .i64 ask, .int .i64 (N : Int)], .int .i64 0]) ∧ AutP X.heap.size y (.slice sa ks.length sc) ks (elF es) kv ev ∧ X.grownBy y none) :
    Calls Tryz.prog 7 #[.agg #[.slice ta tn tc, .slice na nn nc, .slice la ln lc, .int .i64 st, .slice pa n pc]] w fun e y => DocDir l.length (fun k => dirOf tn st es (l.getD k (0, 0))) w e y := by
  have HBU := show Hid _ from hBU
  have HX0 : Hid (PhAt w (w.alloc (.cells #[.slice ta tn tc, .slice na nn nc, .slice la ln lc, .int .i64 st, .slice pa n pc] 27)) w.heap.size #[.slice ta tn tc, .slice na nn nc, .slice la ln lc, .int .i64 st, .slice pa n pc]) := ⟨World.grownBy_alloc _ _ none, heap_alloc_last w _⟩
  have HAL : Hid (∀ X sa sc kv ev B, AutP B X (.slice sa ks.length sc) ks (elF es) kv ev → Calls Tryz.prog 15 #[.agg #[.slice ta tn tc, .slice na nn nc, .slice la ln lc, .int .i64 st, .slice pa n pc], .agg #[.slice sa N sc, .int .i64 ask, .int .i64 (N : Int)]] X fun e y => TrTold l X e y) := fun X sa sc kv ev B h => by
    rw [hl]
    exact rall_any ta na la pa sa tc nc lc pc sc n N st ask (N : Int) X tn nn ln htn hnn B ks es kv ev hN (by rw [hN]; exact hE.le) h (fun q hq => (hE.each q hq).1) hsy
  have HBH : Hid (∀ X sa sc kv ev B x, AutP B X (.slice sa ks.length sc) ks (elF es) kv ev → x ∈ l → Calls Tryz.prog 16 #[.agg #[.slice ta tn tc, .slice na nn nc, .slice la ln lc, .int .i64 st, .slice pa n pc], .agg #[.slice sa N sc, .int .i64 ask, .int .i64 (N : Int)], .agg #[.int .i64 x.1, .int .i64 x.2]] X fun e y => NumTold (dirOf tn st es x) X e y) := fun X sa sc kv ev B x h hx => by
    rw [hl, hN] at hx
    obtain ⟨q, s, tq, rfl, hq, h1, h2, h3, h4⟩ := hE.trans hx
    have e1 : dirOf tn st es ((q : Int), (s : Int)) = preF ((q : Int) == 0 && (s : Int) == st) ++ dirL tn (es.getD tq []) := by
      unfold dirOf
      rw [h3]; rfl
    rw [e1]
    exact rtbehind_any ta na la pa sa tc nc lc pc sc n N st ask (N : Int) X tn nn ln B ks es kv ev hN hE h q s tq (by rw [hN]; exact hq) h3 (by rw [hN]; exact h4)
  have HDL : Hid (∀ x, (dirOf tn st es x).length ≤ 131) := fun x => dirOf_len hE.short
  obtain ⟨i1, hi1, hy0, hy1, hy2⟩ := info_parts infoIntsT
  have EB : Hid (∀ args w, (callFunc 16 args).run Tryz.prog w = .ok (.enter 16 args) w) := enters_of Tryz.func16 (by kernel_rfl) rfl
  obtain ⟨K, hK⟩ : ∃ k, k = l.length := ⟨_, rfl⟩
  have HK : Hid (K = l.length) := hK
  obtain ⟨Q, hQ⟩ : ∃ Q : Nat → List Int, Q = fun k => dirOf tn st es (l.getD k (0, 0)) := ⟨_, rfl⟩
  have HQ : Hid (Q = fun k => dirOf tn st es (l.getD k (0, 0))) := hQ
  rw [← hK] at hlb
  rw [← hK, ← hQ]
  clear hBU hl hE hsy hN hK hQ
  go_enter Tryz.func7, Tryz.ntmps7
  go_wp2_with fail
  refine Calls.mono (HBU.out _ HX0.out.grown) ?_
  rintro e w2 ⟨sa, sc, kv, ev, rfl, hAP, hg2⟩
  obtain ⟨ab, hab⟩ : ∃ b, b = w2.heap.size := ⟨_, rfl⟩
  obtain ⟨W, hW⟩ : ∃ W, W = w2.alloc (.cells #[.slice sa N sc, .int .i64 ask, .int .i64 (N : Int)] 49) := ⟨_, rfl⟩
  have HWE := show Hid _ from hW
  have HBE := show Hid _ from hab
  have hgW : w2.grownBy W none := by rw [hW]; exact World.grownBy_alloc _ _ none
  have HXW : Hid (PhAt w W w.heap.size #[.slice ta tn tc, .slice na nn nc, .slice la ln lc, .int .i64 st, .slice pa n pc]) := HX0.out.kept (grown_trans hg2 hgW)
  have HAW : Hid (W.heap[ab]? = some (.cells #[.slice sa N sc, .int .i64 ask, .int .i64 (N : Int)] 49 (0, 0))) := by rw [hW, hab]; exact heap_alloc_last w2 _
  have HAC : Hid (∀ Y, W.grownBy Y none → (Y.cell? ⟨w.heap.size, 0, none⟩ = some (.slice ta tn tc) ∧ Y.cell? ⟨w.heap.size, 1, none⟩ = some (.slice na nn nc) ∧ Y.cell? ⟨w.heap.size, 2, none⟩ = some (.slice la ln lc) ∧ Y.cell? ⟨w.heap.size, 3, none⟩ = some (.int .i64 st) ∧ Y.cell? ⟨w.heap.size, 4, none⟩ = some (.slice pa n pc)) ∧ Y.cell? ⟨ab, 0, none⟩ = some (.slice sa N sc) ∧ Y.cell? ⟨ab, 1, none⟩ = some (.int .i64 ask) ∧ Y.cell? ⟨ab, 2, none⟩ = some (.int .i64 (N : Int))) := fun Y hY => by
    have h := box_kept HAW.out hY
    exact ⟨(HXW.out.kept hY).cells, by rw [cell_of_row _ _ _ _ _ _ h]; rfl, by rw [cell_of_row _ _ _ _ _ _ h]; rfl, by rw [cell_of_row _ _ _ _ _ _ h]; rfl⟩
  have HC := show Hid _ from HAL.out W sa sc kv ev _ (hAP.kept hgW)
  have HPW : Hid (∀ Y x, W.grownBy Y none → x ∈ l → Calls Tryz.prog 16 #[.agg #[.slice ta tn tc, .slice na nn nc, .slice la ln lc, .int .i64 st, .slice pa n pc], .agg #[.slice sa N sc, .int .i64 ask, .int .i64 (N : Int)], .agg #[.int .i64 x.1, .int .i64 x.2]] Y fun e y => NumTold (dirOf tn st es x) Y e y) := fun Y x hY hx => HBH.out Y sa sc kv ev _ x (hAP.kept (grown_trans hgW hY)) hx
  obtain ⟨⟨k0, k1, k2, k3, k4⟩, y0, y1, y2⟩ := HAC.out W (grown_refl _ _)
  rw [HWE.out] at k0 k1 k2 k3 k4
  rw [HWE.out, HBE.out] at y0 y1 y2
  clear hg2 hAP HX0 hW hab hgW HAW HBH HAL
  go_wp2_with fail
  rw [← HWE.out, ← HBE.out]
  refine Calls.mono HC.out ?_
  rintro e w3 ⟨a3, c3, rfl, ho3, hg3⟩
  have HG3 : Hid (W.grownBy w3 none) := hg3
  have HI3 : Hid (∀ Y, w3.grownBy Y none → ItsAt Y a3 l) := fun Y hY => (ItsAt.ofT ho3).kept hY
  rw [← HK.out]
  clear hg3 ho3 k0 k1 k2 k3 k4 y0 y1 y2 HWE HBE HC
  go_wp2_with fail
  go_loopg [7, 8] K (fun gk v7 v8 wr => ∃ (k c : Nat) (a : Option Addr) (ua : Nat → Option Addr) (uc : Nat → Nat), k ≤ K ∧ gk = K - k ∧ v8 = .int .i64 k ∧ v7 = .slice a k c ∧ w3.grownBy wr none ∧ wr.ownsRow w3.heap.size 24 1 (.slice a k c) k (lsV ua Q uc k) ∧ ∀ i, i < k → OwnI wr w3.heap.size (ua i) (Q i).length (uc i) (Q i))
  case atStart => exact ⟨0, 0, none, fun _ => none, fun _ => 0, Nat.zero_le _, rfl, rfl, rfl, grown_refl _ _, World.ownsRow_nil _ _ _ _, fun i hi => absurd hi (Nat.not_lt_zero _)⟩
  case round =>
    obtain ⟨k, c, a, ua, uc, hk, hgk, rfl, rfl, hg, ho, hr⟩ := hrel
    have HGK : Hid (gk = K - k) := hgk
    have HG : Hid (w3.grownBy wr none) := hg
    have HO : Hid (wr.ownsRow w3.heap.size 24 1 (.slice a k c) k (lsV ua Q uc k)) := ho
    have HR : Hid (∀ i, i < k → OwnI wr w3.heap.size (ua i) (Q i).length (uc i) (Q i)) := hr
    clear hgk hg ho hr
    by_cases hlt : k < K
    · have hkd : decide (k < K) = true := decide_eq_true hlt
      have hk0 : (0 : Int) ≤ (k : Int) := by omega
      have hk1 : (k : Int) < (K : Int) := by omega
      have hkl : k < l.length := by rw [← HK.out]; exact hlt
      obtain ⟨tb, to_, hta, c0, c1⟩ := (HI3.out wr HG.out).cellAt hkl
      subst hta
      have hmem : l.getD k (0, 0) ∈ l := by rw [List.getD_eq_getElem?_getD, List.getElem?_eq_getElem hkl]; exact List.getElem_mem hkl
      obtain ⟨x, hx⟩ : ∃ x, x = l.getD k (0, 0) := ⟨_, rfl⟩
      have HQK : Hid (Q k = dirOf tn st es x) := by show _ = _; rw [HQ.out, hx]
      rw [← hx] at c0 c1 hmem
      have HDC : Hid (∀ Y, wr.grownBy Y none → Calls Tryz.prog 16 #[.agg #[.slice ta tn tc, .slice na nn nc, .slice la ln lc, .int .i64 st, .slice pa n pc], .agg #[.slice sa N sc, .int .i64 ask, .int .i64 (N : Int)], .agg #[.int .i64 x.1, .int .i64 x.2]] Y fun e y => NumTold (dirOf tn st es x) Y e y) := fun Y hY => HPW.out Y x (grown_trans HG3.out (grown_trans HG.out hY)) hmem
      have hdb := HDL.out x
      obtain ⟨D, hD⟩ : ∃ D, D = dirOf tn st es x := ⟨_, rfl⟩
      rw [← hD] at HDC HQK hdb
      obtain ⟨p, d⟩ := x
      simp only at c0 c1 HDC
      obtain ⟨dl, hdl⟩ : ∃ d, d = D.length := ⟨_, rfl⟩
      have HDLL : Hid (dl = D.length) := hdl
      obtain ⟨⟨k0, k1, k2, k3, k4⟩, y0, y1, y2⟩ := HAC.out wr (grown_trans HG3.out HG.out)
      have HFIN : Hid (∀ (w6 wB : World) (a7 : Option Addr) (c7 : Nat) (v6 : Value), wr.grownBy w6 none → w6.ownsRow wr.heap.size 3 1 (.slice a7 dl c7) dl (intV D) → wB.ownsRow w3.heap.size 24 1 v6 (k + 1) (lsV ua Q uc k ++ [.slice a7 dl c7]) → (w6.alloc (.cells #[.slice a7 dl c7] 24)).grownBy wB (Value.slice a k c).ownBlock → ∃ a8 c8, v6 = .slice a8 (k + 1) c8 ∧ w3.grownBy wB none ∧ wB.ownsRow w3.heap.size 24 1 (.slice a8 (k + 1) c8) (k + 1) (lsV (updL ua k a7) Q (updL uc k c7) (k + 1)) ∧ ∀ i, i < k + 1 → OwnI wB w3.heap.size (updL ua k a7 i) (Q i).length (updL uc k c7 i) (Q i)) := by
        intro w6 wB a7 c7 v6 hg6 ho6 hoB hgB
        obtain ⟨a8, c8, rfl⟩ := owns_cut hoB
        have hgA := grown_trans hg6 (World.grownBy_alloc w6 (.cells #[.slice a7 dl c7] 24) none)
        have hoA := keep0 HO.out hgA
        refine ⟨a8, c8, rfl, grown_owned (grown_trans HG.out hgA) hoA (Nat.le_refl _) hgB, ?_, fun i hi => ?_⟩
        · rw [lsV_snoc, HQK.out, ← HDLL.out]
          exact hoB
        · by_cases e : i = k
          · subst e
            rw [updL_same, updL_same, HQK.out]
            show World.ownsRow _ _ _ _ _ _ _
            rw [← HDLL.out]
            exact owns_base (row_row (keep0 ho6 (World.grownBy_alloc _ _ none)) hoA (by decide) hgB) HG.out.size
          · rw [updL_other _ _ e, updL_other _ _ e]
            exact row_row (keep0 (HR.out i (by omega)) hgA) hoA (by decide) hgB
      have HOW : Hid (∀ Y, wr.grownBy Y none → Y.ownsRow w3.heap.size 24 1 (.slice a k c) k (lsV ua Q uc k)) := fun Y hY => keep0 HO.out hY
      have HBS : Hid (∀ Y, wr.grownBy Y none → w3.heap.size ≤ Y.heap.size) := fun Y hY => Nat.le_trans HG.out.size hY.size
      clear hx hkl hmem hD hdl
      go_wp2_with fail
      go_region_law (first
        | (refine step_call rfl 16 #[.tmp 27, .tmp 28, .tmp 32] #[27, 49, 39] rfl #[.agg #[.slice ta tn tc, .slice na nn nc, .slice la ln lc, .int .i64 st, .slice pa n pc], .agg #[.slice sa N sc, .int .i64 ask, .int .i64 (N : Int)], .agg #[.int .i64 p, .int .i64 d]] (by first | (simp [Act.eval]; done) | simp [Act.eval, Act.put]) EB.out (HDC.out _ (grown_drewN _ 1)) ?_; rintro e w6 ⟨a7, c7, rfl, ho6, hg6⟩; refine ⟨_, rfl, ?_⟩; rw [← HDLL.out] at ho6 ⊢; have HG6 : Hid (wr.grownBy w6 none) := grown_trans (grown_drewN _ 1) hg6; have HO6 : Hid (w6.ownsRow wr.heap.size 3 1 (.slice a7 dl c7) dl (intV D)) := ho6; clear hg6 ho6)
        | (refine step_append_src rfl (.tmp 26) (.tmp 34) 34 rfl w3.heap.size 24 i1 (.slice none 0 0) 1 24 Tryz.underlying34 hi1 hy0 hy1 hy2 rfl (by decide) (.slice a k c) k (lsV ua Q uc k) (by simp [Act.eval]) (HOW.out _ (grown_trans HG6.out (World.grownBy_alloc _ _ none))) (some ⟨w6.heap.size, 0, none⟩) 1 1 [.slice a7 dl c7] (by simp [Act.eval]) (fun h => by cases h) rfl (fun ad e => by cases e; exact World.news_of_block (heap_alloc_last w6 _)) (by simp [Value.oneCell']) (by unfold maxLen; omega) (by omega) (HBS.out _ (grown_trans HG6.out (World.grownBy_alloc _ _ none))) ?_; intro v6 wB hoB hgB; obtain ⟨aB, cB, rfl, z0, z1, z2⟩ := HFIN.out w6 wB a7 c7 v6 HG6.out HO6.out hoB hgB; have HZ0 : Hid (w3.grownBy wB none) := z0; have HZ1 : Hid (wB.ownsRow w3.heap.size 24 1 (.slice aB (k + 1) cB) (k + 1) (lsV (updL ua k a7) Q (updL uc k c7) (k + 1))) := z1; have HZ2 : Hid (∀ i, i < k + 1 → OwnI wB w3.heap.size (updL ua k a7 i) (Q i).length (updL uc k c7 i) (Q i)) := z2; clear z0 z1 z2 hoB hgB)
        | fail)
      all_goals go_wp2_with fail
      all_goals go_roundg (K - (k + 1))
      all_goals first
        | exact ⟨k + 1, cB, aB, _, _, by omega, rfl, by go_num, rfl, HZ0.out, HZ1.out, HZ2.out⟩
        | (have := HGK.out; omega)
    · have hkK : K = k := by omega
      subst hkK
      have hkd : decide (K < K) = false := decide_eq_false (by omega)
      go_wp2_with fail
      go_ret2
      refine ⟨a, c, ua, uc, rfl, ⟨?_, fun i hi => ints_ofT (HR.out i hi)⟩, grown_trans HXW.out.grown (grown_trans HG3.out HG.out)⟩
      by_cases h0 : K = 0
      · exact .inl h0
      · obtain ⟨g, c', he, hc⟩ := owns_at HO.out (by omega)
        simp only [Value.slice.injEq] at he
        exact .inr ⟨g, he.1, fun i hi => hc _ _ (lsV_at ua Q uc hi)⟩
end

end Go.Proofs.YtfcholpleeiddaaGreat.J

/-
  lr0: an automaton that is spoilt, in memory.
-/
namespace Go.Proofs.YtfcholpleeiddaaGreat.J
open Go.RowKit Go.Maps Go.Shelf

/-- A row of one's own, whatever it holds. -/
def Like2 (X : World) (B e : Nat) (v : Value) (n : Nat) : Prop := ∃ xs, X.ownsRow B e 2 v n xs
/-- Each block of cells stays one of its type and size. -/
def Sizes (X Y : World) : Prop := ∀ (b : Nat) (cs : Array Value) (e : TypeId), X.heap[b]? = some (.cells cs e (0, 0)) → ∃ cs', Y.heap[b]? = some (.cells cs' e (0, 0)) ∧ cs'.size = cs.size
theorem Sizes.ofG {X Y : World} (h : X.grownBy Y none) : Sizes X Y := fun _ cs _ hb => ⟨cs, box_kept hb h, rfl⟩
theorem Sizes.trans {X Y Z : World} (h : Sizes X Y) (k : Sizes Y Z) : Sizes X Z := fun b cs e hb => by
  obtain ⟨cs1, h1, h2⟩ := h b cs e hb
  obtain ⟨cs2, h3, h4⟩ := k b cs1 e h1
  exact ⟨cs2, h3, h4.trans h2⟩
theorem Sizes.set (X : World) (g o : Nat) (u : Value) : Sizes X (X.setCell ⟨g, o, none⟩ u) := fun b cs e hb => by
  by_cases h : b = g
  · subst h
    exact ⟨_, heap_setCell_same _ _ _ _ _ _ hb, Array.size_setIfInBounds⟩
  · have hg : X.grownBy (X.setCell ⟨g, o, none⟩ u) (some g) := grown_setCell _ _ _
    exact ⟨cs, (hg.block b (Array.getElem?_eq_some_iff.1 hb).1 (by simpa using h)).trans hb, rfl⟩
theorem Like2.sized {X Y : World} {B e n : Nat} {v : Value} (h : Like2 X B e v n) (hs : Sizes X Y) : Like2 Y B e v n := by
  obtain ⟨xs, h1, h2⟩ := h
  rcases h2 with ⟨rfl, rfl⟩ | ⟨g, cap, cur, rfl, hB, hh, h3, h4, h5, h6⟩
  · exact ⟨xs, h1, .inl ⟨rfl, rfl⟩⟩
  · obtain ⟨cur', h7, h8⟩ := hs g cur e hh
    refine ⟨cur'.toList.take (n * 2), ?_, .inr ⟨g, cap, cur', rfl, hB, h7, h3, h4, by rw [h8]; exact h5, rfl⟩⟩
    have h9 : n * 2 ≤ cap * 2 := Nat.mul_le_mul_right _ h3
    rw [List.length_take, Array.length_toList, h8, h5]
    omega
theorem Like2.at {X : World} {B e n i : Nat} {v : Value} (h : Like2 X B e v n) (hi : i < n) : ∃ g c u0 u1 cur, v = .slice (some ⟨g, 0, none⟩) n c ∧ B ≤ g ∧ X.cell? ⟨g, i * 2, none⟩ = some u0 ∧ X.cell? ⟨g, i * 2 + 1, none⟩ = some u1 ∧ (∀ o, X.frozen? ⟨g, o, none⟩ = false) ∧ X.heap[g]? = some (.cells cur e (0, 0)) := by
  obtain ⟨xs, h1, h2⟩ := h
  rcases h2 with ⟨rfl, rfl⟩ | ⟨g, cap, cur, rfl, hB, hh, h3, h4, h5, h6⟩
  · omega
  · refine ⟨g, cap, cur[i * 2]'(by omega), cur[i * 2 + 1]'(by omega), cur, rfl, hB, ?_, ?_, fun o => frozen_of_row _ _ _ _ _ hh, hh⟩
    · rw [cell_of_row _ _ _ _ _ _ hh, Array.getElem?_eq_getElem]
    · rw [cell_of_row _ _ _ _ _ _ hh, Array.getElem?_eq_getElem]
theorem Like2.cut {X : World} {B e n : Nat} {v : Value} (h : Like2 X B e v n) : ∃ a c, v = .slice a n c := by
  obtain ⟨xs, h1⟩ := h
  exact owns_cut h1

section
variable {P : Program} (w : World)
theorem run_append_like (t ty : TypeId) (base : Nat) (e : TypeId) (i : TypeInfo) (z : Value) (size bytes : Nat) (ht : P.underlying t = some (.slice e)) (hi : P.info? e = some i) (hz : i.zero = some z)
    (hsize : i.size = size) (hby : i.bytes = bytes) (hzs : z.cells.size = size) (hsz : 0 < size)
    (v : Value) (n : Nat) (xs : List Value) (hown : w.ownsRow base e size v n xs)
    (ad : Addr) (m c : Nat) (news : List Value) (hl : news.length = m * size) (hnews : ∀ j u, news[j]? = some u → w.cell? (ad.add j) = some u) (h1 : ∀ u ∈ news, u.oneCell' = true)
    (h63 : n + m ≤ maxLen) (hbytes : ((n + m) + (n + m) / 4 + 192) * bytes ≤ 281474976710656) (hbase : base ≤ w.heap.size) :
    ∃ a' c' w', (Builtin.append_ #[t, t] ty #[v, .slice (some ad) m c]).run P w = .ok (.slice a' (n + m) c') w' ∧ w.grownBy w' v.ownBlock ∧ Sizes w w' := by
  obtain ⟨v', w', hr, h2, h3, _⟩ := run_append_own_wide (P := P) w base t ty e i z size bytes ht hi hz hsize hby hzs hsz v n xs hown ad m c news hl hnews h1 h63 hbytes hbase
  obtain ⟨a', c', rfl⟩ := owns_cut h2
  refine ⟨a', c', w', hr, h3, ?_⟩
  subst hsize
  subst hby
  rcases hown.2 with ⟨rfl, rfl⟩ | ⟨g', cap', cur, rfl, hbg, hg, hnc, hcm, hcs, htake⟩
  · exact Sizes.ofG h3
  · by_cases hroom : n + m ≤ cap'
    · have hfit : n * i.size + news.length ≤ cur.size := by rw [hl, hcs, ← Nat.add_mul]; exact Nat.mul_le_mul_right _ hroom
      have hr2 := run_append_room (P := P) w t ty e i ht hi g' n cap' cur hg ad m c news hl hnews h1 hroom hfit
      rw [hr] at hr2
      simp only [Result.ok.injEq] at hr2
      obtain ⟨_, rfl⟩ := hr2
      intro b cs e2 hb
      by_cases eb : b = g'
      · subst eb
        rw [hg] at hb
        simp only [Option.some.injEq, Obj.cells.injEq] at hb
        obtain ⟨rfl, rfl, _⟩ := hb
        refine ⟨_, setRow_heap w b cur _ _ _ hg, ?_⟩
        simp only [List.size_toArray, List.length_append, List.length_take, List.length_drop, Array.length_toList]
        omega
      · refine ⟨cs, (h3.block b (Array.getElem?_eq_some_iff.1 hb).1 ?_).trans hb, rfl⟩
        simpa [Value.ownBlock] using eb
    · have holds : ∀ j u, xs[j]? = some u → w.cell? ((⟨g', 0, none⟩ : Addr).add j) = some u := hown.cells (g := g') rfl
      have hr2 := run_append_grow (P := P) w t ty e i z ht hi hz ⟨g', 0, none⟩ n cap' xs hown.1 holds ad m c news hl hnews (by omega) (by simp only [maxLen] at h63; omega) (growslice_fits_wide (by omega) hbytes)
      rw [hr] at hr2
      simp only [Result.ok.injEq] at hr2
      obtain ⟨_, rfl⟩ := hr2
      exact Sizes.ofG ⟨rfl, rfl, rfl, by simp, fun k hk _ => Go.heap_alloc_old w.drew _ hk⟩

theorem step_append_like {ops : Array Oper} {o : Oper} {a : Act} {K : Act → World → Prop} {Q : Exit → Act → World → Prop} {E : Prop} (hgd : o.guard = none) (s x : Operand) (t : TypeId)
    (ho : o.op = .call { callee := .builtin .append, args := #[s, x], argTypes := #[t, t] })
    (base : Nat) (e : TypeId) (i : TypeInfo) (z : Value) (size bytes : Nat) (ht : P.underlying t = some (.slice e)) (hi : P.info? e = some i) (hz : i.zero = some z)
    (hsize : i.size = size) (hby : i.bytes = bytes) (hzs : z.cells.size = size) (hsz : 0 < size)
    (v : Value) (n : Nat) (xs : List Value) (hs : a.eval s = v) (hown : w.ownsRow base e size v n xs)
    (ad : Addr) (m c : Nat) (news : List Value) (hx : a.eval x = .slice (some ad) m c) (hl : news.length = m * size) (hnews : ∀ j u, news[j]? = some u → w.cell? (ad.add j) = some u) (h1 : ∀ u ∈ news, u.oneCell' = true)
    (h63 : n + m ≤ maxLen) (hbytes : ((n + m) + (n + m) / 4 + 192) * bytes ≤ 281474976710656) (hbase : base ≤ w.heap.size)
    (h : ∀ a' c' w', w.grownBy w' v.ownBlock → Sizes w w' → K (a.put o.dst (.slice a' (n + m) c')) w') :
    if Region.wanted o (yielded ops a.tmps) = true then Oper.wp P o a w K Q else E := by
  have hw : Region.wanted o (yielded ops a.tmps) = true := by simp [Region.wanted, hgd]
  rw [if_pos hw]
  obtain ⟨a', c', w', hr, h2, h3⟩ := run_append_like (P := P) w t o.type base e i z size bytes ht hi hz hsize hby hzs hsz v n xs hown ad m c news hl hnews h1 h63 hbytes hbase
  unfold Oper.wp execOp
  simp only [ho, resolve, invoke, builtin, Sem.run_bind, Sem.run_pure, Result.andThen_ok, List.map_toArray, List.map_cons, List.map_nil, hs, hx, hr]
  exact h a' c' w' h2 h3
end

theorem spoil_other {X Y : World} {b r : Nat} {cs cs' : Array Value} {t t' : TypeId} (h : X.heap[b]? = some (.cells cs t (0, 0))) (hr : X.heap[r]? = some (.cells cs' t' (0, 0))) (ht : t ≠ t') (hg : X.grownBy Y (some r)) : Y.heap[b]? = some (.cells cs t (0, 0)) := by
  refine (hg.block b (Array.getElem?_eq_some_iff.1 h).1 ?_).trans h
  intro e
  have e2 : b = r := by simpa using e
  subst e2
  rw [h] at hr
  simp only [Option.some.injEq, Obj.cells.injEq] at hr
  exact ht hr.2.1
/-- An automaton while it is spoilt: of the states from ik on the kernels, from ie on the edges, lie as they lay. -/
structure SpAt (w0 X : World) (ab : Nat) (bc : Array Value) (B sb N ik ie : Nat) (kv ev : Nat → Value) (kn en : Nat → Nat) (cur : Array Value) : Prop where
  grown : w0.grownBy X none
  blk : X.heap[sb]? = some (.cells cur 72 (0, 0))
  atK : ∀ j, ik ≤ j → j < N → cur[j * 2]? = some (kv j)
  atE : ∀ j, ie ≤ j → j < N → cur[j * 2 + 1]? = some (ev j)
  ker : ∀ j, ik ≤ j → j < N → Like2 X B 68 (kv j) (kn j)
  edg : ∀ j, ie ≤ j → j < N → Like2 X B 78 (ev j) (en j)
  lo : w0.heap.size ≤ B ∧ B ≤ sb
  box : X.heap[ab]? = some (.cells bc 49 (0, 0))
section
variable {w0 X Y : World} {ab : Nat} {bc : Array Value} {B sb N ik ie : Nat} {kv ev : Nat → Value} {kn en : Nat → Nat} {cur : Array Value}
/-- A block of another type than State, from B on, is turned, its size kept. -/
theorem SpAt.turn {g : Nat} {cs : Array Value} {t : TypeId} (h : SpAt w0 X ab bc B sb N ik ie kv ev kn en cur) (hg : X.grownBy Y (some g)) (hs : Sizes X Y) (hb : X.heap[g]? = some (.cells cs t (0, 0))) (ht : t ≠ 72) (ht2 : t ≠ 49) (hB : B ≤ g) : SpAt w0 Y ab bc B sb N ik ie kv ev kn en cur := by
  refine ⟨grown_new h.grown hg (Nat.le_trans h.lo.1 hB), ?_, h.atK, h.atE, fun j h1 h2 => (h.ker j h1 h2).sized hs, fun j h1 h2 => (h.edg j h1 h2).sized hs, h.lo, spoil_other h.box hb (fun e => ht2 e.symm) hg⟩
  refine (hg.block sb (Array.getElem?_eq_some_iff.1 h.blk).1 ?_).trans h.blk
  intro e
  have e2 : sb = g := by simpa using e
  subst e2
  rw [h.blk] at hb
  simp only [Option.some.injEq, Obj.cells.injEq] at hb
  exact ht hb.2.1.symm
theorem SpAt.kept (h : SpAt w0 X ab bc B sb N ik ie kv ev kn en cur) (hg : X.grownBy Y none) : SpAt w0 Y ab bc B sb N ik ie kv ev kn en cur :=
  ⟨grown_trans h.grown hg, box_kept h.blk hg, h.atK, h.atE, fun j h1 h2 => (h.ker j h1 h2).sized (.ofG hg), fun j h1 h2 => (h.edg j h1 h2).sized (.ofG hg), h.lo, box_kept h.box hg⟩
/-- A row of another type is appended to. -/
theorem SpAt.more {e n : Nat} {v : Value} {xs : List Value} (h : SpAt w0 X ab bc B sb N ik ie kv ev kn en cur) (ho : X.ownsRow B e 2 v n xs) (he : e ≠ 72) (he2 : e ≠ 49) (hg : X.grownBy Y v.ownBlock) (hs : Sizes X Y) : SpAt w0 Y ab bc B sb N ik ie kv ev kn en cur := by
  rcases ho.2 with ⟨rfl, _⟩ | ⟨g, cap, c2, rfl, hB, hh, _⟩
  · exact h.kept hg
  · exact h.turn (g := g) hg hs hh he he2 hB
theorem SpAt.cellK {i : Nat} (h : SpAt w0 X ab bc B sb N ik ie kv ev kn en cur) (h1 : ik ≤ i) (h2 : i < N) : X.cell? ⟨sb, i * 2, none⟩ = some (kv i) := by rw [cell_of_row _ _ _ _ _ _ h.blk]; exact h.atK i h1 h2
theorem SpAt.cellE {i : Nat} (h : SpAt w0 X ab bc B sb N ik ie kv ev kn en cur) (h1 : ie ≤ i) (h2 : i < N) : X.cell? ⟨sb, i * 2 + 1, none⟩ = some (ev i) := by rw [cell_of_row _ _ _ _ _ _ h.blk]; exact h.atE i h1 h2
theorem SpAt.free (h : SpAt w0 X ab bc B sb N ik ie kv ev kn en cur) (o : Nat) : X.frozen? ⟨sb, o, none⟩ = false := frozen_of_row _ _ _ _ _ h.blk
theorem SpAt.setK {i : Nat} {v : Value} (h : SpAt w0 X ab bc B sb N i ie kv ev kn en cur) : SpAt w0 (X.setCell ⟨sb, i * 2, none⟩ v) ab bc B sb N (i + 1) ie kv ev kn en (cur.setIfInBounds (i * 2) v) := by
  refine ⟨grown_new h.grown (grown_setCell _ _ _) (Nat.le_trans h.lo.1 h.lo.2), heap_setCell_same _ _ _ _ _ _ h.blk, fun j h1 h2 => ?_, fun j h1 h2 => ?_, fun j h1 h2 => (h.ker j (by omega) h2).sized (.set _ _ _ _), fun j h1 h2 => (h.edg j h1 h2).sized (.set _ _ _ _), h.lo, spoil_other h.box h.blk (by decide) (grown_setCell _ _ _)⟩
  · rw [Array.getElem?_setIfInBounds_ne (by omega)]; exact h.atK j (by omega) h2
  · rw [Array.getElem?_setIfInBounds_ne (by omega)]; exact h.atE j h1 h2
theorem SpAt.setE {i : Nat} {v : Value} (h : SpAt w0 X ab bc B sb N ik i kv ev kn en cur) : SpAt w0 (X.setCell ⟨sb, i * 2 + 1, none⟩ v) ab bc B sb N ik (i + 1) kv ev kn en (cur.setIfInBounds (i * 2 + 1) v) := by
  refine ⟨grown_new h.grown (grown_setCell _ _ _) (Nat.le_trans h.lo.1 h.lo.2), heap_setCell_same _ _ _ _ _ _ h.blk, fun j h1 h2 => ?_, fun j h1 h2 => ?_, fun j h1 h2 => (h.ker j h1 h2).sized (.set _ _ _ _), fun j h1 h2 => (h.edg j (by omega) h2).sized (.set _ _ _ _), h.lo, spoil_other h.box h.blk (by decide) (grown_setCell _ _ _)⟩
  · rw [Array.getElem?_setIfInBounds_ne (by omega)]; exact h.atK j h1 h2
  · rw [Array.getElem?_setIfInBounds_ne (by omega)]; exact h.atE j (by omega) h2
/-- Two cells of a row are written over. -/
theorem SpAt.over {g o1 o2 : Nat} {u1 u2 : Value} {cs : Array Value} {t : TypeId} (h : SpAt w0 X ab bc B sb N ik ie kv ev kn en cur) (hb : X.heap[g]? = some (.cells cs t (0, 0))) (ht : t ≠ 72) (ht2 : t ≠ 49) (hB : B ≤ g) : SpAt w0 ((X.setCell ⟨g, o1, none⟩ u1).setCell ⟨g, o2, none⟩ u2) ab bc B sb N ik ie kv ev kn en cur :=
  (h.turn (grown_setCell _ _ _) (.set _ _ _ _) hb ht ht2 hB).turn (grown_setCell _ _ _) (.set _ _ _ _) (heap_setCell_same _ _ _ _ _ _ hb) ht ht2 hB
end

end Go.Proofs.YtfcholpleeiddaaGreat.J

/-
  trans: what the law TransExact spoils, in memory.
-/
namespace Go.Proofs.YtfcholpleeiddaaGreat.J
open Go.RowKit Go.Maps Go.Shelf

/-- A row of numbers of one's own, whatever it holds. -/
def Like1 (X : World) (B : Nat) (v : Value) (n : Nat) : Prop := ∃ xs, X.ownsRow B 3 1 v n xs
theorem Like1.sized {X Y : World} {B n : Nat} {v : Value} (h : Like1 X B v n) (hs : Sizes X Y) : Like1 Y B v n := by
  obtain ⟨xs, h1, h2⟩ := h
  rcases h2 with ⟨rfl, rfl⟩ | ⟨g, cap, cur, rfl, hB, hh, h3, h4, h5, h6⟩
  · exact ⟨xs, h1, .inl ⟨rfl, rfl⟩⟩
  · obtain ⟨cur', h7, h8⟩ := hs g cur _ hh
    refine ⟨cur'.toList.take (n * 1), ?_, .inr ⟨g, cap, cur', rfl, hB, h7, h3, h4, by rw [h8]; exact h5, rfl⟩⟩
    rw [List.length_take, Array.length_toList, h8, h5]
    omega
theorem Like1.at {X : World} {B n i : Nat} {v : Value} (h : Like1 X B v n) (hi : i < n) : ∃ g c u0 cur, v = .slice (some ⟨g, 0, none⟩) n c ∧ B ≤ g ∧ X.cell? ⟨g, i, none⟩ = some u0 ∧ (∀ o, X.frozen? ⟨g, o, none⟩ = false) ∧ X.heap[g]? = some (.cells cur 3 (0, 0)) := by
  obtain ⟨xs, h1, h2⟩ := h
  rcases h2 with ⟨rfl, rfl⟩ | ⟨g, cap, cur, rfl, hB, hh, h3, h4, h5, h6⟩
  · omega
  · refine ⟨g, cap, cur[i]'(by omega), cur, rfl, hB, ?_, fun o => frozen_of_row _ _ _ _ _ hh, hh⟩
    rw [cell_of_row _ _ _ _ _ _ hh, Array.getElem?_eq_getElem]

section
variable {P : Program} (w : World)
theorem wpList_append_like {ops : Array Oper} {rest : List Oper} {o : Oper} {a : Act} {Q : Exit → Act → World → Prop} (hgd : o.guard = none) (s x : Operand) (t : TypeId)
    (ho : o.op = .call { callee := .builtin .append, args := #[s, x], argTypes := #[t, t] })
    (base : Nat) (e : TypeId) (i : TypeInfo) (z : Value) (size bytes : Nat) (ht : P.underlying t = some (.slice e)) (hi : P.info? e = some i) (hz : i.zero = some z)
    (hsize : i.size = size) (hby : i.bytes = bytes) (hzs : z.cells.size = size) (hsz : 0 < size)
    (v : Value) (n : Nat) (xs : List Value) (hs : a.eval s = v) (hown : w.ownsRow base e size v n xs)
    (ad : Addr) (m c : Nat) (news : List Value) (hx : a.eval x = .slice (some ad) m c) (hl : news.length = m * size) (hnews : ∀ j u, news[j]? = some u → w.cell? (ad.add j) = some u) (h1 : ∀ u ∈ news, u.oneCell' = true)
    (h63 : n + m ≤ maxLen) (hbytes : ((n + m) + (n + m) / 4 + 192) * bytes ≤ 281474976710656) (hbase : base ≤ w.heap.size)
    (h : ∀ a' c' w', w.grownBy w' v.ownBlock → Sizes w w' → wpList P ops Q rest (a.put o.dst (.slice a' (n + m) c')) w') : wpList P ops Q (o :: rest) a w := by
  refine wpList_plain hgd fun K hK => ?_
  obtain ⟨a', c', w', hr, h2, h3⟩ := run_append_like (P := P) w t o.type base e i z size bytes ht hi hz hsize hby hzs hsz v n xs hown ad m c news hl hnews h1 h63 hbytes hbase
  unfold Oper.wp execOp
  simp only [ho, resolve, invoke, builtin, Sem.run_bind, Sem.run_pure, Result.andThen_ok, List.map_toArray, List.map_cons, List.map_nil, hs, hx, hr]
  exact hK _ _ (h a' c' w' h2 h3)
end

/-- The transitions and the lists while they are spoilt: from k1 and k2 on they are as they were. -/
structure ExT (w0 X : World) (gl rb K k1 k2 : Nat) (l : List It) (Q : Nat → List Int) (ua : Nat → Option Addr) (uc : Nat → Nat) (lcur dcur : Array Value) : Prop where
  grown : w0.grownBy X none
  lb : X.heap[gl]? = some (.cells lcur 39 (0, 0))
  db : X.heap[rb]? = some (.cells dcur 24 (0, 0))
  la : ∀ j, k1 ≤ j → j < K → lcur[j * 2]? = some (.int .i64 (l.getD j (0, 0)).1) ∧ lcur[j * 2 + 1]? = some (.int .i64 (l.getD j (0, 0)).2)
  da : ∀ j, k2 ≤ j → j < K → dcur[j]? = some (.slice (ua j) (Q j).length (uc j))
  rows : ∀ j, k2 ≤ j → j < K → Like1 X w0.heap.size (.slice (ua j) (Q j).length (uc j)) (Q j).length
  lo : w0.heap.size ≤ gl ∧ w0.heap.size ≤ rb
section
variable {w0 X Y : World} {gl rb K k1 k2 : Nat} {l : List It} {Q : Nat → List Int} {ua : Nat → Option Addr} {uc : Nat → Nat} {lcur dcur : Array Value}
theorem ExT.kept (h : ExT w0 X gl rb K k1 k2 l Q ua uc lcur dcur) (hg : X.grownBy Y none) : ExT w0 Y gl rb K k1 k2 l Q ua uc lcur dcur :=
  ⟨grown_trans h.grown hg, box_kept h.lb hg, box_kept h.db hg, h.la, h.da, fun j h1 h2 => (h.rows j h1 h2).sized (.ofG hg), h.lo⟩
theorem ExT.cellL {j : Nat} (h : ExT w0 X gl rb K k1 k2 l Q ua uc lcur dcur) (h1 : k1 ≤ j) (h2 : j < K) : X.cell? ⟨gl, j * 2, none⟩ = some (.int .i64 (l.getD j (0, 0)).1) ∧ X.cell? ⟨gl, j * 2 + 1, none⟩ = some (.int .i64 (l.getD j (0, 0)).2) := by
  rw [cell_of_row _ _ _ _ _ _ h.lb, cell_of_row _ _ _ _ _ _ h.lb]; exact h.la j h1 h2
theorem ExT.cellD {j : Nat} (h : ExT w0 X gl rb K k1 k2 l Q ua uc lcur dcur) (h1 : k2 ≤ j) (h2 : j < K) : X.cell? ⟨rb, j, none⟩ = some (.slice (ua j) (Q j).length (uc j)) := by
  rw [cell_of_row _ _ _ _ _ _ h.db]; exact h.da j h1 h2
theorem ExT.freeL (h : ExT w0 X gl rb K k1 k2 l Q ua uc lcur dcur) (o : Nat) : X.frozen? ⟨gl, o, none⟩ = false := frozen_of_row _ _ _ _ _ h.lb
theorem ExT.freeD (h : ExT w0 X gl rb K k1 k2 l Q ua uc lcur dcur) (o : Nat) : X.frozen? ⟨rb, o, none⟩ = false := frozen_of_row _ _ _ _ _ h.db
/-- A transition is written over. -/
theorem ExT.setL {k : Nat} {u1 u2 : Value} (h : ExT w0 X gl rb K k k2 l Q ua uc lcur dcur) : ExT w0 ((X.setCell ⟨gl, k * 2, none⟩ u1).setCell ⟨gl, k * 2 + 1, none⟩ u2) gl rb K (k + 1) k2 l Q ua uc ((lcur.setIfInBounds (k * 2) u1).setIfInBounds (k * 2 + 1) u2) dcur := by
  have h1 := heap_setCell_same _ _ (k * 2) _ _ u1 h.lb
  have g1 : X.grownBy (X.setCell ⟨gl, k * 2, none⟩ u1) (some gl) := grown_setCell _ _ _
  have g2 : (X.setCell ⟨gl, k * 2, none⟩ u1).grownBy ((X.setCell ⟨gl, k * 2, none⟩ u1).setCell ⟨gl, k * 2 + 1, none⟩ u2) (some gl) := grown_setCell _ _ _
  refine ⟨grown_new (grown_new h.grown g1 h.lo.1) g2 h.lo.1, heap_setCell_same _ _ _ _ _ _ h1, spoil_other (spoil_other h.db h.lb (by decide) g1) h1 (by decide) g2, fun j a1 a2 => ?_, h.da, fun j a1 a2 => (h.rows j a1 a2).sized (.trans (.set _ _ _ _) (.set _ _ _ _)), h.lo⟩
  rw [Array.getElem?_setIfInBounds_ne (by omega), Array.getElem?_setIfInBounds_ne (by omega), Array.getElem?_setIfInBounds_ne (by omega), Array.getElem?_setIfInBounds_ne (by omega)]
  exact h.la j (by omega) a2
/-- A block of numbers from w0's end on is turned, its size kept. -/
theorem ExT.turn {g : Nat} {cs : Array Value} (h : ExT w0 X gl rb K k1 k2 l Q ua uc lcur dcur) (hg : X.grownBy Y (some g)) (hs : Sizes X Y) (hb : X.heap[g]? = some (.cells cs 3 (0, 0))) (hB : w0.heap.size ≤ g) : ExT w0 Y gl rb K k1 k2 l Q ua uc lcur dcur :=
  ⟨grown_new h.grown hg hB, spoil_other h.lb hb (by decide) hg, spoil_other h.db hb (by decide) hg, h.la, h.da, fun j a1 a2 => (h.rows j a1 a2).sized hs, h.lo⟩
theorem ExT.more {n : Nat} {v : Value} {xs : List Value} (h : ExT w0 X gl rb K k1 k2 l Q ua uc lcur dcur) (ho : X.ownsRow w0.heap.size 3 1 v n xs) (hg : X.grownBy Y v.ownBlock) (hs : Sizes X Y) : ExT w0 Y gl rb K k1 k2 l Q ua uc lcur dcur := by
  rcases ho.2 with ⟨rfl, _⟩ | ⟨g, cap, c2, rfl, hB, hh, _⟩
  · exact h.kept hg
  · exact h.turn (g := g) hg hs hh hB
/-- A list is told anew. -/
theorem ExT.setD {k : Nat} {u : Value} (h : ExT w0 X gl rb K k1 k l Q ua uc lcur dcur) : ExT w0 (X.setCell ⟨rb, k, none⟩ u) gl rb K k1 (k + 1) l Q ua uc lcur (dcur.setIfInBounds k u) := by
  have g1 : X.grownBy (X.setCell ⟨rb, k, none⟩ u) (some rb) := grown_setCell _ _ _
  refine ⟨grown_new h.grown g1 h.lo.2, spoil_other h.lb h.db (by decide) g1, heap_setCell_same _ _ _ _ _ _ h.db, h.la, fun j a1 a2 => ?_, fun j a1 a2 => (h.rows j (by omega) a2).sized (.set _ _ _ _), h.lo⟩
  rw [Array.getElem?_setIfInBounds_ne (by omega)]
  exact h.da j (by omega) a2
end

end Go.Proofs.YtfcholpleeiddaaGreat.J
