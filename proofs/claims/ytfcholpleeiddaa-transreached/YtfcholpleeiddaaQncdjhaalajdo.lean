import Derived.Test.YtfcholpleeiddaaQcbngiblnenef
import Derived.Test.YtfcholpleeiddaaQdghkgfeeghci
import Derived.Test.YtfcholpleeiddaaQdolfcfbfcnhl
import Derived.ProofKit
import Derived.OpenShut
import Derived.SliceStrings
import Derived.Deep.Slices
import Derived.SizedLaws
import Derived.Test.YtfcholpleeiddaaRows

/-
  trans: Direct, exported.
-/
namespace Go.Proofs.Ytfcholpleeiddaa.J
open Go.RowKit Go.Maps Go.Shelf

attribute [local go_sem] Oper.semAt_some

theorem trI_mem {tn : Nat} {l : List (Nat × Nat)} {i : Nat} {x : It} (h : x ∈ trI tn l i) : ∃ e ∈ l, tn ≤ e.1 ∧ x = ((i : Int), (e.1 : Int)) := by
  unfold trI at h
  obtain ⟨e, he, rfl⟩ := List.mem_map.1 h
  obtain ⟨h1, h2⟩ := List.mem_filter.1 he
  exact ⟨e, h1, by simpa using h2, rfl⟩
theorem trT_mem {tn : Nat} {es : List (List (Nat × Nat))} : ∀ {i : Nat} {x : It}, x ∈ trT tn es i → ∃ q, q < i ∧ ∃ e ∈ es.getD q [], tn ≤ e.1 ∧ x = ((q : Int), (e.1 : Int))
  | 0, x, h => by cases h
  | i + 1, x, h => by
    rcases List.mem_append.1 h with h | h
    · obtain ⟨q, h1, h2⟩ := trT_mem h
      exact ⟨q, by omega, h2⟩
    · exact ⟨i, Nat.lt_succ_self _, trI_mem h⟩
theorem nextL_some {l : List (Nat × Nat)} {e : Nat × Nat} (h : e ∈ l) : ∃ t : Nat, nextL l (e.1 : Int) = some (t : Int) ∧ ∃ e' ∈ l, e'.1 = e.1 ∧ e'.2 = t := by
  unfold nextL
  cases h1 : l.find? (fun x => decide ((x.1 : Int) = (e.1 : Int))) with
  | none =>
    have := List.find?_eq_none.1 h1 e h
    simp at this
  | some x =>
    have h2 := List.find?_some h1
    refine ⟨x.2, rfl, x, List.mem_of_find?_eq_some h1, ?_, rfl⟩
    have : (x.1 : Int) = (e.1 : Int) := by simpa using h2
    omega
/-- What stands right behind a transition. -/
def dirOf (tn : Nat) (st : Int) (es : List (List (Nat × Nat))) (x : It) : List Int := preF (x.1 == 0 && x.2 == st) ++ dirL tn (es.getD ((leadA es x).getD 0).toNat [])
theorem dirOf_len {tn : Nat} {st : Int} {es : List (List (Nat × Nat))} {x : It} (h : ∀ q, (es.getD q []).length ≤ 130) : (dirOf tn st es x).length ≤ 131 := by
  unfold dirOf
  rw [List.length_append]
  have h1 := preF_len (x.1 == 0 && x.2 == st)
  have h2 := dirL_len tn (es.getD ((leadA es x).getD 0).toNat [])
  have h3 := h ((leadA es x).getD 0).toNat
  omega

/-- What always holds of the edges that are walked. -/
structure EsOK (ks : List (List It)) (es : List (List (Nat × Nat))) : Prop where
  le : ks.length ≤ 256
  len : es.length = ks.length
  each : ∀ q, q < ks.length → (es.getD q []).length ≤ 130 ∧ ((es.getD q []).map Prod.fst).Nodup ∧ ∀ x ∈ es.getD q [], x.1 < 130 ∧ x.2 < ks.length
theorem EsOK.short {ks : List (List It)} {es : List (List (Nat × Nat))} (h : EsOK ks es) (q : Nat) : (es.getD q []).length ≤ 130 := by
  by_cases hq : q < ks.length
  · exact (h.each q hq).1
  · rw [List.getD_eq_getElem?_getD, List.getElem?_eq_none (by rw [h.len]; omega)]; simp
theorem EsOK.lead {ks : List (List It)} {es : List (List (Nat × Nat))} (h : EsOK ks es) {x : It} {v : Int} (hx : leadA es x = some v) : 0 ≤ v ∧ v < (ks.length : Int) := by
  unfold leadA leadT at hx
  split at hx
  · rename_i hc
    obtain ⟨e, he, _, h2⟩ := nextL_mem hx
    have := ((h.each x.1.toNat (by rw [← h.len]; omega)).2.2 e he).2
    omega
  · split at hx
    · simp [nextL] at hx
    · cases hx
theorem EsOK.ok {ks : List (List It)} {es : List (List (Nat × Nat))} (h : EsOK ks es) : LeadOK es := fun x v hx => by
  have := h.lead hx
  have := h.le
  omega
theorem EsOK.trans {ks : List (List It)} {es : List (List (Nat × Nat))} (h : EsOK ks es) {tn : Nat} {x : It} (hx : x ∈ trT tn es ks.length) : ∃ q s tq : Nat, x = ((q : Int), (s : Int)) ∧ q < ks.length ∧ tn ≤ s ∧ s < 130 ∧ leadA es ((q : Int), (s : Int)) = some (tq : Int) ∧ tq < ks.length := by
  obtain ⟨q, hq, e, he, h1, rfl⟩ := trT_mem hx
  obtain ⟨t, h2, e', he', _, h4⟩ := nextL_some he
  have h5 := (h.each q hq).2.2 e' he'
  have h6 := (h.each q hq).2.2 e he
  exact ⟨q, e.1, t, rfl, hq, h1, h6.1, by rw [leadA_at es (by rw [h.len]; exact hq)]; exact h2, by rw [← h4]; exact h5.2⟩

/-- What Direct tells. -/
def DirErr (l : List It) (D : It → List Int) (w : World) (e : Ending) (y : World) : Prop := ∃ (rb : Nat) (ua : Nat → Option Addr) (uc : Nat → Nat), e = .returned (.tuple #[.slice (some ⟨rb, 0, none⟩) l.length l.length, .int .i64 0]) ∧ ValAt y rb l.length 24 (fun k => .slice (ua k) (D (l.getD k (0, 0))).length (uc k)) ∧ (∀ k, k < l.length → y.ownsRow w.heap.size 3 1 (.slice (ua k) (D (l.getD k (0, 0))).length (uc k)) (D (l.getD k (0, 0))).length (intV (D (l.getD k (0, 0))))) ∧ w.grownBy y none

section
variable (ta na la pa : Option Addr) (tc nc lc pc : Nat) (n : Nat) (st : Int) (w : World) (tn nn ln : Nat)
set_option maxRecDepth 100000 in
theorem directX_bad (ec : Int) (hec : ec = 1 ∨ ec = 11) (hO : OfBad ta na la pa tc nc lc pc n st w tn nn ln ec) : Calls Try.prog 13 #[.agg #[.slice ta tn tc, .slice na nn nc, .slice la ln lc, .int .i64 st, .slice pa n pc]] w fun e y => e = .returned (.tuple #[.slice none 0 0, .int .i64 ec]) ∧ w.grownBy y none := by
  have HO : Hid (OfBad ta na la pa tc nc lc pc n st w tn nn ln ec) := hO
  have HX0 : Hid (w.grownBy (w.alloc (.cells #[.slice ta tn tc, .slice na nn nc, .slice la ln lc, .int .i64 st, .slice pa n pc] 27)) none) := World.grownBy_alloc _ _ none
  have hne : (ec != 0) = true := bne_iff_ne.2 (by omega)
  clear hO hec
  go_enter Try.func13, Try.ntmps13
  go_wp2_with fail
  refine Calls.mono (HO.out _ HX0.out) ?_
  rintro e w1 ⟨rfl, hg1⟩
  have HG1 : Hid (w.grownBy w1 none) := grown_trans HX0.out hg1
  clear hg1
  go_wp2_with fail
  go_ret2
  exact ⟨rfl, grown_trans HG1.out (World.grownBy_alloc _ _ none)⟩

/-- direct, of any transition. -/
theorem direct_any (sa : Option Addr) (sc lb B m : Nat) (ks : List (List It)) (es : List (List (Nat × Nat))) (kv ev : Nat → Value) (h : EsOK ks es) (hP : AutP B w (.slice sa ks.length sc) ks (elF es) kv ev) (hL : LdAt w lb m (leadA es)) (x : It) (hx : x ∈ trT tn es ks.length) :
    Calls Try.prog 25 #[.agg #[.slice ta tn tc, .slice na nn nc, .slice la ln lc, .int .i64 st, .slice pa n pc, .slice sa ks.length sc, .map (some lb)], .agg #[.int .i64 x.1, .int .i64 x.2]] w fun e y => NumTold (dirOf tn st es x) w e y := by
  obtain ⟨q, s, tq, rfl, hq, h1, h2, h3, h4⟩ := h.trans hx
  have e1 : dirOf tn st es ((q : Int), (s : Int)) = preF ((q : Int) == 0 && (s : Int) == st) ++ dirL tn (es.getD tq []) := by
    unfold dirOf
    rw [h3]; rfl
  rw [e1]
  by_cases hst : (q : Int) = 0 ∧ (s : Int) = st
  · obtain ⟨hq0, hs⟩ := hst
    obtain rfl : q = 0 := by omega
    subst hs
    have e2 : ((((0 : Nat) : Int) == 0 && (s : Int) == (s : Int))) = true := by simp
    rw [e2]
    exact direct_start ta na la pa sa tc nc lc pc sc n ks.length lb (s : Int) w tn nn ln B m ks es kv ev rfl hP (fun q hq => (h.each q hq).1) hL h.ok tq (WalkArith.wf_i64 ⟨by omega, by omega⟩) h3 h4
  · have e2 : ((q : Int) == 0 && (s : Int) == st) = false := by
      rw [Bool.and_eq_false_iff, beq_eq_false_iff_ne, beq_eq_false_iff_ne]
      by_cases h5 : (q : Int) = 0
      · exact .inr fun h6 => hst ⟨h5, h6⟩
      · exact .inl h5
    rw [e2]
    exact direct_other ta na la pa sa tc nc lc pc sc n ks.length lb st w tn nn ln B m ks es kv ev rfl h.le hP (fun q hq => (h.each q hq).1) hL h.ok q tq (s : Int) hq (WalkArith.wf_i64 ⟨by omega, by omega⟩) h3 h4 hst

set_option maxRecDepth 100000 in
set_option maxHeartbeats 4000000 in
theorem directX_ok (ks : List (List It)) (es : List (List (Nat × Nat))) (h : EsOK ks es) (hO : OfOk ta na la pa tc nc lc pc n st w tn nn ln ks es) : Calls Try.prog 13 #[.agg #[.slice ta tn tc, .slice na nn nc, .slice la ln lc, .int .i64 st, .slice pa n pc]] w fun e y => DirErr (trT tn es ks.length) (dirOf tn st es) w e y := by
  have HO : Hid (OfOk ta na la pa tc nc lc pc n st w tn nn ln ks es) := hO
  have HE : Hid (EsOK ks es) := h
  have HX0 : Hid (w.grownBy (w.alloc (.cells #[.slice ta tn tc, .slice na nn nc, .slice la ln lc, .int .i64 st, .slice pa n pc] 27)) none) := World.grownBy_alloc _ _ none
  have infoInts : (Try.prog.info? 24).map (fun i => (i.zero, i.size, i.bytes)) = some (some (.slice none 0 0), 1, 24) := by kernel_rfl
  obtain ⟨i1, hi1, hy0, hy1, hy2⟩ := info_parts infoInts
  obtain ⟨l, hl⟩ : ∃ l, l = trT tn es ks.length := ⟨_, rfl⟩
  have HLE : Hid (l = trT tn es ks.length) := hl
  rw [← hl]
  clear hO h infoInts hl
  go_enter Try.func13, Try.ntmps13
  go_wp2_with fail
  refine Calls.mono (HO.out _ HX0.out) ?_
  rintro e w1 ⟨sa, sc, kv, ev, lb, m, rfl, hAP, hLd, hg1⟩
  obtain ⟨W, hW⟩ : ∃ W, W = w1.alloc (.cells #[.slice ta tn tc, .slice na nn nc, .slice la ln lc, .int .i64 st, .slice pa n pc, .slice sa ks.length sc, .map (some lb)] 61) := ⟨_, rfl⟩
  obtain ⟨bx, hbx⟩ : ∃ b, b = w1.heap.size := ⟨_, rfl⟩
  have HGW : Hid (w.grownBy W none) := by rw [hW]; exact grown_trans HX0.out (grown_trans hg1 (World.grownBy_alloc _ _ none))
  have HAP : Hid (∀ Y, W.grownBy Y none → ∃ B, AutP B Y (.slice sa ks.length sc) ks (elF es) kv ev) := fun Y hY => ⟨_, hAP.kept (grown_trans (by rw [hW]; exact World.grownBy_alloc _ _ none) hY)⟩
  have HLD : Hid (∀ Y, W.grownBy Y none → LdAt Y lb m (leadA es)) := fun Y hY => hLd.kept (grown_trans (by rw [hW]; exact World.grownBy_alloc _ _ none) hY) (by simp)
  have HBX : Hid (W.heap[bx]? = some (.cells #[.slice ta tn tc, .slice na nn nc, .slice la ln lc, .int .i64 st, .slice pa n pc, .slice sa ks.length sc, .map (some lb)] 61 (0, 0))) := by rw [hW, hbx]; exact heap_alloc_last w1 _
  have HTR : Hid (Calls Try.prog 24 #[.agg #[.slice ta tn tc, .slice na nn nc, .slice la ln lc, .int .i64 st, .slice pa n pc, .slice sa ks.length sc, .map (some lb)]] W fun e y => TrTold (trT tn es ks.length) W e y) := by
    obtain ⟨B, hB⟩ := HAP.out W (grown_refl _ _)
    exact trans_any ta na la pa sa tc nc lc pc sc n ks.length lb st W tn nn ln B ks es kv ev rfl HE.out.le hB (fun q hq => (HE.out.each q hq).1)
  have HDI : Hid (∀ Y x, W.grownBy Y none → x ∈ trT tn es ks.length → Calls Try.prog 25 #[.agg #[.slice ta tn tc, .slice na nn nc, .slice la ln lc, .int .i64 st, .slice pa n pc, .slice sa ks.length sc, .map (some lb)], .agg #[.int .i64 x.1, .int .i64 x.2]] Y fun e y => NumTold (dirOf tn st es x) Y e y) := fun Y x hY hx => by
    obtain ⟨B, hB⟩ := HAP.out Y hY
    exact direct_any ta na la pa tc nc lc pc n st Y tn nn ln sa sc lb B m ks es kv ev HE.out hB (HLD.out Y hY) x hx
  have HWE := show Hid _ from hW
  have HBE := show Hid _ from hbx
  have hlb : l.length ≤ 33280 := by
    rw [HLE.out]
    have h1 := trT_len (tn := tn) (c := 130) ks.length (fun q hq => (HE.out.each q hq).1)
    have h2 : ks.length * 130 ≤ 256 * 130 := Nat.mul_le_mul_right _ HE.out.le
    omega
  rw [← HLE.out] at HTR HDI
  obtain ⟨N, hN⟩ : ∃ n, n = ks.length := ⟨_, rfl⟩
  rw [← hN] at HBX HTR HDI HWE ⊢
  clear hg1 hAP hLd hW hbx hN HAP HLD HE HLE
  go_wp2_with fail
  rw [← HWE.out, ← HBE.out]
  refine Calls.mono HTR.out ?_
  rintro e w2 ⟨a2, c2, rfl, ho2, hg2⟩
  have HG2 : Hid (W.grownBy w2 none) := hg2
  have HI2 : Hid (∀ Y, w2.grownBy Y none → ItsAt Y a2 l) := fun Y hY => (ItsAt.ofT ho2).kept hY
  obtain ⟨K, hK⟩ : ∃ k, k = l.length := ⟨_, rfl⟩
  have HK : Hid (K = l.length) := hK
  rw [← hK] at hlb ⊢
  clear hg2 ho2 HTR HWE HBE hK
  go_wp2_with (at_make; refine wpList_make_full _ rfl _ _ 42 rfl w2.heap.size 24 i1 (.slice none 0 0) 1 Try.underlying42 hi1 hy0 hy1 .i64 .i64 _ _ K rfl rfl (by simp) (by simp) (by rw [hy2]; omega) (by unfold maxLen; omega) (by simp) ?_)
  intro P hown hgrow
  have hval : ValAt P w2.heap.size K 24 (fun _ => .slice none 0 0) := made_rowK (B := w2.heap.size) rfl (by simpa [Value.cells] using hown)
  obtain ⟨rb, hrb⟩ : ∃ rb, rb = w2.heap.size := ⟨_, rfl⟩
  rw [← hrb] at hval
  rw [← hrb]
  have HGP : Hid (W.grownBy P none) := grown_trans HG2.out hgrow
  have HIP : Hid (∀ Y, P.grownBy Y none → ItsAt Y a2 l) := fun Y hY => HI2.out Y (grown_trans hgrow hY)
  have HVP : Hid (ValAt P rb K 24 (fun _ => .slice none 0 0)) := hval
  have HRL : Hid (W.heap.size ≤ rb) := by show _ ≤ _; rw [hrb]; exact HG2.out.size
  have HRI : Hid (∀ Y, w2.grownBy Y none → ItsAt Y a2 l) := HI2.out
  have HW2 : Hid (w2.heap.size ≤ rb) := by show _ ≤ _; omega
  have HWP : Hid (w2.grownBy P none) := hgrow
  clear hown hgrow hval hrb HI2
  go_wp2_with fail
  go_loopg [25] K (fun gk v25 wr => ∃ (k : Nat) (ua : Nat → Option Addr) (uc : Nat → Nat), k ≤ K ∧ gk = K - k ∧ v25 = .int .i64 k ∧ w2.grownBy wr none ∧ ValAt wr rb K 24 (fun i => if i < k then .slice (ua i) (dirOf tn st es (l.getD i (0, 0))).length (uc i) else .slice none 0 0) ∧ ∀ i, i < k → wr.ownsRow w.heap.size 3 1 (.slice (ua i) (dirOf tn st es (l.getD i (0, 0))).length (uc i)) (dirOf tn st es (l.getD i (0, 0))).length (intV (dirOf tn st es (l.getD i (0, 0)))))
  case atStart => exact ⟨0, fun _ => none, fun _ => 0, Nat.zero_le _, rfl, rfl, HWP.out, HVP.out.ext (fun i _ => by rw [if_neg (by omega)]), fun i hi => absurd hi (Nat.not_lt_zero _)⟩
  case round =>
    obtain ⟨k, ua, uc, hk, hgk, rfl, hg, hv, hr⟩ := hrel
    have HGK : Hid (gk = K - k) := hgk
    have HG : Hid (w2.grownBy wr none) := hg
    have HV : Hid (ValAt wr rb K 24 (fun i => if i < k then .slice (ua i) (dirOf tn st es (l.getD i (0, 0))).length (uc i) else .slice none 0 0)) := hv
    have HR := show Hid _ from hr
    clear hgk hg hv hr
    by_cases hlt : k < K
    · have hkd : decide (k < K) = true := decide_eq_true hlt
      have hk0 : (0 : Int) ≤ (k : Int) := by omega
      have hk1 : (k : Int) < (K : Int) := by omega
      have hkl : k < l.length := by rw [← HK.out]; exact hlt
      obtain ⟨tb, to_, hta, c0, c1⟩ := (HRI.out wr HG.out).cellAt hkl
      subst hta
      have hmem : l.getD k (0, 0) ∈ l := by rw [List.getD_eq_getElem?_getD, List.getElem?_eq_getElem hkl]; exact List.getElem_mem hkl
      obtain ⟨x, hx⟩ : ∃ x, x = l.getD k (0, 0) := ⟨_, rfl⟩
      have HX : Hid (x = l.getD k (0, 0)) := hx
      rw [← hx] at c0 c1 hmem
      have HD := show Hid _ from HDI.out (wr.alloc (.cells #[.int .i64 x.1, .int .i64 x.2] 58)) x (grown_trans HG2.out (grown_trans HG.out (World.grownBy_alloc _ _ none))) hmem
      obtain ⟨k0, k1, k2, k3, k4, k5, k6⟩ := cells7 (box_kept HBX.out (grown_trans HG2.out (grown_trans HG.out (World.grownBy_alloc wr (.cells #[.int .i64 x.1, .int .i64 x.2] 58) none))))
      clear hx hmem hkl
      obtain ⟨p, d⟩ := x
      simp only at c0 c1 HD k0 k1 k2 k3 k4 k5 k6
      go_wp2_with fail
      refine Calls.mono HD.out ?_
      rintro e w5 ⟨a5, c5, rfl, ho5, hg5⟩
      have HG5 : Hid (w2.grownBy w5 none) := grown_trans HG.out (grown_trans (World.grownBy_alloc _ _ none) hg5)
      have HV5 : Hid (ValAt w5 rb K 24 (fun i => if i < k then .slice (ua i) (dirOf tn st es (l.getD i (0, 0))).length (uc i) else .slice none 0 0)) := HV.out.kept (grown_trans (World.grownBy_alloc _ _ none) hg5)
      have y0 := HV5.out.cell k hlt
      rw [if_neg (by omega)] at y0
      have f0 := HV5.out.free k
      obtain ⟨dl, hdl⟩ : ∃ m, m = (dirOf tn st es (p, d)).length := ⟨_, rfl⟩
      have HNX : Hid (∃ (ua' : Nat → Option Addr) (uc' : Nat → Nat), w2.grownBy (w5.setCell ⟨rb, k, none⟩ (.slice a5 dl c5)) none ∧ ValAt (w5.setCell ⟨rb, k, none⟩ (.slice a5 dl c5)) rb K 24 (fun i => if i < k + 1 then .slice (ua' i) (dirOf tn st es (l.getD i (0, 0))).length (uc' i) else .slice none 0 0) ∧ ∀ i, i < k + 1 → (w5.setCell ⟨rb, k, none⟩ (.slice a5 dl c5)).ownsRow w.heap.size 3 1 (.slice (ua' i) (dirOf tn st es (l.getD i (0, 0))).length (uc' i)) (dirOf tn st es (l.getD i (0, 0))).length (intV (dirOf tn st es (l.getD i (0, 0))))) := by
        have hgs : w5.grownBy (w5.setCell ⟨rb, k, none⟩ (.slice a5 dl c5)) (some rb) := grown_setCell _ _ _
        refine ⟨updL ua k a5, updL uc k c5, grown_new HG5.out hgs HW2.out, (HV5.out.set k _).ext (fun i _ => ?_), fun i hi => ?_⟩
        · unfold put
          by_cases e : i = k
          · subst e
            rw [if_pos rfl, if_pos (by omega), updL_same, updL_same, hdl, HX.out]
          · rw [if_neg e, updL_other _ _ e, updL_other _ _ e]
            simp only
            by_cases e2 : i < k
            · rw [if_pos e2, if_pos (by omega)]
            · rw [if_neg e2, if_neg (by omega)]
        · by_cases e : i = k
          · subst e
            rw [updL_same, updL_same, ← HX.out]
            have h9 := owns_base ho5 (B' := w.heap.size) (Nat.le_trans HGW.out.size (grown_trans HG2.out (grown_trans HG.out (World.grownBy_alloc _ _ none))).size)
            exact h9.kept hgs (owns_nebox h9 HV5.out (by decide))
          · rw [updL_other _ _ e, updL_other _ _ e]
            have h9 := keep0 (HR.out i (by omega)) (grown_trans (World.grownBy_alloc wr (.cells #[.int .i64 p, .int .i64 d] 58) none) hg5)
            exact h9.kept hgs (owns_nebox h9 HV5.out (by decide))
      rw [← hdl]
      clear ho5 hg5 hdl k0 k1 k2 k3 k4 k5 k6 c0 c1 HD
      go_wp2_with fail
      go_roundg (K - (k + 1))
      case measure => have := HGK.out; omega
      case rel =>
        obtain ⟨ua', uc', h1, h2, h3⟩ := HNX.out
        exact ⟨k + 1, ua', uc', by omega, rfl, by go_num, h1, h2, h3⟩
    · have hkK : K = k := by omega
      subst hkK
      have hkd : decide (K < K) = false := decide_eq_false (by omega)
      go_wp2_with fail
      go_ret2
      exact ⟨rb, ua, uc, by rw [← HK.out]; rfl, by rw [← HK.out]; exact HV.out.ext (fun i hi => by rw [if_pos hi]), fun i hi => HR.out i (by rw [HK.out]; exact hi), grown_trans HGW.out (grown_trans HG2.out HG.out)⟩
end

end Go.Proofs.Ytfcholpleeiddaa.J

/-
  trans: automatonOf of any grammar; the law's awake.
-/
namespace Go.Proofs.Ytfcholpleeiddaa.J
open Go.RowKit Go.Maps Go.Shelf

attribute [local go_sem] Oper.semAt_some

theorem esOK_of {G : List It → Nat → List It} {n : Nat} {R : Nat → List Int} {S : Nat} {ks : List (List It)} {es : List (List (Nat × Nat))} (h : AutF G n R S ks es) (hS : S ≤ 130) : EsOK ks es :=
  ⟨h.kok.le, h.len, fun q hq => ⟨by rw [h.elen hq]; exact Nat.le_trans (symsT_len _ _) hS, by rw [h.fst q hq]; exact symsT_nodup _ _, fun x hx => by
    have := h.snd q hq x hx
    omega⟩⟩

section
variable (ta na la pa : Option Addr) (tc nc lc pc : Nat) (ts : List (ByteArray × Int)) (ns : List ByteArray) (lv : List Int) (n : Nat) (L : Nat → Int) (R : Nat → List Int) (ra : Nat → Option Addr) (rc : Nat → Nat) (V : Nat → Int) (st : Int) (w : World) (tn nn ln : Nat) (hlen : ts.length = tn ∧ ns.length = nn ∧ lv.length = ln) (hG : GAt w ta na la pa tc nc lc pc ts ns lv n L R ra rc V)
include hlen hG
theorem ofBad1 (hc : ¬ closedOK ts ns lv st n L R V) : OfBad ta na la pa tc nc lc pc n st w tn nn ln 1 := fun X hX =>
  of_bad ta na la pa tc nc lc pc n st X tn nn ln 1 (.inl rfl) fun Y hY => buildBad ta na la pa tc nc lc pc ts ns lv n L R ra rc V st Y tn nn ln hlen (hG.kept (grown_trans hX hY)) hc
theorem ofBad11 (hc : closedOK ts ns lv st n L R V) (h : autoF (GG tn n L R) (tn + nn) 256 = none) : OfBad ta na la pa tc nc lc pc n st w tn nn ln 11 := fun X hX =>
  of_bad ta na la pa tc nc lc pc n st X tn nn ln 11 (.inr rfl) fun Y hY => build_none ta na la pa tc nc lc pc ts ns lv n L R ra rc V st w tn nn ln hlen hG hc h Y (grown_trans hX hY)
theorem ofOk (hc : closedOK ts ns lv st n L R V) {ks : List (List It)} {es : List (List (Nat × Nat))} (h : autoF (GG tn n L R) (tn + nn) 256 = some (ks, es)) : OfOk ta na la pa tc nc lc pc n st w tn nn ln ks es ∧ EsOK ks es := by
  have hM : MayOK tn nn n st L R true := by obtain ⟨rfl, rfl, rfl⟩ := hlen; exact mayOK_closed hc
  have hE : EsOK ks es := esOK_of (autF hM.p0 h) (by have := hM.tmax; have := hM.nmax; omega)
  refine ⟨fun X hX => of_ok ta na la pa tc nc lc pc n st X tn nn ln (askN es) ks es hE.le hE.len (fun q hq => ⟨(hE.each q hq).1, (hE.each q hq).2.1, fun x hx => by have := (hE.each q hq).2.2 x hx; have := hE.le; omega⟩) fun Y hY => ?_, hE⟩
  refine (build_some ta na la pa tc nc lc pc ts ns lv n L R ra rc V st w tn nn ln hlen hG hc h Y (grown_trans hX hY)).mono ?_
  rintro e y ⟨sa, sc, kv, ev, he, hAP, hg⟩
  exact ⟨sa, sc, kv, ev, he, hAP.base hY.size, hg⟩
end

theorem k_ggT : autoF (GG 3 3 kL kR) 5 256 = some (kKs, kEs) := by
  have h : ∀ k ∈ kKs, IsClo 3 3 kL kR k (CLo 3 3 kL kR k) := fun k hk => by
    have h1 := k_clo k hk
    rw [CLo_eq h1 (by
      simp only [kKs, List.mem_cons, List.not_mem_nil, or_false] at hk
      rcases hk with rfl | rfl | rfl | rfl | rfl <;> decide)]
    exact h1
  exact k_auto h
theorem k_trT : trT 3 kEs 5 = [(0, 4)] := by decide
theorem k_way : wayF kEs (some 0) [4, 1, 2] = some 4 := by decide
theorem k_dir : dirOf 3 4 kEs (0, 4) = [0, 1] := by decide

set_option maxRecDepth 100000 in
set_option maxHeartbeats 2000000 in
theorem awake_any (w : World) : Calls Try.prog 5 #[] w fun e w' => e = .returned (.bool true) ∧ w.grownBy w' none := by
  have hE : ∀ X : World, (binOp .eql 58 (.agg #[.int .i64 0, .int .i64 4]) (.agg #[.int .i64 0, .int .i64 4])).run Try.prog X = .ok (.bool true) X := fun X => eq_trans 0 4 0 4 X
  go_enter Try.func5, Try.ntmps5
  go_wp2_with fail
  refine Calls.mono (small_any w) ?_
  rintro e w1 ⟨b1, b2, b6, ra, rc, rfl, hG1, hg1⟩
  obtain ⟨hOf, hEs⟩ := ofOk (some ⟨b1, 0, none⟩) (some ⟨b2, 0, none⟩) none (some ⟨b6, 0, none⟩) 3 2 0 3 kTs kNs [] 3 kL kR ra rc (fun _ => 0) 4 w1 3 2 0 ⟨rfl, rfl, rfl⟩ hG1 k_closed k_ggT
  have HOF : Hid (OfOk (some ⟨b1, 0, none⟩) (some ⟨b2, 0, none⟩) none (some ⟨b6, 0, none⟩) 3 2 0 3 3 4 w1 3 2 0 kKs kEs) := hOf
  have HES : Hid (EsOK kKs kEs) := hEs
  have HOX : Hid (∀ X, w1.grownBy X none → OfOk (some ⟨b1, 0, none⟩) (some ⟨b2, 0, none⟩) none (some ⟨b6, 0, none⟩) 3 2 0 3 3 4 X 3 2 0 kKs kEs) := fun X hX Y hY => HOF.out Y (grown_trans hX hY)
  have HLI : Hid (∀ X, w1.grownBy X none → Calls Try.prog 12 #[.agg #[.slice (some ⟨b1, 0, none⟩) 3 3, .slice (some ⟨b2, 0, none⟩) 2 2, .slice none 0 0, .int .i64 4, .slice (some ⟨b6, 0, none⟩) 3 3]] X fun e y => ∃ g c, e = .returned (.tuple #[.slice (some ⟨g, 0, none⟩) 1 c, .int .i64 0]) ∧ y.cell? ⟨g, 0, none⟩ = some (.int .i64 0) ∧ y.cell? ⟨g, 1, none⟩ = some (.int .i64 4) ∧ X.grownBy y none) := fun X hX => by
    refine (listX_ok _ _ _ _ _ _ _ _ 3 4 X 3 2 0 kKs kEs HES.out.le (fun q hq => (HES.out.each q hq).1) (HOX.out X hX)).mono ?_
    rintro e y ⟨a, c, rfl, ho, hg⟩
    have e1 : trT 3 kEs kKs.length = [(0, 4)] := k_trT
    rw [e1] at ho ⊢
    obtain ⟨g, c2, he, hcell⟩ := owns_at ho (by decide)
    simp only [Value.slice.injEq] at he
    obtain ⟨rfl, _, rfl⟩ := he
    exact ⟨g, c, rfl, hcell 0 _ rfl, hcell 1 _ rfl, hg⟩
  have HWA : Hid (∀ X b, w1.grownBy X none → IntsAt X (some ⟨b, 0, none⟩) [4, 1, 2] → Calls Try.prog 7 #[.agg #[.slice (some ⟨b1, 0, none⟩) 3 3, .slice (some ⟨b2, 0, none⟩) 2 2, .slice none 0 0, .int .i64 4, .slice (some ⟨b6, 0, none⟩) 3 3], .int .i64 0, .slice (some ⟨b, 0, none⟩) 3 3] X fun e y => e = .returned (.tuple #[.int .i64 4, .int .i64 0]) ∧ X.grownBy y none) := fun X b hX hI => by
    have h := walkX_ok _ _ _ _ 3 2 0 3 3 4 X 3 2 0 kKs kEs (by decide) (by decide) HES.out.le HES.out.ok (HOX.out X hX) 0 (by decide) (some ⟨b, 0, none⟩) 3 [4, 1, 2] hI (by decide) (by decide)
    have e1 : wayV (wayF kEs (some ((0 : Nat) : Int)) [4, 1, 2]) = 4 := by rw [show ((0 : Nat) : Int) = 0 from rfl, k_way]; rfl
    rw [e1] at h
    exact h
  have HDI : Hid (∀ X, w1.grownBy X none → Calls Try.prog 13 #[.agg #[.slice (some ⟨b1, 0, none⟩) 3 3, .slice (some ⟨b2, 0, none⟩) 2 2, .slice none 0 0, .int .i64 4, .slice (some ⟨b6, 0, none⟩) 3 3]] X fun e y => ∃ rb a c, e = .returned (.tuple #[.slice (some ⟨rb, 0, none⟩) 1 1, .int .i64 0]) ∧ y.cell? ⟨rb, 0, none⟩ = some (.slice a 2 c) ∧ X.grownBy y none) := fun X hX => by
    refine (directX_ok _ _ _ _ 3 2 0 3 3 4 X 3 2 0 kKs kEs HES.out (HOX.out X hX)).mono ?_
    rintro e y ⟨rb, ua, uc, rfl, hv, _, hg⟩
    have e1 : trT 3 kEs kKs.length = [(0, 4)] := k_trT
    rw [e1] at hv ⊢
    have h1 := hv.cell 0 (by decide)
    rw [show ([((0 : Int), (4 : Int))] : List It).getD 0 (0, 0) = (0, 4) from rfl, k_dir] at h1
    exact ⟨rb, ua 0, uc 0, rfl, h1, hg⟩
  obtain ⟨gb, hgb⟩ : ∃ gb, gb = w1.heap.size := ⟨_, rfl⟩
  obtain ⟨X1, hX1⟩ : ∃ X1, X1 = w1.alloc (.cells #[.slice (some ⟨b1, 0, none⟩) 3 3, .slice (some ⟨b2, 0, none⟩) 2 2, .slice none 0 0, .int .i64 4, .slice (some ⟨b6, 0, none⟩) 3 3] 27) := ⟨_, rfl⟩
  have HP1 : Hid (PhAt w1 X1 gb #[.slice (some ⟨b1, 0, none⟩) 3 3, .slice (some ⟨b2, 0, none⟩) 2 2, .slice none 0 0, .int .i64 4, .slice (some ⟨b6, 0, none⟩) 3 3]) := ⟨by rw [hX1]; exact World.grownBy_alloc _ _ none, by rw [hX1, hgb]; exact heap_alloc_last w1 _⟩
  have HGW : Hid (w.grownBy w1 none) := hg1
  have HXE := show Hid _ from hX1
  have HGE := show Hid _ from hgb
  clear hG1 hg1 hX1 hgb hOf hEs HOF HOX HES
  go_wp2_with fail
  rw [← HXE.out, ← HGE.out]
  refine Calls.mono (HLI.out X1 HP1.out.grown) ?_
  rintro e w2 ⟨g2, c2, rfl, r0, r1, hg2⟩
  have HP2 : Hid (PhAt w1 w2 gb #[.slice (some ⟨b1, 0, none⟩) 3 3, .slice (some ⟨b2, 0, none⟩) 2 2, .slice none 0 0, .int .i64 4, .slice (some ⟨b6, 0, none⟩) 3 3]) := HP1.out.kept hg2
  clear hg2 HP1 HXE HGE HLI
  obtain ⟨k0, k1, k2, k3, k4⟩ := HP2.out.cells
  have HWC : Hid (Calls Try.prog 7 #[.agg #[.slice (some ⟨b1, 0, none⟩) 3 3, .slice (some ⟨b2, 0, none⟩) 2 2, .slice none 0 0, .int .i64 4, .slice (some ⟨b6, 0, none⟩) 3 3], .int .i64 0, .slice (some ⟨w2.heap.size, 0, none⟩) 3 3] (w2.alloc (.cells #[.int .i64 4, .int .i64 1, .int .i64 2] 3)) fun e y => e = .returned (.tuple #[.int .i64 4, .int .i64 0]) ∧ (w2.alloc (.cells #[.int .i64 4, .int .i64 1, .int .i64 2] 3)).grownBy y none) := HWA.out _ _ (grown_trans HP2.out.grown (World.grownBy_alloc _ _ none)) (.inr ⟨w2.heap.size, 0, rfl, fun i hi => by
    have h2 : i = 0 ∨ i = 1 ∨ i = 2 := by simp at hi; omega
    rcases h2 with rfl | rfl | rfl <;> (rw [cell_of_row _ _ _ _ _ _ (heap_alloc_last w2 _)]; rfl)⟩)
  go_wp2_with fail
  refine Calls.mono HWC.out ?_
  rintro e w3 ⟨rfl, hg3⟩
  have HP3 : Hid (PhAt w1 w3 gb #[.slice (some ⟨b1, 0, none⟩) 3 3, .slice (some ⟨b2, 0, none⟩) 2 2, .slice none 0 0, .int .i64 4, .slice (some ⟨b6, 0, none⟩) 3 3]) := HP2.out.kept (grown_trans (World.grownBy_alloc _ _ none) hg3)
  have r0' := hg3.cell ((World.grownBy_alloc w2 (.cells #[.int .i64 4, .int .i64 1, .int .i64 2] 3) none).cell r0 (by simp)) (by simp)
  have r1' := hg3.cell ((World.grownBy_alloc w2 (.cells #[.int .i64 4, .int .i64 1, .int .i64 2] 3) none).cell r1 (by simp)) (by simp)
  clear hg3 HP2 HWC HWA k0 k1 k2 k3 k4 r0 r1
  obtain ⟨k0, k1, k2, k3, k4⟩ := HP3.out.cells
  go_wp2_with fail
  refine Calls.mono (HDI.out w3 HP3.out.grown) ?_
  rintro e w4 ⟨rb, a4, c4, rfl, y0, hg4⟩
  have q0 := hg4.cell r0' (by simp)
  have q1 := hg4.cell r1' (by simp)
  have HG4 : Hid (w.grownBy w4 none) := grown_trans HGW.out (grown_trans HP3.out.grown hg4)
  clear hg4 HP3 HDI k0 k1 k2 k3 k4 r0' r1' HGW
  go_wp2_with fail
  go_ret
  exact ⟨rfl, HG4.out⟩

end Go.Proofs.Ytfcholpleeiddaa.J

/-
  A grammar that came in, as the walks take it.
-/
namespace Go.Proofs.Ytfcholpleeiddaa
open Go.ChangeShapes Go.WideShapes Go.ChangeAt Go.RowKit Go.Deep

theorem cellsInt : Try.prog.cellsOf 3 = 1 := by kernel_rfl
theorem cellsStr : Try.prog.cellsOf 9 = 1 := by kernel_rfl
theorem cellsInts : Try.prog.cellsOf 24 = 1 := by kernel_rfl
theorem cellsTerm : Try.prog.cellsOf 73 = 2 := by kernel_rfl
theorem cellsProd : Try.prog.cellsOf 75 = 3 := by kernel_rfl
theorem cellsTerms : Try.prog.cellsOf 22 = 1 := by kernel_rfl
theorem cellsStrs : Try.prog.cellsOf 23 = 1 := by kernel_rfl
theorem cellsProds : Try.prog.cellsOf 25 = 1 := by kernel_rfl
theorem cellsGram : Try.prog.cellsOf 27 = 5 := by kernel_rfl
theorem bytesInt : Try.prog.bytesOf 3 = 8 := by kernel_rfl
theorem bytesStr : Try.prog.bytesOf 9 = 16 := by kernel_rfl
theorem bytesTerm : Try.prog.bytesOf 73 = 24 := by kernel_rfl
theorem bytesProd : Try.prog.bytesOf 75 = 40 := by kernel_rfl

theorem weights_mem_all {H : Type} {P : Program} {e : TypeId} {d : DataW H} : ∀ {l : List (DataW H)}, d ∈ l → ∀ n ∈ d.weights P e, n ∈ DataW.weightsAll P e l
  | d0 :: l, hd, n, hn => by
    simp only [DataW.weightsAll, List.mem_append]
    rcases List.mem_cons.1 hd with rfl | h
    · exact .inl hn
    · exact .inr (weights_mem_all h n hn)

theorem ints_of_open {W : World} {x : Addr} {len cap : Nat} {zs : List Int} (hl : len ≤ cap) (hz : zs.length = cap) (hc : ∀ i, i < zs.length → W.cell? (x.add i) = some (.int .i64 (zs.getD i 0))) :
    IntsAt W (some x) (zs.take len) := by
  by_cases h0 : len = 0
  · subst h0; exact .inl (by simp)
  · obtain ⟨b, off, spot⟩ := x
    have h1 := hc 0 (by omega)
    have hs : spot = none := by simpa [Addr.add] using World.cell?_spot h1
    subst hs
    refine .inr ⟨b, off, rfl, fun i hi => ?_⟩
    have hi' : i < len := by simp at hi; omega
    have h2 := hc i (by omega)
    rw [Addr.add_mid] at h2
    rw [h2]
    congr 2
    simp [List.getD, hi']
theorem strs_of_open {W : World} {x : Addr} {len cap : Nat} {zs : List ByteArray} (hl : len ≤ cap) (hz : zs.length = cap) (hc : ∀ i, i < zs.length → W.cell? (x.add i) = some (.string (zs.getD i ByteArray.empty))) :
    StrsAt W (some x) (zs.take len) := by
  by_cases h0 : len = 0
  · subst h0; exact .inl (by simp)
  · obtain ⟨b, off, spot⟩ := x
    have h1 := hc 0 (by omega)
    have hs : spot = none := by simpa [Addr.add] using World.cell?_spot h1
    subst hs
    refine .inr ⟨b, off, rfl, fun i hi => ?_⟩
    have hi' : i < len := by simp at hi; omega
    have h2 := hc i (by omega)
    rw [Addr.add_mid] at h2
    rw [h2]
    congr 2
    have hi2 : i < zs.length := by omega
    simp [List.getD, hi', hi2]

section
variable {H : Type} {enc : TypeId × Value → H} {W : World} {fuel : Nat} {cs : List Value} {x : DataW H × List MemPlace}

theorem open_ints_in (h : DataW.trod enc Try.prog W 0 (fun _ => true) true fuel 24 cs = some x) (hw : ∀ n ∈ x.1.weights Try.prog 24, n ≤ reachBytes) :
    ∃ (a : Option Addr) (l : List Int) (c : Nat), cs = [.slice a l.length c] ∧ IntsAt W a l ∧ l.length ≤ 17592186044416 ∧ l.length ≤ c ∧ (a = none → l.length = 0 ∧ c = 0) ∧ ∀ z ∈ l, (Lit.int .i64 z).wf = true := by
  rcases open_ints Try.underlying24 Try.underlying3 cellsInt h with ⟨hcs, _⟩ | ⟨y, l, c, zs, hcs, _, hl, hm, hz, hx, hcell, hwz⟩
  · exact ⟨none, [], 0, hcs, .inl rfl, by decide, Nat.le_refl _, fun _ => ⟨rfl, rfl⟩, by simp⟩
  · have hz' : zs.length = c := by simpa using hz
    have hlen : (zs.take l).length = l := by rw [List.length_take]; omega
    refine ⟨some y, zs.take l, c, by rw [hlen]; exact hcs, ints_of_open hl hz' hcell, ?_, by rw [hlen]; exact hl, (fun h => by cases h), fun z hz => hwz z (List.mem_of_mem_take hz)⟩
    have := hw ((lits (H := H) .i64 (zs.take l)).length * 8 + (lits (H := H) .i64 (zs.drop l)).length * 8) (by rw [hx]; simp [DataW.weights, Try.underlying24, bytesInt, Nat.add_mul])
    simp only [lits, List.length_map, List.length_take, List.length_drop, reachBytes] at this
    rw [hlen]
    omega

theorem open_strs_in (h : DataW.trod enc Try.prog W 0 (fun _ => true) true fuel 23 cs = some x) (hw : ∀ n ∈ x.1.weights Try.prog 23, n ≤ reachBytes) :
    ∃ (a : Option Addr) (l : List ByteArray) (c : Nat), cs = [.slice a l.length c] ∧ StrsAt W a l ∧ l.length ≤ 8796093022208 ∧ l.length ≤ c ∧ (a = none → l.length = 0 ∧ c = 0) ∧ ∀ s ∈ l, s.size ≤ 140737488355328 := by
  rcases open_strings Try.underlying23 Try.underlying9 cellsStr h with ⟨hcs, _⟩ | ⟨y, l, c, zs, hcs, _, hl, hm, hz, hx, hcell, hwz⟩
  · exact ⟨none, [], 0, hcs, .inl rfl, by decide, Nat.le_refl _, fun _ => ⟨rfl, rfl⟩, by simp⟩
  · have hz' : zs.length = c := by simpa using hz
    have hlen : (zs.take l).length = l := by rw [List.length_take]; omega
    refine ⟨some y, zs.take l, c, by rw [hlen]; exact hcs, strs_of_open hl hz' hcell, ?_, by rw [hlen]; exact hl, (fun h => by cases h), fun s hs => ?_⟩
    rotate_left
    · have := hw s.data.toList.length (by
        rw [hx]
        simp only [DataW.weights, Try.underlying23, List.mem_cons, List.mem_append]
        exact .inr (.inl (weights_mem_all (List.mem_map.2 ⟨s, hs, rfl⟩) _ (by simp [DataW.weights]))))
      have e : s.data.toList.length = s.size := by simp
      unfold reachBytes at this
      omega
    have := hw ((strs (H := H) (zs.take l)).length * 16 + (strs (H := H) (zs.drop l)).length * 16) (by rw [hx]; simp [DataW.weights, Try.underlying23, bytesStr, Nat.add_mul])
    simp only [strs, List.length_map, List.length_take, List.length_drop, reachBytes] at this
    rw [hlen]
    omega

set_option maxRecDepth 100000 in
theorem open_terms_in (h : DataW.trod enc Try.prog W 0 (fun _ => true) true fuel 22 cs = some x) (hw : ∀ n ∈ x.1.weights Try.prog 22, n ≤ reachBytes) :
    ∃ (a : Option Addr) (l : List (ByteArray × Int)) (c : Nat), cs = [.slice a l.length c] ∧ TermsAt W a l ∧ l.length ≤ 5864062014805 ∧ l.length ≤ c ∧ (a = none → l.length = 0 ∧ c = 0) ∧ ∀ t ∈ l, (Lit.int .i64 t.2).wf = true ∧ t.1.size ≤ 140737488355328 := by
  rcases open_slice Try.underlying22 h with ⟨hcs, _⟩ | ⟨ad, len, cap, m, n, D, Pl, hcs, _, hl, hm, hmm, hx, heach⟩
  · exact ⟨none, [], 0, hcs, .inl rfl, by decide, Nat.le_refl _, fun _ => ⟨rfl, rfl⟩, by simp⟩
  · simp only [if_true] at hmm
    subst hx
    rw [cellsTerm] at heach
    have hlen : len ≤ 5864062014805 := by
      have := hw (((List.range len).map D).length * 24 + ((List.range (m - len)).map fun j => D (len + j)).length * 24) (by simp [DataW.weights, Try.underlying22, bytesTerm, Nat.add_mul])
      simp only [List.length_map, List.length_range, reachBytes] at this
      omega
    have each : ∀ i, i < len → ∃ t : ByteArray × Int, ∃ b off, ad = ⟨b, off, none⟩ ∧ W.cell? ⟨b, off + i * 2, none⟩ = some (.string t.1) ∧ W.cell? ⟨b, off + i * 2 + 1, none⟩ = some (.int .i64 t.2) ∧ (Lit.int .i64 t.2).wf = true ∧ t.1.size ≤ 140737488355328 := by
      intro i hi
      obtain ⟨cs', h1, h2⟩ := heach i (by omega)
      obtain ⟨_, hcl, hcell⟩ := World.cells?_some h1
      obtain ⟨xs, k, hk, hxy, _, hxl, hfs⟩ := DataW.trod_struct Try.underlying73 h2
      match xs, hxl, cs', hcl with
      | [y0, y1], _, [v0, v1], _ =>
        have g0 := hfs 0 _ rfl
        have g1 := hfs 1 _ rfl
        simp [cellsInt, cellsStr] at g0 g1
        simp only [Prod.mk.injEq] at hxy
        obtain ⟨s0, e0, ed0, _⟩ := DataW.trod_string Try.underlying9 g0
        have hsz : s0.size ≤ 140737488355328 := by
          have := hw s0.data.toList.length (by
            simp only [DataW.weights, Try.underlying22, List.mem_cons, List.mem_append]
            refine .inr (.inl (weights_mem_all (List.mem_map.2 ⟨i, List.mem_range.2 hi, rfl⟩) _ ?_))
            rw [hxy.1]
            simp only [DataW.weights, Try.underlying73]
            refine DataW.weights_mem_each (j := 0) (t := 9) (d := y0.1) rfl rfl _ ?_
            rw [show y0.1 = .lit (.string s0.data.toList) from congrArg Prod.fst ed0]
            simp [DataW.weights])
          have e : s0.data.toList.length = s0.size := by simp
          unfold reachBytes at this
          omega
        obtain ⟨z1, e1, _, w1⟩ := DataW.trod_int Try.underlying3 g1
        simp only [List.cons.injEq, and_true] at e0 e1
        subst e0 e1
        have c0 := hcell 0 (by omega)
        have c1 := hcell 1 (by omega)
        rw [Deep.add_add] at c0 c1
        obtain ⟨b, off, spot⟩ := ad
        have hs : spot = none := by
          obtain ⟨cs0, h10, _⟩ := heach 0 (by omega)
          obtain ⟨_, hcl0, hcell0⟩ := World.cells?_some h10
          have q0 := hcell0 0 (by omega)
          rw [List.getElem?_eq_getElem (by omega)] at q0
          simpa [Addr.add] using World.cell?_spot q0
        subst hs
        rw [add_plain] at c0 c1
        exact ⟨(s0, z1), b, off, rfl, by simpa using c0, by simpa [Nat.add_assoc] using c1, w1, hsz⟩
    obtain ⟨S, hS⟩ := choose_lt (α := ByteArray × Int) each
    have hg : ∀ i, i < len → ((List.range len).map S).getD i (⟨#[]⟩, 0) = S i := fun i hi => by simp [List.getD, hi]
    refine ⟨some ad, (List.range len).map S, cap, by simpa using hcs, ?_, by simpa using hlen, by simpa using hl, fun h => (by cases h), fun t ht => ?_⟩
    · by_cases h0 : len = 0
      · subst h0; exact .inl (by simp)
      · obtain ⟨b, off, rfl, _⟩ := hS 0 (by omega)
        refine .inr ⟨b, off, rfl, fun i hi => ?_⟩
        have hi' : i < len := by simpa using hi
        obtain ⟨b', off', e, r1, r2, _⟩ := hS i hi'
        simp only [Addr.mk.injEq, and_true] at e
        obtain ⟨rfl, rfl⟩ := e
        rw [hg i hi']
        exact ⟨r1, r2⟩
    · obtain ⟨i, hi, rfl⟩ := List.mem_map.1 ht
      obtain ⟨_, _, _, _, _, hwf⟩ := hS i (by simpa using hi)
      exact hwf

set_option maxRecDepth 100000 in
theorem open_prods_in (h : DataW.trod enc Try.prog W 0 (fun _ => true) true fuel 25 cs = some x) (hw : ∀ n ∈ x.1.weights Try.prog 25, n ≤ reachBytes) :
    ∃ (a : Option Addr) (n c : Nat) (L V : Nat → Int) (R : Nat → List Int) (ra : Nat → Option Addr) (rc : Nat → Nat), cs = [.slice a n c] ∧ ProdsAt W a n L R ra rc V ∧ n ≤ 3518437208883 ∧ n ≤ c ∧ (a = none → n = 0 ∧ c = 0) ∧ ∀ i, i < n → (R i).length ≤ rc i ∧ (Lit.int .i64 (L i)).wf = true ∧ (Lit.int .i64 (V i)).wf = true ∧ ∀ z ∈ R i, (Lit.int .i64 z).wf = true := by
  rcases open_slice Try.underlying25 h with ⟨hcs, _⟩ | ⟨ad, len, cap, m, n, D, Pl, hcs, _, hl, hm, hmm, hx, heach⟩
  · exact ⟨none, 0, 0, fun _ => 0, fun _ => 0, fun _ => [], fun _ => none, fun _ => 0, hcs, .inl rfl, by decide, Nat.le_refl _, fun _ => ⟨rfl, rfl⟩, fun i hi => absurd hi (Nat.not_lt_zero i)⟩
  · simp only [if_true] at hmm
    subst hx
    rw [cellsProd] at heach
    have hlen : len ≤ 3518437208883 := by
      have := hw (((List.range len).map D).length * 40 + ((List.range (m - len)).map fun j => D (len + j)).length * 40) (by simp [DataW.weights, Try.underlying25, bytesProd, Nat.add_mul])
      simp only [List.length_map, List.length_range, reachBytes] at this
      omega
    have each : ∀ i, i < len → ∃ t : Int × Int × List Int × Option Addr × Nat, ∃ b off, ad = ⟨b, off, none⟩ ∧ (W.cell? ⟨b, off + i * 3, none⟩ = some (.int .i64 t.1) ∧ W.cell? ⟨b, off + i * 3 + 1, none⟩ = some (.slice t.2.2.2.1 t.2.2.1.length t.2.2.2.2) ∧ W.cell? ⟨b, off + i * 3 + 2, none⟩ = some (.int .i64 t.2.1) ∧ IntsAt W t.2.2.2.1 t.2.2.1 ∧ (t.2.2.2.1 = none → t.2.2.2.2 = 0) ∧ t.2.2.1.length ≤ 17592186044416) ∧
        t.2.2.1.length ≤ t.2.2.2.2 ∧ (Lit.int .i64 t.1).wf = true ∧ (Lit.int .i64 t.2.1).wf = true ∧ ∀ z ∈ t.2.2.1, (Lit.int .i64 z).wf = true := by
      intro i hi
      obtain ⟨cs', h1, h2⟩ := heach i (by omega)
      obtain ⟨_, hcl, hcell⟩ := World.cells?_some h1
      obtain ⟨xs, k, hk, hxy, _, hxl, hfs⟩ := DataW.trod_struct Try.underlying75 h2
      have hDw : ∀ n ∈ (D i).weights Try.prog 75, n ≤ reachBytes := fun q hq => hw q (by
        simp only [DataW.weights, Try.underlying25, List.mem_cons, List.mem_append]
        exact .inr (.inl (weights_mem_all (List.mem_map.2 ⟨i, List.mem_range.2 hi, rfl⟩) q hq)))
      match xs, hxl, cs', hcl with
      | [y0, y1, y2], _, [v0, v1, v2], _ =>
        have g0 := hfs 0 _ rfl
        have g1 := hfs 1 _ rfl
        have g2 := hfs 2 _ rfl
        simp [cellsInt, cellsInts] at g0 g1 g2
        simp only [Prod.mk.injEq] at hxy
        have hw1 : ∀ n ∈ y1.1.weights Try.prog 24, n ≤ reachBytes := fun q hq => hDw q (by
          rw [hxy.1]
          simp only [DataW.weights, Try.underlying75]
          exact DataW.weights_mem_each (j := 1) (t := 24) (d := y1.1) rfl rfl q hq)
        obtain ⟨z0, e0, _, w0⟩ := DataW.trod_int Try.underlying3 g0
        obtain ⟨la, l, lc, e1, hints, hll, hlc, hnil, hwl⟩ := open_ints_in g1 hw1
        obtain ⟨z2, e2, _, w2⟩ := DataW.trod_int Try.underlying3 g2
        simp only [List.cons.injEq, and_true] at e0 e1 e2
        subst e0 e1 e2
        have c0 := hcell 0 (by omega)
        have c1 := hcell 1 (by omega)
        have c2 := hcell 2 (by omega)
        rw [Deep.add_add] at c0 c1 c2
        obtain ⟨b, off, spot⟩ := ad
        have hs : spot = none := by
          obtain ⟨cs0, h10, _⟩ := heach 0 (by omega)
          obtain ⟨_, hcl0, hcell0⟩ := World.cells?_some h10
          have q0 := hcell0 0 (by omega)
          rw [List.getElem?_eq_getElem (by omega)] at q0
          simpa [Addr.add] using World.cell?_spot q0
        subst hs
        rw [add_plain] at c0 c1 c2
        exact ⟨(z0, z2, l, la, lc), b, off, rfl, ⟨by simpa using c0, by simpa [Nat.add_assoc] using c1, by simpa [Nat.add_assoc] using c2, hints, fun h => (hnil h).2, hll⟩, hlc, w0, w2, hwl⟩
    obtain ⟨S, hS⟩ := choose_lt (α := Int × Int × List Int × Option Addr × Nat) each
    refine ⟨some ad, len, cap, fun i => (S i).1, fun i => (S i).2.1, fun i => (S i).2.2.1, fun i => (S i).2.2.2.1, fun i => (S i).2.2.2.2, hcs, ?_, hlen, hl, fun h => (by cases h), fun i hi => ?_⟩
    · by_cases h0 : len = 0
      · exact .inl h0
      · obtain ⟨b, off, rfl, _⟩ := hS 0 (by omega)
        refine .inr ⟨b, off, rfl, fun i hi => ?_⟩
        obtain ⟨b', off', e, r, _⟩ := hS i hi
        simp only [Addr.mk.injEq, and_true] at e
        obtain ⟨rfl, rfl⟩ := e
        exact r
    · obtain ⟨_, _, _, _, r⟩ := hS i hi
      exact r

/-- What else is known of a grammar that came in. -/
structure GIn (ta la : Option Addr) (tc lc : Nat) (ts : List (ByteArray × Int)) (lv : List Int) (n : Nat) (L : Nat → Int) (R : Nat → List Int) (rc : Nat → Nat) (V : Nat → Int) (st : Int) (ns : List ByteArray) : Prop where
  tn : ts.length ≤ 5864062014805
  nn : ns.length ≤ 8796093022208
  pn : n ≤ 3518437208883
  tnil : ta = none → ts.length = 0 ∧ tc = 0
  lnil : la = none → lv.length = 0 ∧ lc = 0
  lcap : lv.length ≤ lc
  rcap : ∀ i, i < n → (R i).length ≤ rc i
  lvl : ∀ t ∈ ts, (Lit.int .i64 t.2).wf = true ∧ t.1.size ≤ 140737488355328
  nsz : ∀ s ∈ ns, s.size ≤ 140737488355328
  lvw : ∀ z ∈ lv, (Lit.int .i64 z).wf = true
  stw : (Lit.int .i64 st).wf = true
  prw : ∀ i, i < n → (Lit.int .i64 (L i)).wf = true ∧ (Lit.int .i64 (V i)).wf = true ∧ ∀ z ∈ R i, (Lit.int .i64 z).wf = true

set_option maxRecDepth 100000 in
theorem open_gram {base : Nat} {v : Value} {d : DataW H} {p : List MemPlace} (hv : Value.okWide Try.prog W .any base 27 v) (h : DataW.Trod enc Try.prog W 0 (fun _ => true) true 27 v d p) (hw : ∀ n ∈ d.weights Try.prog 27, n ≤ reachBytes) :
    ∃ ta na la pa tc nc lc pc ts ns lv n L R ra rc V st, v = .agg #[.slice ta ts.length tc, .slice na ns.length nc, .slice la lv.length lc, .int .i64 st, .slice pa n pc] ∧ GAt W ta na la pa tc nc lc pc ts ns lv n L R ra rc V ∧ GIn ta la tc lc ts lv n L R rc V st ns := by
  obtain ⟨cs, rfl, hsz⟩ := okWide_struct Try.underlying27 hv
  obtain ⟨fuel, hf⟩ := h
  obtain ⟨xs, k, hk, hxy, hcl, hxl, hfs⟩ := DataW.trod_struct Try.underlying27 hf
  rw [cellsGram] at hsz
  obtain ⟨l, rfl⟩ : ∃ l : List Value, cs = l.toArray := ⟨cs.toList, by simp⟩
  simp only [Value.cells] at hfs hcl
  have hl : l.length = 5 := by simpa using hsz
  match xs, hxl, l, hl with
  | [y0, y1, y2, y3, y4], _, [v0, v1, v2, v3, v4], _ =>
    have g0 := hfs 0 _ rfl
    have g1 := hfs 1 _ rfl
    have g2 := hfs 2 _ rfl
    have g3 := hfs 3 _ rfl
    have g4 := hfs 4 _ rfl
    simp [cellsInt, cellsInts, cellsTerms, cellsStrs, cellsProds] at g0 g1 g2 g3 g4
    simp only [Prod.mk.injEq] at hxy
    have hwj : ∀ (j : Nat) (t : TypeId) (y : DataW H × List MemPlace), ((Try.prog.fieldsOf 27).toList.map (·.type))[j]? = some t → ([y0, y1, y2, y3, y4].map (·.1))[j]? = some y.1 → ∀ n ∈ y.1.weights Try.prog t, n ≤ reachBytes := fun j t y h1 h2 q hq => hw q (by
      rw [hxy.1]
      simp only [DataW.weights, Try.underlying27]
      simp only [Program.fieldsOf, Try.underlying27] at h1
      exact DataW.weights_mem_each (j := j) (t := t) (d := y.1) h1 h2 q hq)
    have hw0 := hwj 0 22 y0 (by kernel_rfl) rfl
    have hw1 := hwj 1 23 y1 (by kernel_rfl) rfl
    have hw2 := hwj 2 24 y2 (by kernel_rfl) rfl
    have hw4 := hwj 4 25 y4 (by kernel_rfl) rfl
    obtain ⟨ta, ts, tc, e0, hT, hTl, hTc, hTn, hTw⟩ := open_terms_in g0 hw0
    obtain ⟨na, ns, nc, e1, hN, hNl, hNc, hNn, hNs⟩ := open_strs_in g1 hw1
    obtain ⟨la, lv, lc, e2, hL, hLl, hLc, hLn, hLw⟩ := open_ints_in g2 hw2
    obtain ⟨st, e3, _, w3⟩ := DataW.trod_int Try.underlying3 g3
    obtain ⟨pa, n, pc, L, V, R, ra, rc, e4, hP, hPl, hPc, hPn, hPw⟩ := open_prods_in g4 hw4
    simp only [List.cons.injEq, and_true] at e0 e1 e2 e3 e4
    subst e0 e1 e2 e3 e4
    exact ⟨ta, na, la, pa, tc, nc, lc, pc, ts, ns, lv, n, L, R, ra, rc, V, st, rfl, ⟨hT, hN, hL, hP, hTc, hNc, hPc, hNn, hPn, by omega, by omega, by omega, by omega⟩, hTl, hNl, hPl, hTn, hLn, hLc, fun i hi => (hPw i hi).1, hTw, hNs, hLw, w3, fun i hi => (hPw i hi).2⟩
end

end Go.Proofs.Ytfcholpleeiddaa

/-
  trans: what the laws' theorems share.
-/
namespace Go.Proofs.Ytfcholpleeiddaa.J
open Go.ChangeShapes Go.WideShapes Go.ChangeAt Go.RowKit Go.Deep

theorem own : ownKnob Try.prog.godebug = none := by kernel_rfl
theorem laidOut : laidOutB Try.prog = true := by kernel_rfl

end Go.Proofs.Ytfcholpleeiddaa.J
