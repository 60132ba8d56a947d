import Derived.Test.YtfcholpleeiddaaGreatQlljfobhkeeif
import Derived.Test.YtfcholpleeiddaaGreatQikcbfphegfhe

/-
  trans: Direct, exported.
-/
namespace Go.Proofs.YtfcholpleeiddaaGreat.J
open Go.RowKit Go.Maps Go.Shelf

attribute [local go_sem] Oper.semAt_some

theorem trI_mem {tn : Nat} {l : List (Nat × Nat)} {i : Nat} {x : It} (h : x ∈ trI tn l i) : ∃ e ∈ l, tn ≤ e.1 ∧ x = ((i : Int), (e.1 : Int)) := by
  unfold trI at h
  obtain ⟨e, he, rfl⟩ := List.mem_map.1 h
  obtain ⟨h1, h2⟩ := List.mem_filter.1 he
  exact ⟨e, h1, by simpa using h2, rfl⟩
theorem trT_mem {tn : Nat} {es : List (List (Nat × Nat))} : ∀ {i : Nat} {x : It}, x ∈ trT tn es i → ∃ q, q < i ∧ ∃ e ∈ es.getD q [], tn ≤ e.1 ∧ x = ((q : Int), (e.1 : Int))
  | 0, x, h => by cases h
  | i + 1, x, h => by
    rcases List.mem_append.1 h with h | h
    · obtain ⟨q, h1, h2⟩ := trT_mem h
      exact ⟨q, by omega, h2⟩
    · exact ⟨i, Nat.lt_succ_self _, trI_mem h⟩
theorem nextL_some {l : List (Nat × Nat)} {e : Nat × Nat} (h : e ∈ l) : ∃ t : Nat, nextL l (e.1 : Int) = some (t : Int) ∧ ∃ e' ∈ l, e'.1 = e.1 ∧ e'.2 = t := by
  unfold nextL
  cases h1 : l.find? (fun x => decide ((x.1 : Int) = (e.1 : Int))) with
  | none =>
    have := List.find?_eq_none.1 h1 e h
    simp at this
  | some x =>
    have h2 := List.find?_some h1
    refine ⟨x.2, rfl, x, List.mem_of_find?_eq_some h1, ?_, rfl⟩
    have : (x.1 : Int) = (e.1 : Int) := by simpa using h2
    omega
/-- What stands right behind a transition. -/
def dirOf (tn : Nat) (st : Int) (es : List (List (Nat × Nat))) (x : It) : List Int := preF (x.1 == 0 && x.2 == st) ++ dirL tn (es.getD ((leadA es x).getD 0).toNat [])
theorem dirOf_len {tn : Nat} {st : Int} {es : List (List (Nat × Nat))} {x : It} (h : ∀ q, (es.getD q []).length ≤ 130) : (dirOf tn st es x).length ≤ 131 := by
  unfold dirOf
  rw [List.length_append]
  have h1 := preF_len (x.1 == 0 && x.2 == st)
  have h2 := dirL_len tn (es.getD ((leadA es x).getD 0).toNat [])
  have h3 := h ((leadA es x).getD 0).toNat
  omega

/-- What always holds of the edges that are walked. -/
structure EsOK (ks : List (List It)) (es : List (List (Nat × Nat))) : Prop where
  le : ks.length ≤ 256
  len : es.length = ks.length
  each : ∀ q, q < ks.length → (es.getD q []).length ≤ 130 ∧ ((es.getD q []).map Prod.fst).Nodup ∧ ∀ x ∈ es.getD q [], x.1 < 130 ∧ x.2 < ks.length
theorem EsOK.short {ks : List (List It)} {es : List (List (Nat × Nat))} (h : EsOK ks es) (q : Nat) : (es.getD q []).length ≤ 130 := by
  by_cases hq : q < ks.length
  · exact (h.each q hq).1
  · rw [List.getD_eq_getElem?_getD, List.getElem?_eq_none (by rw [h.len]; omega)]; simp
theorem EsOK.lead {ks : List (List It)} {es : List (List (Nat × Nat))} (h : EsOK ks es) {x : It} {v : Int} (hx : leadA es x = some v) : 0 ≤ v ∧ v < (ks.length : Int) := by
  unfold leadA leadT at hx
  split at hx
  · rename_i hc
    obtain ⟨e, he, _, h2⟩ := nextL_mem hx
    have := ((h.each x.1.toNat (by rw [← h.len]; omega)).2.2 e he).2
    omega
  · split at hx
    · simp [nextL] at hx
    · cases hx
theorem EsOK.ok {ks : List (List It)} {es : List (List (Nat × Nat))} (h : EsOK ks es) : LeadOK es := fun x v hx => by
  have := h.lead hx
  have := h.le
  omega
theorem EsOK.trans {ks : List (List It)} {es : List (List (Nat × Nat))} (h : EsOK ks es) {tn : Nat} {x : It} (hx : x ∈ trT tn es ks.length) : ∃ q s tq : Nat, x = ((q : Int), (s : Int)) ∧ q < ks.length ∧ tn ≤ s ∧ s < 130 ∧ leadA es ((q : Int), (s : Int)) = some (tq : Int) ∧ tq < ks.length := by
  obtain ⟨q, hq, e, he, h1, rfl⟩ := trT_mem hx
  obtain ⟨t, h2, e', he', _, h4⟩ := nextL_some he
  have h5 := (h.each q hq).2.2 e' he'
  have h6 := (h.each q hq).2.2 e he
  exact ⟨q, e.1, t, rfl, hq, h1, h6.1, by rw [leadA_at es (by rw [h.len]; exact hq)]; exact h2, by rw [← h4]; exact h5.2⟩

/-- What Direct tells. -/
def DirErr (l : List It) (D : It → List Int) (w : World) (e : Ending) (y : World) : Prop := ∃ (rb : Nat) (ua : Nat → Option Addr) (uc : Nat → Nat), e = .returned (.tuple #[.slice (some ⟨rb, 0, none⟩) l.length l.length, .int .i64 0]) ∧ ValAt y rb l.length 24 (fun k => .slice (ua k) (D (l.getD k (0, 0))).length (uc k)) ∧ (∀ k, k < l.length → y.ownsRow w.heap.size 3 1 (.slice (ua k) (D (l.getD k (0, 0))).length (uc k)) (D (l.getD k (0, 0))).length (intV (D (l.getD k (0, 0))))) ∧ w.grownBy y none

/-- Direct's row is new. -/
def DirLo (w : World) (e : Ending) : Prop := ∀ (a : Option Addr) (k c : Nat) (x : Value), e = .returned (.tuple #[.slice a k c, x]) → ∀ rb, a = some ⟨rb, 0, none⟩ → w.heap.size ≤ rb

section
variable (ta na la pa : Option Addr) (tc nc lc pc : Nat) (n : Nat) (st : Int) (w : World) (tn nn ln : Nat)
set_option maxRecDepth 100000 in
theorem directX_bad (ec : Int) (hec : ec = 1 ∨ ec = 11) (hO : OfBad ta na la pa tc nc lc pc n st w tn nn ln ec) : Calls Tryz.prog 9 #[.agg #[.slice ta tn tc, .slice na nn nc, .slice la ln lc, .int .i64 st, .slice pa n pc]] w fun e y => e = .returned (.tuple #[.slice none 0 0, .int .i64 ec]) ∧ w.grownBy y none := by
  have HO : Hid (OfBad ta na la pa tc nc lc pc n st w tn nn ln ec) := hO
  have HX0 : Hid (w.grownBy (w.alloc (.cells #[.slice ta tn tc, .slice na nn nc, .slice la ln lc, .int .i64 st, .slice pa n pc] 27)) none) := World.grownBy_alloc _ _ none
  have hne : (ec != 0) = true := bne_iff_ne.2 (by omega)
  clear hO hec
  go_enter Tryz.func9, Tryz.ntmps9
  go_wp2_with fail
  refine Calls.mono (HO.out _ HX0.out) ?_
  rintro e w1 ⟨rfl, hg1⟩
  have HG1 : Hid (w.grownBy w1 none) := grown_trans HX0.out hg1
  clear hg1
  go_wp2_with fail
  go_ret2
  exact ⟨rfl, grown_trans HG1.out (World.grownBy_alloc _ _ none)⟩

/-- direct, of any transition. -/
theorem direct_any (sa : Option Addr) (sc lb B m : Nat) (ks : List (List It)) (es : List (List (Nat × Nat))) (kv ev : Nat → Value) (h : EsOK ks es) (hP : AutP B w (.slice sa ks.length sc) ks (elF es) kv ev) (hL : LdAt w lb m (leadA es)) (x : It) (hx : x ∈ trT tn es ks.length) :
    Calls Tryz.prog 19 #[.agg #[.slice ta tn tc, .slice na nn nc, .slice la ln lc, .int .i64 st, .slice pa n pc, .slice sa ks.length sc, .map (some lb)], .agg #[.int .i64 x.1, .int .i64 x.2]] w fun e y => NumTold (dirOf tn st es x) w e y := by
  obtain ⟨q, s, tq, rfl, hq, h1, h2, h3, h4⟩ := h.trans hx
  have e1 : dirOf tn st es ((q : Int), (s : Int)) = preF ((q : Int) == 0 && (s : Int) == st) ++ dirL tn (es.getD tq []) := by
    unfold dirOf
    rw [h3]; rfl
  rw [e1]
  by_cases hst : (q : Int) = 0 ∧ (s : Int) = st
  · obtain ⟨hq0, hs⟩ := hst
    obtain rfl : q = 0 := by omega
    subst hs
    have e2 : ((((0 : Nat) : Int) == 0 && (s : Int) == (s : Int))) = true := by simp
    rw [e2]
    exact direct_start ta na la pa sa tc nc lc pc sc n ks.length lb (s : Int) w tn nn ln B m ks es kv ev rfl hP (fun q hq => (h.each q hq).1) hL h.ok tq (WalkArith.wf_i64 ⟨by omega, by omega⟩) h3 h4
  · have e2 : ((q : Int) == 0 && (s : Int) == st) = false := by
      rw [Bool.and_eq_false_iff, beq_eq_false_iff_ne, beq_eq_false_iff_ne]
      by_cases h5 : (q : Int) = 0
      · exact .inr fun h6 => hst ⟨h5, h6⟩
      · exact .inl h5
    rw [e2]
    exact direct_other ta na la pa sa tc nc lc pc sc n ks.length lb st w tn nn ln B m ks es kv ev rfl h.le hP (fun q hq => (h.each q hq).1) hL h.ok q tq (s : Int) hq (WalkArith.wf_i64 ⟨by omega, by omega⟩) h3 h4 hst

set_option maxRecDepth 100000 in
set_option maxHeartbeats 4000000 in
theorem directX_lo (ks : List (List It)) (es : List (List (Nat × Nat))) (h : EsOK ks es) (hO : OfOk ta na la pa tc nc lc pc n st w tn nn ln ks es) : Calls Tryz.prog 9 #[.agg #[.slice ta tn tc, .slice na nn nc, .slice la ln lc, .int .i64 st, .slice pa n pc]] w fun e y => DirErr (trT tn es ks.length) (dirOf tn st es) w e y ∧ DirLo w e := by
  have HO : Hid (OfOk ta na la pa tc nc lc pc n st w tn nn ln ks es) := hO
  have HE : Hid (EsOK ks es) := h
  have HX0 : Hid (w.grownBy (w.alloc (.cells #[.slice ta tn tc, .slice na nn nc, .slice la ln lc, .int .i64 st, .slice pa n pc] 27)) none) := World.grownBy_alloc _ _ none
  have infoInts : (Tryz.prog.info? 24).map (fun i => (i.zero, i.size, i.bytes)) = some (some (.slice none 0 0), 1, 24) := by kernel_rfl
  obtain ⟨i1, hi1, hy0, hy1, hy2⟩ := info_parts infoInts
  obtain ⟨l, hl⟩ : ∃ l, l = trT tn es ks.length := ⟨_, rfl⟩
  have HLE : Hid (l = trT tn es ks.length) := hl
  rw [← hl]
  clear hO h infoInts hl
  go_enter Tryz.func9, Tryz.ntmps9
  go_wp2_with fail
  refine Calls.mono (HO.out _ HX0.out) ?_
  rintro e w1 ⟨sa, sc, kv, ev, lb, m, rfl, hAP, hLd, hg1⟩
  obtain ⟨W, hW⟩ : ∃ W, W = w1.alloc (.cells #[.slice ta tn tc, .slice na nn nc, .slice la ln lc, .int .i64 st, .slice pa n pc, .slice sa ks.length sc, .map (some lb)] 56) := ⟨_, rfl⟩
  obtain ⟨bx, hbx⟩ : ∃ b, b = w1.heap.size := ⟨_, rfl⟩
  have HGW : Hid (w.grownBy W none) := by rw [hW]; exact grown_trans HX0.out (grown_trans hg1 (World.grownBy_alloc _ _ none))
  have HAP : Hid (∀ Y, W.grownBy Y none → ∃ B, AutP B Y (.slice sa ks.length sc) ks (elF es) kv ev) := fun Y hY => ⟨_, hAP.kept (grown_trans (by rw [hW]; exact World.grownBy_alloc _ _ none) hY)⟩
  have HLD : Hid (∀ Y, W.grownBy Y none → LdAt Y lb m (leadA es)) := fun Y hY => hLd.kept (grown_trans (by rw [hW]; exact World.grownBy_alloc _ _ none) hY) (by simp)
  have HBX : Hid (W.heap[bx]? = some (.cells #[.slice ta tn tc, .slice na nn nc, .slice la ln lc, .int .i64 st, .slice pa n pc, .slice sa ks.length sc, .map (some lb)] 56 (0, 0))) := by rw [hW, hbx]; exact heap_alloc_last w1 _
  have HTR : Hid (Calls Tryz.prog 18 #[.agg #[.slice ta tn tc, .slice na nn nc, .slice la ln lc, .int .i64 st, .slice pa n pc, .slice sa ks.length sc, .map (some lb)]] W fun e y => TrTold (trT tn es ks.length) W e y) := by
    obtain ⟨B, hB⟩ := HAP.out W (grown_refl _ _)
    exact trans_any ta na la pa sa tc nc lc pc sc n ks.length lb st W tn nn ln B ks es kv ev rfl HE.out.le hB (fun q hq => (HE.out.each q hq).1)
  have HDI : Hid (∀ Y x, W.grownBy Y none → x ∈ trT tn es ks.length → Calls Tryz.prog 19 #[.agg #[.slice ta tn tc, .slice na nn nc, .slice la ln lc, .int .i64 st, .slice pa n pc, .slice sa ks.length sc, .map (some lb)], .agg #[.int .i64 x.1, .int .i64 x.2]] Y fun e y => NumTold (dirOf tn st es x) Y e y) := fun Y x hY hx => by
    obtain ⟨B, hB⟩ := HAP.out Y hY
    exact direct_any ta na la pa tc nc lc pc n st Y tn nn ln sa sc lb B m ks es kv ev HE.out hB (HLD.out Y hY) x hx
  have HWE := show Hid _ from hW
  have HBE := show Hid _ from hbx
  have hlb : l.length ≤ 33280 := by
    rw [HLE.out]
    have h1 := trT_len (tn := tn) (c := 130) ks.length (fun q hq => (HE.out.each q hq).1)
    have h2 : ks.length * 130 ≤ 256 * 130 := Nat.mul_le_mul_right _ HE.out.le
    omega
  rw [← HLE.out] at HTR HDI
  obtain ⟨N, hN⟩ : ∃ n, n = ks.length := ⟨_, rfl⟩
  rw [← hN] at HBX HTR HDI HWE ⊢
  clear hg1 hAP hLd hW hbx hN HAP HLD HE HLE
  go_wp2_with fail
  rw [← HWE.out, ← HBE.out]
  refine Calls.mono HTR.out ?_
  rintro e w2 ⟨a2, c2, rfl, ho2, hg2⟩
  have HG2 : Hid (W.grownBy w2 none) := hg2
  have HI2 : Hid (∀ Y, w2.grownBy Y none → ItsAt Y a2 l) := fun Y hY => (ItsAt.ofT ho2).kept hY
  obtain ⟨K, hK⟩ : ∃ k, k = l.length := ⟨_, rfl⟩
  have HK : Hid (K = l.length) := hK
  rw [← hK] at hlb ⊢
  clear hg2 ho2 HTR HWE HBE hK
  go_wp2_with (at_make; refine wpList_make_full _ rfl _ _ 34 rfl w2.heap.size 24 i1 (.slice none 0 0) 1 Tryz.underlying34 hi1 hy0 hy1 .i64 .i64 _ _ K rfl rfl (by simp) (by simp) (by rw [hy2]; omega) (by unfold maxLen; omega) (by simp) ?_)
  intro P hown hgrow
  have hval : ValAt P w2.heap.size K 24 (fun _ => .slice none 0 0) := made_rowK (B := w2.heap.size) rfl (by simpa [Value.cells] using hown)
  obtain ⟨rb, hrb⟩ : ∃ rb, rb = w2.heap.size := ⟨_, rfl⟩
  rw [← hrb] at hval
  rw [← hrb]
  have HGP : Hid (W.grownBy P none) := grown_trans HG2.out hgrow
  have HIP : Hid (∀ Y, P.grownBy Y none → ItsAt Y a2 l) := fun Y hY => HI2.out Y (grown_trans hgrow hY)
  have HVP : Hid (ValAt P rb K 24 (fun _ => .slice none 0 0)) := hval
  have HRL : Hid (W.heap.size ≤ rb) := by show _ ≤ _; rw [hrb]; exact HG2.out.size
  have HRI : Hid (∀ Y, w2.grownBy Y none → ItsAt Y a2 l) := HI2.out
  have HW2 : Hid (w2.heap.size ≤ rb) := by show _ ≤ _; omega
  have HWP : Hid (w2.grownBy P none) := hgrow
  clear hown hgrow hval hrb HI2
  go_wp2_with fail
  go_loopg [25] K (fun gk v25 wr => ∃ (k : Nat) (ua : Nat → Option Addr) (uc : Nat → Nat), k ≤ K ∧ gk = K - k ∧ v25 = .int .i64 k ∧ w2.grownBy wr none ∧ ValAt wr rb K 24 (fun i => if i < k then .slice (ua i) (dirOf tn st es (l.getD i (0, 0))).length (uc i) else .slice none 0 0) ∧ ∀ i, i < k → wr.ownsRow w.heap.size 3 1 (.slice (ua i) (dirOf tn st es (l.getD i (0, 0))).length (uc i)) (dirOf tn st es (l.getD i (0, 0))).length (intV (dirOf tn st es (l.getD i (0, 0)))))
  case atStart => exact ⟨0, fun _ => none, fun _ => 0, Nat.zero_le _, rfl, rfl, HWP.out, HVP.out.ext (fun i _ => by rw [if_neg (by omega)]), fun i hi => absurd hi (Nat.not_lt_zero _)⟩
  case round =>
    obtain ⟨k, ua, uc, hk, hgk, rfl, hg, hv, hr⟩ := hrel
    have HGK : Hid (gk = K - k) := hgk
    have HG : Hid (w2.grownBy wr none) := hg
    have HV : Hid (ValAt wr rb K 24 (fun i => if i < k then .slice (ua i) (dirOf tn st es (l.getD i (0, 0))).length (uc i) else .slice none 0 0)) := hv
    have HR := show Hid _ from hr
    clear hgk hg hv hr
    by_cases hlt : k < K
    · have hkd : decide (k < K) = true := decide_eq_true hlt
      have hk0 : (0 : Int) ≤ (k : Int) := by omega
      have hk1 : (k : Int) < (K : Int) := by omega
      have hkl : k < l.length := by rw [← HK.out]; exact hlt
      obtain ⟨tb, to_, hta, c0, c1⟩ := (HRI.out wr HG.out).cellAt hkl
      subst hta
      have hmem : l.getD k (0, 0) ∈ l := by rw [List.getD_eq_getElem?_getD, List.getElem?_eq_getElem hkl]; exact List.getElem_mem hkl
      obtain ⟨x, hx⟩ : ∃ x, x = l.getD k (0, 0) := ⟨_, rfl⟩
      have HX : Hid (x = l.getD k (0, 0)) := hx
      rw [← hx] at c0 c1 hmem
      have HD := show Hid _ from HDI.out (wr.alloc (.cells #[.int .i64 x.1, .int .i64 x.2] 39)) x (grown_trans HG2.out (grown_trans HG.out (World.grownBy_alloc _ _ none))) hmem
      obtain ⟨k0, k1, k2, k3, k4, k5, k6⟩ := cells7 (box_kept HBX.out (grown_trans HG2.out (grown_trans HG.out (World.grownBy_alloc wr (.cells #[.int .i64 x.1, .int .i64 x.2] 39) none))))
      clear hx hmem hkl
      obtain ⟨p, d⟩ := x
      simp only at c0 c1 HD k0 k1 k2 k3 k4 k5 k6
      go_wp2_with fail
      refine Calls.mono HD.out ?_
      rintro e w5 ⟨a5, c5, rfl, ho5, hg5⟩
      have HG5 : Hid (w2.grownBy w5 none) := grown_trans HG.out (grown_trans (World.grownBy_alloc _ _ none) hg5)
      have HV5 : Hid (ValAt w5 rb K 24 (fun i => if i < k then .slice (ua i) (dirOf tn st es (l.getD i (0, 0))).length (uc i) else .slice none 0 0)) := HV.out.kept (grown_trans (World.grownBy_alloc _ _ none) hg5)
      have y0 := HV5.out.cell k hlt
      rw [if_neg (by omega)] at y0
      have f0 := HV5.out.free k
      obtain ⟨dl, hdl⟩ : ∃ m, m = (dirOf tn st es (p, d)).length := ⟨_, rfl⟩
      have HNX : Hid (∃ (ua' : Nat → Option Addr) (uc' : Nat → Nat), w2.grownBy (w5.setCell ⟨rb, k, none⟩ (.slice a5 dl c5)) none ∧ ValAt (w5.setCell ⟨rb, k, none⟩ (.slice a5 dl c5)) rb K 24 (fun i => if i < k + 1 then .slice (ua' i) (dirOf tn st es (l.getD i (0, 0))).length (uc' i) else .slice none 0 0) ∧ ∀ i, i < k + 1 → (w5.setCell ⟨rb, k, none⟩ (.slice a5 dl c5)).ownsRow w.heap.size 3 1 (.slice (ua' i) (dirOf tn st es (l.getD i (0, 0))).length (uc' i)) (dirOf tn st es (l.getD i (0, 0))).length (intV (dirOf tn st es (l.getD i (0, 0))))) := by
        have hgs : w5.grownBy (w5.setCell ⟨rb, k, none⟩ (.slice a5 dl c5)) (some rb) := grown_setCell _ _ _
        refine ⟨updL ua k a5, updL uc k c5, grown_new HG5.out hgs HW2.out, (HV5.out.set k _).ext (fun i _ => ?_), fun i hi => ?_⟩
        · unfold put
          by_cases e : i = k
          · subst e
            rw [if_pos rfl, if_pos (by omega), updL_same, updL_same, hdl, HX.out]
          · rw [if_neg e, updL_other _ _ e, updL_other _ _ e]
            simp only
            by_cases e2 : i < k
            · rw [if_pos e2, if_pos (by omega)]
            · rw [if_neg e2, if_neg (by omega)]
        · by_cases e : i = k
          · subst e
            rw [updL_same, updL_same, ← HX.out]
            have h9 := owns_base ho5 (B' := w.heap.size) (Nat.le_trans HGW.out.size (grown_trans HG2.out (grown_trans HG.out (World.grownBy_alloc _ _ none))).size)
            exact h9.kept hgs (owns_nebox h9 HV5.out (by decide))
          · rw [updL_other _ _ e, updL_other _ _ e]
            have h9 := keep0 (HR.out i (by omega)) (grown_trans (World.grownBy_alloc wr (.cells #[.int .i64 p, .int .i64 d] 39) none) hg5)
            exact h9.kept hgs (owns_nebox h9 HV5.out (by decide))
      rw [← hdl]
      clear ho5 hg5 hdl k0 k1 k2 k3 k4 k5 k6 c0 c1 HD
      go_wp2_with fail
      go_roundg (K - (k + 1))
      case measure => have := HGK.out; omega
      case rel =>
        obtain ⟨ua', uc', h1, h2, h3⟩ := HNX.out
        exact ⟨k + 1, ua', uc', by omega, rfl, by go_num, h1, h2, h3⟩
    · have hkK : K = k := by omega
      subst hkK
      have hkd : decide (K < K) = false := decide_eq_false (by omega)
      go_wp2_with fail
      go_ret2
      refine ⟨⟨rb, ua, uc, by rw [← HK.out]; rfl, by rw [← HK.out]; exact HV.out.ext (fun i hi => by rw [if_pos hi]), fun i hi => HR.out i (by rw [HK.out]; exact hi), grown_trans HGW.out (grown_trans HG2.out HG.out)⟩, fun a k c x e rb' ha => ?_⟩
      simp at e
      obtain ⟨⟨e1, _⟩, _⟩ := e
      rw [← e1] at ha
      simp only [Option.some.injEq, Addr.mk.injEq] at ha
      have h1 := HRL.out
      have h2 := HGW.out.size
      omega
theorem directX_ok (ks : List (List It)) (es : List (List (Nat × Nat))) (h : EsOK ks es) (hO : OfOk ta na la pa tc nc lc pc n st w tn nn ln ks es) : Calls Tryz.prog 9 #[.agg #[.slice ta tn tc, .slice na nn nc, .slice la ln lc, .int .i64 st, .slice pa n pc]] w fun e y => DirErr (trT tn es ks.length) (dirOf tn st es) w e y :=
  (directX_lo ta na la pa tc nc lc pc n st w tn nn ln ks es h hO).mono fun _ _ h => h.1
end

end Go.Proofs.YtfcholpleeiddaaGreat.J

/-
  trans: automatonOf of any grammar; the law's awake.
-/
namespace Go.Proofs.YtfcholpleeiddaaGreat.J
open Go.RowKit Go.Maps Go.Shelf

attribute [local go_sem] Oper.semAt_some

theorem esOK_of {G : List It → Nat → List It} {n : Nat} {R : Nat → List Int} {S : Nat} {ks : List (List It)} {es : List (List (Nat × Nat))} (h : AutF G n R S ks es) (hS : S ≤ 130) : EsOK ks es :=
  ⟨h.kok.le, h.len, fun q hq => ⟨by rw [h.elen hq]; exact Nat.le_trans (symsT_len _ _) hS, by rw [h.fst q hq]; exact symsT_nodup _ _, fun x hx => by
    have := h.snd q hq x hx
    omega⟩⟩

section
variable (ta na la pa : Option Addr) (tc nc lc pc : Nat) (ts : List (ByteArray × Int)) (ns : List ByteArray) (lv : List Int) (n : Nat) (L : Nat → Int) (R : Nat → List Int) (ra : Nat → Option Addr) (rc : Nat → Nat) (V : Nat → Int) (st : Int) (w : World) (tn nn ln : Nat) (hlen : ts.length = tn ∧ ns.length = nn ∧ lv.length = ln) (hG : GAt w ta na la pa tc nc lc pc ts ns lv n L R ra rc V)
include hlen hG
theorem ofBad1 (hc : ¬ closedOK ts ns lv st n L R V) : OfBad ta na la pa tc nc lc pc n st w tn nn ln 1 := fun X hX =>
  of_bad ta na la pa tc nc lc pc n st X tn nn ln 1 (.inl rfl) fun Y hY => buildBad ta na la pa tc nc lc pc ts ns lv n L R ra rc V st Y tn nn ln hlen (hG.kept (grown_trans hX hY)) hc
theorem ofBad11 (hc : closedOK ts ns lv st n L R V) (h : autoF (GG tn n L R) (tn + nn) 256 = none) : OfBad ta na la pa tc nc lc pc n st w tn nn ln 11 := fun X hX =>
  of_bad ta na la pa tc nc lc pc n st X tn nn ln 11 (.inr rfl) fun Y hY => build_none ta na la pa tc nc lc pc ts ns lv n L R ra rc V st w tn nn ln hlen hG hc h Y (grown_trans hX hY)
theorem ofOk (hc : closedOK ts ns lv st n L R V) {ks : List (List It)} {es : List (List (Nat × Nat))} (h : autoF (GG tn n L R) (tn + nn) 256 = some (ks, es)) : OfOk ta na la pa tc nc lc pc n st w tn nn ln ks es ∧ EsOK ks es := by
  have hM : MayOK tn nn n st L R true := by obtain ⟨rfl, rfl, rfl⟩ := hlen; exact mayOK_closed hc
  have hE : EsOK ks es := esOK_of (autF hM.p0 h) (by have := hM.tmax; have := hM.nmax; omega)
  refine ⟨fun X hX => of_ok ta na la pa tc nc lc pc n st X tn nn ln (askN es) ks es hE.le hE.len (fun q hq => ⟨(hE.each q hq).1, (hE.each q hq).2.1, fun x hx => by have := (hE.each q hq).2.2 x hx; have := hE.le; omega⟩) fun Y hY => ?_, hE⟩
  refine (build_some ta na la pa tc nc lc pc ts ns lv n L R ra rc V st w tn nn ln hlen hG hc h Y (grown_trans hX hY)).mono ?_
  rintro e y ⟨sa, sc, kv, ev, he, hAP, hg⟩
  exact ⟨sa, sc, kv, ev, he, hAP.base hY.size, hg⟩
end

theorem k_ggT : autoF (GG 3 3 kL kR) 5 256 = some (kKs, kEs) := by
  have h : ∀ k ∈ kKs, IsClo 3 3 kL kR k (CLo 3 3 kL kR k) := fun k hk => by
    have h1 := k_clo k hk
    rw [CLo_eq h1 (by
      simp only [kKs, List.mem_cons, List.not_mem_nil, or_false] at hk
      rcases hk with rfl | rfl | rfl | rfl | rfl <;> decide)]
    exact h1
  exact k_auto h
theorem k_trT : trT 3 kEs 5 = [(0, 4)] := by decide
theorem k_way : wayF kEs (some 0) [4, 1, 2] = some 4 := by decide
theorem k_dir : dirOf 3 4 kEs (0, 4) = [0, 1] := by decide

set_option maxRecDepth 100000 in
set_option maxHeartbeats 2000000 in
theorem awake_any (w : World) : Calls Tryz.prog 4 #[] w fun e w' => e = .returned (.bool true) ∧ w.grownBy w' none := by
  have hE : ∀ X : World, (binOp .eql 39 (.agg #[.int .i64 0, .int .i64 4]) (.agg #[.int .i64 0, .int .i64 4])).run Tryz.prog X = .ok (.bool true) X := fun X => eq_trans 0 4 0 4 X
  go_enter Tryz.func4, Tryz.ntmps4
  go_wp2_with fail
  refine Calls.mono (small_any w) ?_
  rintro e w1 ⟨b1, b2, b6, ra, rc, rfl, hG1, hg1⟩
  obtain ⟨hOf, hEs⟩ := ofOk (some ⟨b1, 0, none⟩) (some ⟨b2, 0, none⟩) none (some ⟨b6, 0, none⟩) 3 2 0 3 kTs kNs [] 3 kL kR ra rc (fun _ => 0) 4 w1 3 2 0 ⟨rfl, rfl, rfl⟩ hG1 k_closed k_ggT
  have HOF : Hid (OfOk (some ⟨b1, 0, none⟩) (some ⟨b2, 0, none⟩) none (some ⟨b6, 0, none⟩) 3 2 0 3 3 4 w1 3 2 0 kKs kEs) := hOf
  have HES : Hid (EsOK kKs kEs) := hEs
  have HOX : Hid (∀ X, w1.grownBy X none → OfOk (some ⟨b1, 0, none⟩) (some ⟨b2, 0, none⟩) none (some ⟨b6, 0, none⟩) 3 2 0 3 3 4 X 3 2 0 kKs kEs) := fun X hX Y hY => HOF.out Y (grown_trans hX hY)
  have HLI : Hid (∀ X, w1.grownBy X none → Calls Tryz.prog 8 #[.agg #[.slice (some ⟨b1, 0, none⟩) 3 3, .slice (some ⟨b2, 0, none⟩) 2 2, .slice none 0 0, .int .i64 4, .slice (some ⟨b6, 0, none⟩) 3 3]] X fun e y => ∃ g c, e = .returned (.tuple #[.slice (some ⟨g, 0, none⟩) 1 c, .int .i64 0]) ∧ y.cell? ⟨g, 0, none⟩ = some (.int .i64 0) ∧ y.cell? ⟨g, 1, none⟩ = some (.int .i64 4) ∧ X.grownBy y none) := fun X hX => by
    refine (listX_ok _ _ _ _ _ _ _ _ 3 4 X 3 2 0 kKs kEs HES.out.le (fun q hq => (HES.out.each q hq).1) (HOX.out X hX)).mono ?_
    rintro e y ⟨a, c, rfl, ho, hg⟩
    have e1 : trT 3 kEs kKs.length = [(0, 4)] := k_trT
    rw [e1] at ho ⊢
    obtain ⟨g, c2, he, hcell⟩ := owns_at ho (by decide)
    simp only [Value.slice.injEq] at he
    obtain ⟨rfl, _, rfl⟩ := he
    exact ⟨g, c, rfl, hcell 0 _ rfl, hcell 1 _ rfl, hg⟩
  have HWA : Hid (∀ X b, w1.grownBy X none → IntsAt X (some ⟨b, 0, none⟩) [4, 1, 2] → Calls Tryz.prog 13 #[.agg #[.slice (some ⟨b1, 0, none⟩) 3 3, .slice (some ⟨b2, 0, none⟩) 2 2, .slice none 0 0, .int .i64 4, .slice (some ⟨b6, 0, none⟩) 3 3], .int .i64 0, .slice (some ⟨b, 0, none⟩) 3 3] X fun e y => e = .returned (.tuple #[.int .i64 4, .int .i64 0]) ∧ X.grownBy y none) := fun X b hX hI => by
    have h := walkX_ok _ _ _ _ 3 2 0 3 3 4 X 3 2 0 kKs kEs (by decide) (by decide) HES.out.le HES.out.ok (HOX.out X hX) 0 (by decide) (some ⟨b, 0, none⟩) 3 [4, 1, 2] hI (by decide) (by decide)
    have e1 : wayV (wayF kEs (some ((0 : Nat) : Int)) [4, 1, 2]) = 4 := by rw [show ((0 : Nat) : Int) = 0 from rfl, k_way]; rfl
    rw [e1] at h
    exact h
  have HDI : Hid (∀ X, w1.grownBy X none → Calls Tryz.prog 9 #[.agg #[.slice (some ⟨b1, 0, none⟩) 3 3, .slice (some ⟨b2, 0, none⟩) 2 2, .slice none 0 0, .int .i64 4, .slice (some ⟨b6, 0, none⟩) 3 3]] X fun e y => ∃ rb a c, e = .returned (.tuple #[.slice (some ⟨rb, 0, none⟩) 1 1, .int .i64 0]) ∧ y.cell? ⟨rb, 0, none⟩ = some (.slice a 2 c) ∧ X.grownBy y none) := fun X hX => by
    refine (directX_ok _ _ _ _ 3 2 0 3 3 4 X 3 2 0 kKs kEs HES.out (HOX.out X hX)).mono ?_
    rintro e y ⟨rb, ua, uc, rfl, hv, _, hg⟩
    have e1 : trT 3 kEs kKs.length = [(0, 4)] := k_trT
    rw [e1] at hv ⊢
    have h1 := hv.cell 0 (by decide)
    rw [show ([((0 : Int), (4 : Int))] : List It).getD 0 (0, 0) = (0, 4) from rfl, k_dir] at h1
    exact ⟨rb, ua 0, uc 0, rfl, h1, hg⟩
  obtain ⟨gb, hgb⟩ : ∃ gb, gb = w1.heap.size := ⟨_, rfl⟩
  obtain ⟨X1, hX1⟩ : ∃ X1, X1 = w1.alloc (.cells #[.slice (some ⟨b1, 0, none⟩) 3 3, .slice (some ⟨b2, 0, none⟩) 2 2, .slice none 0 0, .int .i64 4, .slice (some ⟨b6, 0, none⟩) 3 3] 27) := ⟨_, rfl⟩
  have HP1 : Hid (PhAt w1 X1 gb #[.slice (some ⟨b1, 0, none⟩) 3 3, .slice (some ⟨b2, 0, none⟩) 2 2, .slice none 0 0, .int .i64 4, .slice (some ⟨b6, 0, none⟩) 3 3]) := ⟨by rw [hX1]; exact World.grownBy_alloc _ _ none, by rw [hX1, hgb]; exact heap_alloc_last w1 _⟩
  have HGW : Hid (w.grownBy w1 none) := hg1
  have HXE := show Hid _ from hX1
  have HGE := show Hid _ from hgb
  clear hG1 hg1 hX1 hgb hOf hEs HOF HOX HES
  go_wp2_with fail
  rw [← HXE.out, ← HGE.out]
  refine Calls.mono (HLI.out X1 HP1.out.grown) ?_
  rintro e w2 ⟨g2, c2, rfl, r0, r1, hg2⟩
  have HP2 : Hid (PhAt w1 w2 gb #[.slice (some ⟨b1, 0, none⟩) 3 3, .slice (some ⟨b2, 0, none⟩) 2 2, .slice none 0 0, .int .i64 4, .slice (some ⟨b6, 0, none⟩) 3 3]) := HP1.out.kept hg2
  clear hg2 HP1 HXE HGE HLI
  obtain ⟨k0, k1, k2, k3, k4⟩ := HP2.out.cells
  have HWC : Hid (Calls Tryz.prog 13 #[.agg #[.slice (some ⟨b1, 0, none⟩) 3 3, .slice (some ⟨b2, 0, none⟩) 2 2, .slice none 0 0, .int .i64 4, .slice (some ⟨b6, 0, none⟩) 3 3], .int .i64 0, .slice (some ⟨w2.heap.size, 0, none⟩) 3 3] (w2.alloc (.cells #[.int .i64 4, .int .i64 1, .int .i64 2] 3)) fun e y => e = .returned (.tuple #[.int .i64 4, .int .i64 0]) ∧ (w2.alloc (.cells #[.int .i64 4, .int .i64 1, .int .i64 2] 3)).grownBy y none) := HWA.out _ _ (grown_trans HP2.out.grown (World.grownBy_alloc _ _ none)) (.inr ⟨w2.heap.size, 0, rfl, fun i hi => by
    have h2 : i = 0 ∨ i = 1 ∨ i = 2 := by simp at hi; omega
    rcases h2 with rfl | rfl | rfl <;> (rw [cell_of_row _ _ _ _ _ _ (heap_alloc_last w2 _)]; rfl)⟩)
  go_wp2_with fail
  refine Calls.mono HWC.out ?_
  rintro e w3 ⟨rfl, hg3⟩
  have HP3 : Hid (PhAt w1 w3 gb #[.slice (some ⟨b1, 0, none⟩) 3 3, .slice (some ⟨b2, 0, none⟩) 2 2, .slice none 0 0, .int .i64 4, .slice (some ⟨b6, 0, none⟩) 3 3]) := HP2.out.kept (grown_trans (World.grownBy_alloc _ _ none) hg3)
  have r0' := hg3.cell ((World.grownBy_alloc w2 (.cells #[.int .i64 4, .int .i64 1, .int .i64 2] 3) none).cell r0 (by simp)) (by simp)
  have r1' := hg3.cell ((World.grownBy_alloc w2 (.cells #[.int .i64 4, .int .i64 1, .int .i64 2] 3) none).cell r1 (by simp)) (by simp)
  clear hg3 HP2 HWC HWA k0 k1 k2 k3 k4 r0 r1
  obtain ⟨k0, k1, k2, k3, k4⟩ := HP3.out.cells
  go_wp2_with fail
  refine Calls.mono (HDI.out w3 HP3.out.grown) ?_
  rintro e w4 ⟨rb, a4, c4, rfl, y0, hg4⟩
  have q0 := hg4.cell r0' (by simp)
  have q1 := hg4.cell r1' (by simp)
  have HG4 : Hid (w.grownBy w4 none) := grown_trans HGW.out (grown_trans HP3.out.grown hg4)
  clear hg4 HP3 HDI k0 k1 k2 k3 k4 r0' r1' HGW
  go_wp2_with fail
  go_ret
  exact ⟨rfl, HG4.out⟩

end Go.Proofs.YtfcholpleeiddaaGreat.J

/-
  trans: the document's Next; the transitions by their numbers.
-/
namespace Go.Proofs.YtfcholpleeiddaaGreat.J
open Go.RowKit Go.Maps Go.Shelf

attribute [local go_sem] Oper.semAt_some

theorem neq_trans (p d p' d' : Int) (w : World) : (binOp .neq 39 (.agg #[.int .i64 p, .int .i64 d]) (.agg #[.int .i64 p', .int .i64 d'])).run Tryz.prog w = .ok (.bool (!(p == p' && d == d'))) w := by
  have u3 := Tryz.underlying3
  have a3 := Tryz.isAgg3
  have z3 := Tryz.sizeOf3
  have hS : Tryz.prog.underlying 39 = some (.struct (Tryz.prog.fieldsOf 39)) := by kernel_rfl
  have hp : Tryz.prog.stoodInHeld 39 = false := by kernel_rfl
  rw [run_neq_struct, show (10000 : Nat) = 9999 + 1 from rfl, run_equalIn_agg w 9999 39 _ _ hS hp]
  simp only [Program.fieldsOf, Tryz.underlying39]
  go_simp
  by_cases h1 : p = p' <;> by_cases h2 : d = d' <;> simp [h1, h2]
theorem nextL_cons_no {x : Nat × Nat} {l : List (Nat × Nat)} {s : Int} (h : ¬ (x.1 : Int) = s) : nextL (x :: l) s = nextL l s := by
  unfold nextL
  rw [List.find?_cons]
  simp [h]
theorem nextL_found {l : List (Nat × Nat)} {s : Int} {j : Nat} (hj : j < l.length) (h : ((l.getD j (0, 0)).1 : Int) = s) (hno : ∀ i, i < j → ¬ ((l.getD i (0, 0)).1 : Int) = s) : nextL l s = some ((l.getD j (0, 0)).2 : Int) := by
  induction l generalizing j with
  | nil => cases hj
  | cons x l ih =>
    cases j with
    | zero =>
      unfold nextL
      rw [List.find?_cons]
      have h' : (x.1 : Int) = s := h
      simp [h']
    | succ j =>
      rw [nextL_cons_no (x := x) (hno 0 (Nat.succ_pos _))]
      exact ih (by simpa using hj) h fun i hi => hno (i + 1) (by omega)
theorem nextL_none {l : List (Nat × Nat)} {s : Int} (hno : ∀ i, i < l.length → ¬ ((l.getD i (0, 0)).1 : Int) = s) : nextL l s = none := by
  induction l with
  | nil => rfl
  | cons x l ih =>
    rw [nextL_cons_no (x := x) (hno 0 (by simp))]
    exact ih fun i hi => hno (i + 1) (by simpa using hi)

set_option maxRecDepth 100000 in
theorem rnext_any (sa : Option Addr) (sc : Nat) (ask nI : Int) (w : World) (B : Nat) (ks : List (List It)) (es : List (List (Nat × Nat))) (kv ev : Nat → Value) (hP : AutP B w (.slice sa ks.length sc) ks (elF es) kv ev) (hEl : ∀ q, (es.getD q []).length ≤ 130) (q : Nat) (hq : q < ks.length) (s : Int) :
    Calls Tryz.prog 31 #[.agg #[.slice sa ks.length sc, .int .i64 ask, .int .i64 nI], .int .i64 (q : Int), .int .i64 s] w fun e y => e = .returned (.int .i64 (wayV (nextL (es.getD q []) s))) ∧ w.grownBy y none := by
  have hg0 : w.grownBy (w.alloc (.cells #[.slice sa ks.length sc, .int .i64 ask, .int .i64 nI] 49)) none := World.grownBy_alloc _ _ none
  have hPZ := hP.kept hg0
  obtain ⟨sb, sc', hsv, _, hs1⟩ := hPZ.st hq
  simp only [Value.slice.injEq] at hsv
  obtain ⟨rfl, _, rfl⟩ := hsv
  obtain ⟨ea, ec, hev, hei⟩ := hPZ.edgAt hq
  rw [hev] at hs1
  obtain ⟨N, hN⟩ : ∃ n, n = ks.length := ⟨_, rfl⟩
  obtain ⟨E, hE⟩ : ∃ E, E = (elF es q).length := ⟨_, rfl⟩
  rw [← hE] at hs1
  rw [← hN] at hs1 hg0 hei hq ⊢
  have HE : Hid (E = (es.getD q []).length) := by show _ = _; rw [hE]; exact elF_len _ _
  have hEb : E ≤ 130 := by rw [HE.out]; exact hEl q
  have HEI : Hid (∀ Y, (w.alloc (.cells #[.slice (some ⟨sb, 0, none⟩) N sc, .int .i64 ask, .int .i64 nI] 49)).grownBy Y none → ItsAt Y ea (elF es q)) := fun Y hY => hei.kept hY
  have HG0 : Hid (w.grownBy (w.alloc (.cells #[.slice (some ⟨sb, 0, none⟩) N sc, .int .i64 ask, .int .i64 nI] 49)) none) := hg0
  have hq0 : (0 : Int) ≤ (q : Int) := by omega
  have hq1 : (q : Int) < (N : Int) := by omega
  obtain ⟨r, hr⟩ : ∃ r, r = wayV (nextL (es.getD q []) s) := ⟨_, rfl⟩
  have HRR : Hid (r = wayV (nextL (es.getD q []) s)) := hr
  rw [← hr]
  clear hP hPZ hev hei hE hN hg0 hEl hr
  go_enter Tryz.func31, Tryz.ntmps31
  go_wp2_with fail
  obtain ⟨W, hW⟩ : ∃ W, W = w.alloc (.cells #[.slice (some ⟨sb, 0, none⟩) N sc, .int .i64 ask, .int .i64 nI] 49) := ⟨_, rfl⟩
  rw [← hW] at HEI HG0 ⊢
  clear hW hs1
  go_loopg [8] E (fun gk v8 wr => ∃ j : Nat, j ≤ E ∧ gk = E - j ∧ v8 = .int .i64 j ∧ W.grownBy wr none ∧ ∀ i, i < j → ¬ (((es.getD q []).getD i (0, 0)).1 : Int) = s)
  case atStart => exact ⟨0, Nat.zero_le _, rfl, rfl, grown_refl _ _, fun i hi => absurd hi (Nat.not_lt_zero _)⟩
  case round =>
    obtain ⟨j, hj, hgj, rfl, hg, hno⟩ := hrel
    have HGJ : Hid (gk = E - j) := hgj
    have HG : Hid (W.grownBy wr none) := hg
    have HNO := show Hid _ from hno
    clear hgj hg hno
    by_cases hlt : j < E
    · have hjd : decide (j < E) = true := decide_eq_true hlt
      have hj0 : (0 : Int) ≤ (j : Int) := by omega
      have hj1 : (j : Int) < (E : Int) := by omega
      have hje : j < (es.getD q []).length := by rw [← HE.out]; exact hlt
      obtain ⟨eb, eo, hea, c0, c1⟩ := (HEI.out wr HG.out).cellAt (i := j) (by rw [elF_len]; exact hje)
      subst hea
      rw [(elF_at hje).2] at c0 c1
      by_cases hs : (((es.getD q []).getD j (0, 0)).1 : Int) = s
      · have HF : Hid (nextL (es.getD q []) s = some (((es.getD q []).getD j (0, 0)).2 : Int)) := nextL_found hje hs HNO.out
        obtain ⟨t, ht⟩ : ∃ t : Nat, t = ((es.getD q []).getD j (0, 0)).2 := ⟨_, rfl⟩
        rw [← ht] at c1 HF
        simp only at c0
        rw [hs] at c0
        have hss : (s == s) = true := beq_self_eq_true _
        clear hs ht hje
        go_wp2_with fail
        go_ret
        exact ⟨by rw [HRR.out, HF.out]; rfl, grown_trans HG0.out HG.out⟩
      · have HNS : Hid (¬ (((es.getD q []).getD j (0, 0)).1 : Int) = s) := hs
        obtain ⟨u, hu⟩ : ∃ u : Int, u = (((es.getD q []).getD j (0, 0)).1 : Int) := ⟨_, rfl⟩
        simp only at c0
        rw [← hu] at c0 hs
        have hss : (u == s) = false := beq_eq_false_iff_ne.2 hs
        clear hs hu hje c1
        go_wp2_with fail
        go_roundg (E - (j + 1))
        case measure => have := HGJ.out; omega
        case rel => exact ⟨j + 1, by omega, rfl, by go_num, HG.out, fun i hi => by
          by_cases e : i = j
          · rw [e]; exact HNS.out
          · exact HNO.out i (by omega)⟩
    · have hjE : E = j := by omega
      subst hjE
      have hjd : decide (E < E) = false := decide_eq_false (by omega)
      have HF : Hid (nextL (es.getD q []) s = none) := nextL_none (by rw [← HE.out]; exact HNO.out)
      go_wp2_with fail
      go_ret
      exact ⟨by rw [HRR.out, HF.out]; rfl, grown_trans HG0.out HG.out⟩

theorem trT_prefix (tn : Nat) (es : List (List (Nat × Nat))) {i N : Nat} (h : i ≤ N) : trT tn es i <+: trT tn es N := by
  obtain ⟨d, rfl⟩ : ∃ d, N = i + d := ⟨N - i, by omega⟩
  clear h
  induction d with
  | zero => exact List.prefix_refl _
  | succ d ih => exact ih.trans (List.prefix_append _ _)
theorem trI_prefix (tn : Nat) {l m : List (Nat × Nat)} (i : Nat) (h : l <+: m) : trI tn l i <+: trI tn m i := by
  obtain ⟨t, rfl⟩ := h
  unfold trI
  rw [List.filter_append, List.map_append]
  exact List.prefix_append _ _
/-- The transition of an edge, and its number. -/
theorem trT_at {tn : Nat} {es : List (List (Nat × Nat))} {q N j s t : Nat} (hq : q < N) (hj : j < (es.getD q []).length) (he : (es.getD q []).getD j (0, 0) = (s, t)) (hs : tn ≤ s) : (trT tn es q ++ trI tn ((es.getD q []).take j) q).length < (trT tn es N).length ∧ (trT tn es N).getD (trT tn es q ++ trI tn ((es.getD q []).take j) q).length (0, 0) = ((q : Int), (s : Int)) := by
  have h1 : trT tn es q ++ trI tn ((es.getD q []).take (j + 1)) q = (trT tn es q ++ trI tn ((es.getD q []).take j) q) ++ [((q : Int), (s : Int))] := by
    rw [take_snocE hj he, trI_snoc, if_pos hs, List.append_assoc]
  have h2 : trT tn es q ++ trI tn ((es.getD q []).take (j + 1)) q <+: trT tn es N := by
    refine List.IsPrefix.trans ?_ (trT_prefix tn es (i := q + 1) hq)
    exact (List.prefix_append_right_inj _).2 (trI_prefix tn q (List.take_prefix _ _))
  rw [h1] at h2
  have h3 := h2.length_le
  rw [List.length_append, List.length_singleton] at h3
  refine ⟨by omega, ?_⟩
  rw [getD_prefix h2 (by simp), getD_snoc_new]


end Go.Proofs.YtfcholpleeiddaaGreat.J
