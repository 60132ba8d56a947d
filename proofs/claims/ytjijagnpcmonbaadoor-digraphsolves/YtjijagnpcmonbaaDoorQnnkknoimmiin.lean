import Derived.Test.YtjijagnpcmonbaaDoorQfiagiddocdme
import Derived.Test.YtjijagnpcmonbaaDoorQboobcegjoggh
import Derived.Test.YtjijagnpcmonbaaDoorQhjaphfjdidgb
import Derived.Deep.RegionHeld3

/-
  digraph: Components.
-/
namespace Go.Proofs.YtjijagnpcmonbaaDoor.J
open Go.RowKit Go.Maps Go.Shelf D

attribute [local go_sem] Oper.semAt_some

theorem infoRows : (Tryd.prog.info? 28).map (fun i => (i.zero, i.size, i.bytes)) = some (some (.slice none 0 0), 1, 24) := by kernel_rfl

theorem least_idem {N : Nat} {E : Nat → List Nat} {ls : Nat → Nat} (h : ∀ x, x < N → IsLeast N E x (ls x)) {k : Nat} (hk : k < N) : ls k ≤ k ∧ ls (ls k) = ls k := by
  obtain ⟨h1, h2, h3, h4⟩ := h k hk
  refine ⟨h4 k (.refl _) (.refl _), ?_⟩
  refine (h (ls k) h1).unique ⟨h1, .refl _, .refl _, fun y h5 h6 => h4 y (h2.trans h5) (h6.trans h3)⟩

theorem lsts_len (ls : Nat → Nat) (k : Nat) : (lsts ls k).length ≤ k := by
  unfold lsts
  have := List.length_filter_le (fun x => decide (ls x = x)) (List.range k)
  simpa using this
theorem cmpL_len (ls : Nat → Nat) (k j : Nat) : ((cmpL ls k).getD j []).length ≤ k := by
  unfold cmpL
  rw [List.getD_eq_getElem?_getD, List.getElem?_map]
  cases (lsts ls k)[j]? with
  | none => exact Nat.zero_le _
  | some l =>
    show ((List.range k).filter _).length ≤ k
    have := List.length_filter_le (fun y => decide (ls y = l)) (List.range k)
    simpa using this

/-- What Components tells of edges that lead to nodes alone. -/
def CmpTold (N : Nat) (E : Nat → List Nat) (w : World) (e : Ending) (y : World) : Prop := ∃ (ls : Nat → Nat) (ka : Option Addr) (kc K : Nat) (Q : Nat → List Nat) (ua : Nat → Option Addr) (uc : Nat → Nat), e = .returned (.tuple #[.slice ka K kc, .int .i64 0]) ∧ K = (cmpL ls N).length ∧ (∀ j, j < K → Q j = (cmpL ls N).getD j []) ∧ (∀ x, x < N → IsLeast N E x (ls x)) ∧ CqP y w.heap.size ka kc K Q ua uc ∧ w.grownBy y none

set_option maxRecDepth 100000 in
set_option maxHeartbeats 4000000 in
theorem comp_ok (w : World) (N : Nat) (ea : Option Addr) (ec : Nat) (E : Nat → List Nat) (ua : Nat → Option Addr) (uc : Nat → Nat) (hL : LsAt w ea N (fun i => intL (E i)) ua uc) (hN : N ≤ 5864062014805) (hQ : ∀ i, i < N → (E i).length ≤ 17592186044416) (hE : ∀ x, x < N → ∀ y ∈ E x, y < N) :
    Calls Tryd.prog 6 #[.slice ea N ec] w fun e y => CmpTold N E w e y := by
  have HB := show Hid _ from below_any (N : Int) ea N ec (fun i => intL (E i)) ua uc w hL (by omega) (fun i hi => by rw [intL_length]; exact hQ i hi) true (by
    refine ⟨fun _ i hi x hx => ?_, fun _ => rfl⟩
    unfold intL at hx
    obtain ⟨y, hy, rfl⟩ := List.mem_map.1 hx
    have := hE i hi y hy
    omega)
  have HEA : Hid (∀ (X : World) (pb lm : Nat), lm < X.heap.size → pb < X.heap.size → (CiAt w X N E pb lm (fun _ => false) (fun _ => 0)) → Calls Tryd.prog 15 #[.slice ea N ec, .func (.func 16) #[] #[.pointer (some ⟨pb, 0, none⟩)]] X fun e y => e = .returned (.tuple #[]) ∧ ∃ C, (∃ ls, CiAt w y N E pb lm C ls) ∧ ∀ x, x < N → C x = true) := fun X pb lm h1 h2 h3 =>
    each_anyC (fun X C => ∃ ls, CiAt w X N E pb lm C ls) X N ea ec E ua uc pb hN hE hQ (fun X' Y' C ⟨ls, h⟩ hk => ⟨ls, h.skept ⟨h1, h2, h3.grown.size⟩ hk⟩) (fun X' C ⟨ls, h⟩ => hL.kept h.grown) (fun X' C c a cap ⟨ls, h⟩ hc hi hab => by
      refine compF_any w X' N E pb lm X.heap.size C ls h h1 hN c hc a cap hi (fun rb ro e => ?_)
      have := (hab rb ro e).1
      omega) ⟨_, h3⟩
  obtain ⟨i0, hi0, hz0, hz1, hz2⟩ := info_parts infoInt
  obtain ⟨i1, hi1, hy0, hy1, hy2⟩ := info_parts infoRows
  clear hL hQ hE
  go_enter Tryd.func6, Tryd.ntmps6
  go_wp2_with fail
  refine Calls.mono HB.out ?_
  rintro e y ⟨rfl, hy⟩
  subst hy
  clear HB
  go_wp2_with (at_make; refine wpList_make_full _ rfl _ _ 28 rfl y.heap.size 3 i0 (.int .i64 0) 1 Tryd.underlying28 hi0 hz0 hz1 .i64 .i64 _ _ N rfl rfl (by simp) (by simp) (by rw [hz2]; omega) (by unfold maxLen; omega) (by simp) ?_)
  intro w3 hown hgrow
  have hval : ValAt w3 y.heap.size N 3 (fun _ => .int .i64 0) := made_rowK (B := y.heap.size) rfl (by simpa [Value.cells] using hown)
  obtain ⟨lm, hlm⟩ : ∃ b, b = y.heap.size := ⟨_, rfl⟩
  have hlm2 : y.heap.size ≤ lm := by omega
  rw [← hlm] at hval
  rw [← hlm]
  have hga : w3.grownBy (w3.alloc (.cells #[.slice (some ⟨lm, 0, none⟩) N N] 28)) none := World.grownBy_alloc _ _ none
  have hsz : (w3.alloc (.cells #[.slice (some ⟨lm, 0, none⟩) N N] 28)).heap.size = w3.heap.size + 1 := by simp
  have HC0 : Hid (CiAt y (w3.alloc (.cells #[.slice (some ⟨lm, 0, none⟩) N N] 28)) N E w3.heap.size lm (fun _ => false) (fun _ => 0)) := ⟨grown_trans hgrow hga, heap_alloc_last w3 _, hval.kept hga, ⟨hlm2, hgrow.size⟩, ClosedC.start, fun x _ h => by cases h⟩
  have HE0 := show Hid _ from HEA.out _ w3.heap.size lm (by rw [hsz]; have := hval.lt; omega) (by rw [hsz]; omega) HC0.out
  clear hown hgrow hval hlm hga hsz HC0 HEA
  go_wp2_with fail
  refine Calls.mono HE0.out ?_
  rintro e w4 ⟨rfl, C, ⟨ls, hC⟩, hall⟩
  have HC := show Hid _ from hC
  have HLS : Hid (∀ x, x < N → IsLeast N E x (ls x)) := fun x hx => hC.lst x hx (hall x hx)
  obtain ⟨pb, hpb⟩ : ∃ b, b = w3.heap.size := ⟨_, rfl⟩
  rw [← hpb] at HC ⊢
  clear hC hall HE0 hpb
  go_wp2_with (at_make; refine wpList_make_full _ rfl _ _ 28 rfl w4.heap.size 3 i0 (.int .i64 0) 1 Tryd.underlying28 hi0 hz0 hz1 .i64 .i64 _ _ N rfl rfl (by simp) (by simp) (by rw [hz2]; omega) (by unfold maxLen; omega) (by simp) ?_)
  intro w5 hown hgrow
  have hval : ValAt w5 w4.heap.size N 3 (fun _ => .int .i64 0) := made_rowK (B := w4.heap.size) rfl (by simpa [Value.cells] using hown)
  obtain ⟨plb, hplb⟩ : ∃ b, b = w4.heap.size := ⟨_, rfl⟩
  rw [← hplb] at hval
  rw [← hplb]
  obtain ⟨B, hB⟩ : ∃ b, b = w5.heap.size := ⟨_, rfl⟩
  have hplB : plb < B := by rw [hB]; exact hval.lt
  have hlmB : lm < B := by have := HC.out.val.lt; have := hgrow.size; omega
  have HyB : Hid (y.heap.size ≤ B) := by rw [hB]; exact Nat.le_trans HC.out.grown.size hgrow.size
  have HGV0 : Hid (y.grownBy w5 none) := grown_trans HC.out.grown hgrow
  have HLV0 : Hid (ValAt w5 lm N 3 (fun i => .int .i64 (ls i : Int))) := HC.out.val.kept hgrow
  have HPV0 : Hid (ValAt w5 plb N 3 (fun i => .int .i64 ((0 : Nat) : Int))) := hval
  have HB0 : Hid (B ≤ w5.heap.size) := by rw [hB]; exact Nat.le_refl _
  have b0 : w5.cell? ⟨pb, 0, none⟩ = some (.slice (some ⟨lm, 0, none⟩) N N) := by rw [cell_of_row _ _ _ _ _ _ (box_kept HC.out.box hgrow)]; rfl
  have hlp : lm < plb := by rw [hplb]; exact HC.out.val.lt
  clear hown hgrow hval hplb hB HC
  go_wp2_with fail
  clear b0
  go_loopg [5, 25] N (fun gk v5 v25 wr => ∃ (k K kc : Nat) (ka : Option Addr) (Q : Nat → List Nat) (ua' : Nat → Option Addr) (uc' : Nat → Nat) (pf : Nat → Nat), k ≤ N ∧ gk = N - k ∧ v5 = .slice ka K kc ∧ v25 = .int .i64 k ∧ K = (cmpL ls k).length ∧ (∀ j, j < K → Q j = (cmpL ls k).getD j []) ∧ CqP wr B ka kc K Q ua' uc' ∧ ValAt wr plb N 3 (fun i => .int .i64 (pf i : Int)) ∧ ValAt wr lm N 3 (fun i => .int .i64 (ls i : Int)) ∧ y.grownBy wr none ∧ B ≤ wr.heap.size ∧ ∀ l, l < k → ls l = l → pf l = (lsts ls l).length)
  case atStart => exact ⟨0, 0, 0, none, fun _ => [], fun _ => none, fun _ => 0, fun _ => 0, Nat.zero_le _, rfl, rfl, rfl, rfl, fun j hj => absurd hj (Nat.not_lt_zero _), CqP.nil _ _ _ _ _, HPV0.out, HLV0.out, HGV0.out, HB0.out, fun l hl => absurd hl (Nat.not_lt_zero _)⟩
  case round =>
    clear HPV0 HLV0 HGV0 HB0
    obtain ⟨k, K, kc, ka, Q, ua1, uc1, pf, hk, hgk, rfl, rfl, hK, hQe, hCq, hPv, hLv, hGv, hBv, hpf⟩ := hrel
    have HGK : Hid (gk = N - k) := hgk
    have HK : Hid (K = (cmpL ls k).length) := hK
    have HQE : Hid (∀ j, j < K → Q j = (cmpL ls k).getD j []) := hQe
    have HQ0 := show Hid _ from hCq
    have HPV0 : Hid (ValAt wr plb N 3 (fun i => .int .i64 (pf i : Int))) := hPv
    have HLV0 : Hid (ValAt wr lm N 3 (fun i => .int .i64 (ls i : Int))) := hLv
    have HGV0 := show Hid _ from hGv
    have HBV0 : Hid (B ≤ wr.heap.size) := hBv
    have HPF : Hid (∀ l, l < k → ls l = l → pf l = (lsts ls l).length) := hpf
    clear hgk hK hQe hCq hPv hLv hGv hBv hpf
    by_cases hlt : k < N
    · have hkd : decide (k < N) = true := decide_eq_true hlt
      have hk0 : (0 : Int) ≤ (k : Int) := by omega
      have hk1 : (k : Int) < (N : Int) := by omega
      have c0 := HLV0.out.cell k hlt
      obtain ⟨hlk, hll⟩ := least_idem HLS.out hlt
      obtain ⟨l, hl⟩ : ∃ l, l = ls k := ⟨_, rfl⟩
      rw [← hl] at c0 hlk hll
      have HL : Hid (l = ls k) := hl
      have hlN : l < N := by omega
      have hl0 : (0 : Int) ≤ (l : Int) := by omega
      have hl1 : (l : Int) < (N : Int) := by omega
      clear hl
      have HKB : Hid (K ≤ k) := by rw [HK.out, cmpL_length]; exact lsts_len ls k
      have hKb : K ≤ 5864062014805 := by have := HKB.out; omega
      clear HKB
      by_cases hlk2 : l = k
      · subst hlk2
        have hlx : ((l : Int) == (l : Int)) = true := beq_self_eq_true _
        have zl := HPV0.out.cell l hlN
        have zf := HPV0.out.free l
        obtain ⟨pz, hpz⟩ : ∃ x, x = pf l := ⟨_, rfl⟩
        rw [← hpz] at zl
        obtain ⟨X1, hX1⟩ : ∃ X, X = wr.setCell ⟨plb, l, none⟩ (.int .i64 (K : Int)) := ⟨_, rfl⟩
        have hG1 : wr.grownBy X1 (some plb) := by rw [hX1]; exact grown_setCell _ _ _
        have hGA : X1.grownBy (X1.alloc (.cells #[.slice none 0 0] 28)) none := World.grownBy_alloc _ _ none
        have hCq1 := (HQ0.out.below hG1 hplB).kept hGA
        have hPv1 : ValAt X1 plb N 3 (fun i => .int .i64 (upd pf l K i : Int)) := by
          rw [hX1]
          refine (HPV0.out.set l _).ext fun i _ => ?_
          unfold put upd
          by_cases e : i = l
          · rw [if_pos e, if_pos e]
          · rw [if_neg e, if_neg e]
        have hyp : y.heap.size ≤ plb := by omega
        have hLv1 : ValAt X1 lm N 3 (fun i => .int .i64 (ls i : Int)) := HLV0.out.at hG1 (by omega)
        have HCQ := show Hid _ from hCq1
        have HPVa : Hid (ValAt (X1.alloc (.cells #[.slice none 0 0] 28)) plb N 3 (fun i => .int .i64 (upd pf l K i : Int))) := hPv1.kept hGA
        have HLVa : Hid (ValAt (X1.alloc (.cells #[.slice none 0 0] 28)) lm N 3 (fun i => .int .i64 (ls i : Int))) := hLv1.kept hGA
        have HGVa : Hid (y.grownBy (X1.alloc (.cells #[.slice none 0 0] 28)) none) := grown_trans (grown_new HGV0.out hG1 hyp) hGA
        have HBVa : Hid (B ≤ (X1.alloc (.cells #[.slice none 0 0] 28)).heap.size) := Nat.le_trans (Nat.le_trans HBV0.out hG1.size) hGA.size
        have HNX : Hid (∀ j z, [Value.slice none 0 0][j]? = some z → (X1.alloc (.cells #[.slice none 0 0] 28)).cell? ((⟨X1.heap.size, 0, none⟩ : Addr).add j) = some z) := news_new X1 _ _
        have hsz : X1.heap.size = wr.heap.size := by rw [hX1]; simp
        rw [hsz] at HNX
        rw [hX1] at HCQ HPVa HLVa HGVa HBVa HNX
        clear hpz hG1 hGA hCq1 hPv1 hyp hLv1 hsz hX1
        go_wp2_with (at_builtin; refine wpList_append_srcW rfl (.tmp 38) (.tmp 39) 22 rfl B 28 i1 (.slice none 0 0) 1 24 Tryd.underlying22 hi1 hy0 hy1 hy2 rfl (by decide) (.slice ka K kc) K (rowsC K Q ua1 uc1) rfl HCQ.out.out (some ⟨wr.heap.size, 0, none⟩) 1 1 [.slice none 0 0] rfl (fun h => by cases h) rfl (fun ad e => by cases e; exact HNX.out) (by simp [Value.oneCell']) (by unfold maxLen; omega) (by omega) HBVa.out ?_; intro v6 V hoB hgB; obtain ⟨ka6, kc6, rfl⟩ := owns_slice hoB; have HQ := show Hid _ from HCQ.out.push hgB hoB; have HPV : Hid (ValAt V plb N 3 (fun i => .int .i64 (upd pf l K i : Int))) := box_row HPVa.out HCQ.out.out (by decide) hgB; have HLV : Hid (ValAt V lm N 3 (fun i => .int .i64 (ls i : Int))) := box_row HLVa.out HCQ.out.out (by decide) hgB; have HGV : Hid (y.grownBy V none) := grown_row HGVa.out HCQ.out.out HyB.out hgB; have HBV : Hid (B ≤ V.heap.size) := Nat.le_trans HBVa.out hgB.size; clear hoB hgB)
        obtain ⟨Q1, hQ1⟩ : ∃ q, q = updC Q K [] := ⟨_, rfl⟩
        obtain ⟨ua2, hua2⟩ : ∃ q, q = updC ua1 K none := ⟨_, rfl⟩
        obtain ⟨uc2, huc2⟩ : ∃ q, q = updC uc1 K 0 := ⟨_, rfl⟩
        obtain ⟨pf1, hpf1⟩ : ∃ q, q = upd pf l K := ⟨_, rfl⟩
        rw [← hQ1, ← hua2, ← huc2] at HQ
        rw [← hpf1] at HPV
        have hQK : Q1 K = [] := by rw [hQ1, updC_same]
        have HPJ : Hid (pf1 l = K) := by rw [hpf1]; exact upd_same _ _ _
        have cp := HPV.out.cell l hlN
        rw [HPJ.out] at cp
        have hcl := cmpL_new (ls := ls) (k := l) (fun y' hy' => (least_idem HLS.out (show y' < N by omega)).1) HL.out.symm
        have HKN : Hid (K + 1 = (cmpL ls (l + 1)).length) := by show _ = _; rw [hcl, List.length_append, ← HK.out]; rfl
        have HQN : Hid (∀ j, j < K + 1 → updC Q1 K (Q1 K ++ [l]) j = (cmpL ls (l + 1)).getD j []) := fun j hj => by
          rw [hcl]
          by_cases e : j = K
          · rw [e, updC_same, hQK, HK.out, List.getD_eq_getElem?_getD, List.getElem?_append_right (Nat.le_refl _), Nat.sub_self]; rfl
          · rw [updC_other _ _ e, hQ1, updC_other _ _ e, HQE.out j (by omega), List.getD_eq_getElem?_getD, List.getD_eq_getElem?_getD, List.getElem?_append_left (by rw [← HK.out]; omega)]
        have HPN : Hid (∀ l', l' < l + 1 → ls l' = l' → pf1 l' = (lsts ls l').length) := fun l' h1 h2 => by
          rw [hpf1]
          by_cases e : l' = l
          · rw [e, upd_same, HK.out, cmpL_length]
          · rw [upd_other _ _ e]; exact HPF.out l' (by omega) h2
        have HQB : Hid ((Q1 K).length ≤ 5864062014805) := by rw [hQK]; exact Nat.zero_le _
        have hj : K < K + 1 := by omega
        clear hQ1 hua2 huc2 hpf1 hQK hcl HCQ HPVa HLVa HGVa HBVa HNX HQ0 HPV0 HLV0 HGV0 HBV0 zl zf c0
        obtain ⟨kb, kcap, hkb, hkcell⟩ := owns_at HQ.out.out (by omega)
        simp only [Value.slice.injEq] at hkb
        obtain ⟨rfl, -, rfl⟩ := hkb
        have cj := hkcell K _ (rowsC_at _ _ _ hj)
        obtain ⟨fa, hfa⟩ : ∃ a, a = ua2 K := ⟨_, rfl⟩
        obtain ⟨fc, hfc⟩ : ∃ a, a = uc2 K := ⟨_, rfl⟩
        obtain ⟨m, hm⟩ : ∃ m, m = (Q1 K).length := ⟨_, rfl⟩
        rw [← hfa, ← hfc, ← hm] at cj
        have hj0 : (0 : Int) ≤ (K : Int) := by omega
        have hj1 : (K : Int) < ((K + 1) : Int) := by omega
        have HOW : Hid (∀ Y, V.grownBy Y none → Y.ownsRow B 3 1 (.slice fa m fc) m (natV (Q1 K))) := fun Y hY => by
          have h1 := (HQ.out.kept hY).inn K hj
          rw [← hfa, ← hfc, ← hm] at h1
          exact h1
        have HPS : Hid (∀ Y, V.grownBy Y none → B ≤ Y.heap.size) := fun Y hY => Nat.le_trans HBV.out hY.size
        have HFIN : Hid (∀ (Y W : World) (g c : Nat), V.grownBy Y none → Y.grownBy W (Value.slice fa m fc).ownBlock → W.ownsRow B 3 1 (.slice (some ⟨g, 0, none⟩) (m + 1) c) (m + 1) (natV (Q1 K) ++ [.int .i64 (l : Int)]) → ((Value.slice fa m fc).ownBlock = some g ∨ g = Y.heap.size) → (W.cell? ⟨kb, K, none⟩ = some (.slice fa m fc) ∧ W.frozen? ⟨kb, K, none⟩ = false) ∧ W.cell? ⟨plb, l, none⟩ = some (.int .i64 (K : Int)) ∧ CqP (W.setCell ⟨kb, K, none⟩ (.slice (some ⟨g, 0, none⟩) (m + 1) c)) B (some ⟨kb, 0, none⟩) kc6 (K + 1) (updC Q1 K (Q1 K ++ [l])) (updC ua2 K (some ⟨g, 0, none⟩)) (updC uc2 K c) ∧ ValAt (W.setCell ⟨kb, K, none⟩ (.slice (some ⟨g, 0, none⟩) (m + 1) c)) plb N 3 (fun i => .int .i64 (pf1 i : Int)) ∧ ValAt (W.setCell ⟨kb, K, none⟩ (.slice (some ⟨g, 0, none⟩) (m + 1) c)) lm N 3 (fun i => .int .i64 (ls i : Int)) ∧ y.grownBy (W.setCell ⟨kb, K, none⟩ (.slice (some ⟨g, 0, none⟩) (m + 1) c)) none ∧ B ≤ (W.setCell ⟨kb, K, none⟩ (.slice (some ⟨g, 0, none⟩) (m + 1) c)).heap.size) := fun Y W g c hY hg ho hat => by
          have hq := HQ.out.kept hY
          have hin := hq.inn K hj
          rw [hfa, hfc, hm] at hg hat
          rw [hm] at ho
          obtain ⟨q1, q2⟩ := hq.add hj hg ho hat
          rw [hfa, hfc, hm]
          have hs : W.grownBy (W.setCell ⟨kb, K, none⟩ (.slice (some ⟨g, 0, none⟩) ((Q1 K).length + 1) c)) (some kb) := grown_setCell _ _ _
          have hlow : ∀ b, b < B → ∀ {len : Nat} {f : Nat → Value}, ValAt V b len 3 f → ValAt (W.setCell ⟨kb, K, none⟩ (.slice (some ⟨g, 0, none⟩) ((Q1 K).length + 1) c)) b len 3 f := fun b hb len f hv => by
            have h1 := hv.kept hY
            have h2 : ValAt W b len 3 f := (hg.block b h1.lt (by
              intro e
              have h3 := (hin.lt b e.symm).1
              omega)).trans h1
            obtain ⟨g5, _, hkv, _⟩ := owns_at hq.out (by omega)
            have hkB : B ≤ kb := by
              have h4 := (hq.out.lt kb rfl).1
              exact h4
            exact (hs.block b h2.lt (by
              intro e
              have : b = kb := by simpa using e
              omega)).trans h2
          have hkB : B ≤ kb := (hq.out.lt kb rfl).1
          refine ⟨q1, ?_, q2, hlow plb hplB HPV.out, hlow lm hlmB HLV.out, ?_, ?_⟩
          · have h1 := HPV.out.kept hY
            have h2 : ValAt W plb N 3 (fun i => .int .i64 (pf1 i : Int)) := (hg.block plb h1.lt (by
              intro e
              have h3 := (hin.lt plb e.symm).1
              omega)).trans h1
            have h5 := h2.cell l hlN
            rw [HPJ.out] at h5
            exact h5
          · exact grown_new (grown_row (grown_trans HGV.out hY) hin (Nat.le_trans HyB.out (Nat.le_refl _)) hg) hs (Nat.le_trans HyB.out hkB)
          · exact Nat.le_trans (HPS.out _ hY) (Nat.le_trans hg.size hs.size)
        obtain ⟨xs, hxs⟩ : ∃ xs, xs = natV (Q1 K) := ⟨_, rfl⟩
        rw [← hxs] at HOW HFIN
        have p2 : ∀ o, (V.alloc o).cell? ⟨plb, l, none⟩ = some (.int .i64 (K : Int)) := fun o => (World.grownBy_alloc _ o none).cell cp (by simp)
        have p3 : ∀ o, (V.alloc o).cell? ⟨kb, K, none⟩ = some (.slice fa m fc) := fun o => (World.grownBy_alloc _ o none).cell cj (by simp)
        have hmb : m ≤ 5864062014805 := by rw [hm]; exact HQB.out
        clear hfa hfc hm hxs hkcell
        go_region_law (first
          | (refine step_append_liesW _ rfl (.tmp 52) (.tmp 54) 28 rfl B 3 i0 (.int .i64 0) 1 8 Tryd.underlying28 hi0 hz0 hz1 hz2 rfl (by decide) (.slice fa m fc) m xs (by simp [Act.eval]) (HOW.out _ (grown_trans (World.grownBy_alloc _ _ none) (grown_drewN _ _))) ⟨V.heap.size, 0, none⟩ 1 1 [.int .i64 (l : Int)] (by simp [Act.eval]) rfl (World.news_of_block (heap_alloc_last V _)) (by simp [Value.oneCell']) (by decide) (by unfold maxLen; omega) (by omega) (HPS.out _ (grown_trans (World.grownBy_alloc _ _ none) (grown_drewN _ _))) ?_; intro g9 c9 wB hoB hgB hat; obtain ⟨⟨q1, q2⟩, q3, q4, q5, q6, q7, q8⟩ := HFIN.out _ wB g9 c9 (grown_trans (World.grownBy_alloc _ _ none) (grown_drewN _ _)) hgB hoB hat; have HQ4 := show Hid _ from q4; have HQ5 : Hid (ValAt _ plb N 3 _) := q5; have HQ6 : Hid (ValAt _ lm N 3 _) := q6; have HQ7 := show Hid _ from q7; have HQ8 : Hid (B ≤ _) := q8; clear q4 q5 q6 q7 q8 hoB hgB hat)
          | fail)
        all_goals go_wp2_with fail
        all_goals go_roundg (N - (l + 1))
        all_goals first
          | exact (show ∃ (k' K' : Nat), _ from ⟨l + 1, K + 1, kc6, some ⟨kb, 0, none⟩, updC Q1 K (Q1 K ++ [l]), _, _, pf1, by omega, rfl, rfl, by go_num, HKN.out, HQN.out, HQ4.out, HQ5.out, HQ6.out, HQ7.out, HQ8.out, HPN.out⟩)
          | (have := HGK.out; omega)
      · skip
        have hlk3 : l < k := by omega
        have hlx : ((k : Int) == (l : Int)) = false := beq_eq_false_iff_ne.2 (by omega)
        have hlx2 : (k == l) = false := beq_eq_false_iff_ne.2 (by omega)
        obtain ⟨j, hjd⟩ : ∃ j, j = (lsts ls l).length := ⟨_, rfl⟩
        have hat := lsts_at (ls := ls) hlk3 hll
        have hj : j < K := by
          rw [HK.out, cmpL_length, hjd]
          exact (List.getElem?_eq_some_iff.1 hat).1
        have HPJ : Hid (pf l = j) := by rw [hjd]; exact HPF.out l hlk3 hll
        have cp := HPV0.out.cell l hlN
        rw [HPJ.out] at cp
        have hco := cmpL_old (ls := ls) hlk3 hll HL.out.symm
        have hck : ¬ ls k = k := by rw [← HL.out]; omega
        have HKN : Hid (K = (cmpL ls (k + 1)).length) := by show _ = _; rw [HK.out, cmpL_length, cmpL_length, lsts_succ, if_neg hck, List.append_nil]
        have HQN : Hid (∀ i, i < K → updC Q j (Q j ++ [k]) i = (cmpL ls (k + 1)).getD i []) := fun i hi => by
          rw [hco i (by rw [← HK.out]; exact hi), ← hjd]
          by_cases e : i = j
          · subst e; rw [updC_same, if_pos rfl, HQE.out i hi]
          · rw [updC_other _ _ e, if_neg e, HQE.out i hi]
        have HPN : Hid (∀ l', l' < k + 1 → ls l' = l' → pf l' = (lsts ls l').length) := fun l' h1 h2 => HPF.out l' (by
          by_cases e : l' = k
          · exact absurd (by rw [← e]; exact h2) hck
          · omega) h2
        have HQB : Hid ((Q j).length ≤ 5864062014805) := by
          rw [HQE.out j hj]
          have := cmpL_len ls k j
          show _ ≤ _
          omega
        clear hat hco hck hjd hlk2
        generalize wr = V at *
        have HQ := show Hid _ from HQ0.out
        have HPV : Hid (ValAt V plb N 3 (fun i => .int .i64 (pf i : Int))) := HPV0.out
        have HLV : Hid (ValAt V lm N 3 (fun i => .int .i64 (ls i : Int))) := HLV0.out
        have HGV := show Hid _ from HGV0.out
        have HBV : Hid (B ≤ V.heap.size) := HBV0.out
        clear HQ0 HPV0 HLV0 HGV0 HBV0
        go_wp2_with fail
        obtain ⟨kb, kcap, hkb, hkcell⟩ := owns_at HQ.out.out (by omega)
        simp only [Value.slice.injEq] at hkb
        obtain ⟨rfl, -, rfl⟩ := hkb
        have cj := hkcell j _ (rowsC_at _ _ _ hj)
        obtain ⟨fa, hfa⟩ : ∃ a, a = ua1 j := ⟨_, rfl⟩
        obtain ⟨fc, hfc⟩ : ∃ a, a = uc1 j := ⟨_, rfl⟩
        obtain ⟨m, hm⟩ : ∃ m, m = (Q j).length := ⟨_, rfl⟩
        rw [← hfa, ← hfc, ← hm] at cj
        have hj0 : (0 : Int) ≤ (j : Int) := by omega
        have hj1 : (j : Int) < (K : Int) := by omega
        have HOW : Hid (∀ Y, V.grownBy Y none → Y.ownsRow B 3 1 (.slice fa m fc) m (natV (Q j))) := fun Y hY => by
          have h1 := (HQ.out.kept hY).inn j hj
          rw [← hfa, ← hfc, ← hm] at h1
          exact h1
        have HPS : Hid (∀ Y, V.grownBy Y none → B ≤ Y.heap.size) := fun Y hY => Nat.le_trans HBV.out hY.size
        have HFIN : Hid (∀ (Y W : World) (g c : Nat), V.grownBy Y none → Y.grownBy W (Value.slice fa m fc).ownBlock → W.ownsRow B 3 1 (.slice (some ⟨g, 0, none⟩) (m + 1) c) (m + 1) (natV (Q j) ++ [.int .i64 (k : Int)]) → ((Value.slice fa m fc).ownBlock = some g ∨ g = Y.heap.size) → (W.cell? ⟨kb, j, none⟩ = some (.slice fa m fc) ∧ W.frozen? ⟨kb, j, none⟩ = false) ∧ W.cell? ⟨plb, l, none⟩ = some (.int .i64 (j : Int)) ∧ CqP (W.setCell ⟨kb, j, none⟩ (.slice (some ⟨g, 0, none⟩) (m + 1) c)) B (some ⟨kb, 0, none⟩) kc K (updC Q j (Q j ++ [k])) (updC ua1 j (some ⟨g, 0, none⟩)) (updC uc1 j c) ∧ ValAt (W.setCell ⟨kb, j, none⟩ (.slice (some ⟨g, 0, none⟩) (m + 1) c)) plb N 3 (fun i => .int .i64 (pf i : Int)) ∧ ValAt (W.setCell ⟨kb, j, none⟩ (.slice (some ⟨g, 0, none⟩) (m + 1) c)) lm N 3 (fun i => .int .i64 (ls i : Int)) ∧ y.grownBy (W.setCell ⟨kb, j, none⟩ (.slice (some ⟨g, 0, none⟩) (m + 1) c)) none ∧ B ≤ (W.setCell ⟨kb, j, none⟩ (.slice (some ⟨g, 0, none⟩) (m + 1) c)).heap.size) := fun Y W g c hY hg ho hat => by
          have hq := HQ.out.kept hY
          have hin := hq.inn j hj
          rw [hfa, hfc, hm] at hg hat
          rw [hm] at ho
          obtain ⟨q1, q2⟩ := hq.add hj hg ho hat
          rw [hfa, hfc, hm]
          have hs : W.grownBy (W.setCell ⟨kb, j, none⟩ (.slice (some ⟨g, 0, none⟩) ((Q j).length + 1) c)) (some kb) := grown_setCell _ _ _
          have hlow : ∀ b, b < B → ∀ {len : Nat} {f : Nat → Value}, ValAt V b len 3 f → ValAt (W.setCell ⟨kb, j, none⟩ (.slice (some ⟨g, 0, none⟩) ((Q j).length + 1) c)) b len 3 f := fun b hb len f hv => by
            have h1 := hv.kept hY
            have h2 : ValAt W b len 3 f := (hg.block b h1.lt (by
              intro e
              have h3 := (hin.lt b e.symm).1
              omega)).trans h1
            obtain ⟨g5, _, hkv, _⟩ := owns_at hq.out (by omega)
            have hkB : B ≤ kb := by
              have h4 := (hq.out.lt kb rfl).1
              exact h4
            exact (hs.block b h2.lt (by
              intro e
              have : b = kb := by simpa using e
              omega)).trans h2
          have hkB : B ≤ kb := (hq.out.lt kb rfl).1
          refine ⟨q1, ?_, q2, hlow plb hplB HPV.out, hlow lm hlmB HLV.out, ?_, ?_⟩
          · have h1 := HPV.out.kept hY
            have h2 : ValAt W plb N 3 (fun i => .int .i64 (pf i : Int)) := (hg.block plb h1.lt (by
              intro e
              have h3 := (hin.lt plb e.symm).1
              omega)).trans h1
            have h5 := h2.cell l hlN
            rw [HPJ.out] at h5
            exact h5
          · exact grown_new (grown_row (grown_trans HGV.out hY) hin (Nat.le_trans HyB.out (Nat.le_refl _)) hg) hs (Nat.le_trans HyB.out hkB)
          · exact Nat.le_trans (HPS.out _ hY) (Nat.le_trans hg.size hs.size)
        obtain ⟨xs, hxs⟩ : ∃ xs, xs = natV (Q j) := ⟨_, rfl⟩
        rw [← hxs] at HOW HFIN
        have p2 : ∀ o, (V.alloc o).cell? ⟨plb, l, none⟩ = some (.int .i64 (j : Int)) := fun o => (World.grownBy_alloc _ o none).cell cp (by simp)
        have p3 : ∀ o, (V.alloc o).cell? ⟨kb, j, none⟩ = some (.slice fa m fc) := fun o => (World.grownBy_alloc _ o none).cell cj (by simp)
        have hmb : m ≤ 5864062014805 := by rw [hm]; exact HQB.out
        clear hfa hfc hm hxs hkcell
        go_region_law (first
          | (refine step_append_liesW _ rfl (.tmp 52) (.tmp 54) 28 rfl B 3 i0 (.int .i64 0) 1 8 Tryd.underlying28 hi0 hz0 hz1 hz2 rfl (by decide) (.slice fa m fc) m xs (by simp [Act.eval]) (HOW.out _ (grown_trans (World.grownBy_alloc _ _ none) (grown_drewN _ _))) ⟨V.heap.size, 0, none⟩ 1 1 [.int .i64 (k : Int)] (by simp [Act.eval]) rfl (World.news_of_block (heap_alloc_last V _)) (by simp [Value.oneCell']) (by decide) (by unfold maxLen; omega) (by omega) (HPS.out _ (grown_trans (World.grownBy_alloc _ _ none) (grown_drewN _ _))) ?_; intro g9 c9 wB hoB hgB hat; obtain ⟨⟨q1, q2⟩, q3, q4, q5, q6, q7, q8⟩ := HFIN.out _ wB g9 c9 (grown_trans (World.grownBy_alloc _ _ none) (grown_drewN _ _)) hgB hoB hat; have HQ4 := show Hid _ from q4; have HQ5 : Hid (ValAt _ plb N 3 _) := q5; have HQ6 : Hid (ValAt _ lm N 3 _) := q6; have HQ7 := show Hid _ from q7; have HQ8 : Hid (B ≤ _) := q8; clear q4 q5 q6 q7 q8 hoB hgB hat)
          | fail)
        all_goals go_wp2_with fail
        all_goals go_roundg (N - (k + 1))
        all_goals first
          | exact (show ∃ (k' K' : Nat), _ from ⟨k + 1, K, kc, some ⟨kb, 0, none⟩, updC Q j (Q j ++ [k]), _, _, pf, by omega, rfl, rfl, by go_num, HKN.out, HQN.out, HQ4.out, HQ5.out, HQ6.out, HQ7.out, HQ8.out, HPN.out⟩)
          | (have := HGK.out; omega)
    · have hkn : N = k := by omega
      subst hkn
      have hkd : decide (N < N) = false := decide_eq_false (by omega)
      have HF : Hid (CqP wr y.heap.size ka kc K Q ua1 uc1) := by
        have key : ∀ {e s n : Nat} {v : Value} {xs : List Value}, wr.ownsRow B e s v n xs → wr.ownsRow y.heap.size e s v n xs := fun {e s n v xs} ho => ⟨ho.1, by
          rcases ho.2 with h | ⟨g, cap, cur, hv, hB, hr⟩
          · exact .inl h
          · exact .inr ⟨g, cap, cur, hv, Nat.le_trans HyB.out hB, hr⟩⟩
        exact ⟨key HQ0.out.out, fun j hj => key (HQ0.out.inn j hj), HQ0.out.sep⟩
      go_wp2_with fail
      go_ret2
      exact ⟨ls, ka, kc, K, Q, ua1, uc1, rfl, HK.out, HQE.out, HLS.out, HF.out, HGV0.out⟩

end Go.Proofs.YtjijagnpcmonbaaDoor.J

/-
  lr0: the maker's leave, walked.
-/
namespace Go.Proofs.YtjijagnpcmonbaaDoor.J
open Go.RowKit Go.Maps Go.Shelf

attribute [local go_sem] Oper.semAt_some

/-- Edges as pairs of numbers. -/
def edI (ed : List (Nat × Nat)) : List It := ed.map fun x => ((x.1 : Int), (x.2 : Int))
/-- What a kernel that is the j-th at most is. -/
def PJ (n : Nat) (R : Nat → List Int) (j : Nat) (k : List It) : Prop := (∀ x ∈ k, itB n R x = true) ∧ k.length ≤ 1 + 13000 * j
theorem kerT_item {n : Nat} {R : Nat → List Int} {l : List It} (h : ∀ x ∈ l, itB n R x = true) {s : Nat} : ∀ x ∈ kerT R l (s : Int), itB n R x = true := by
  intro x hx
  unfold kerT at hx
  obtain ⟨y, hy, rfl⟩ := List.mem_map.1 hx
  obtain ⟨hy1, hy2⟩ := List.mem_filter.1 hy
  have h1 := h y hy1
  have h2 : aheadV R y = (s : Int) := by simpa using hy2
  unfold itB at h1 ⊢
  simp only [Bool.and_eq_true, decide_eq_true_eq] at h1 ⊢
  obtain ⟨⟨⟨a1, a2⟩, a3⟩, a4⟩ := h1
  refine ⟨⟨⟨a1, a2⟩, by omega⟩, ?_⟩
  unfold aheadV at h2
  by_cases e : y.2 = ((R y.1.toNat).length : Int)
  · rw [if_pos e] at h2; omega
  · omega
theorem PJ.ker {n : Nat} {R : Nat → List Int} {i m : Nat} {l I : List It} {s : Nat} (hI : PJ n R i I) (hl : ∀ x ∈ l, itB n R x = true) (hll : l.length ≤ I.length + 13000) (hm : i < m) : PJ n R m (kerT R l (s : Int)) := by
  refine ⟨kerT_item hl, ?_⟩
  have h1 := kerT_len R l (s : Int)
  have h2 := hI.2
  have h3 : 13000 * (i + 1) ≤ 13000 * m := Nat.mul_le_mul_left _ hm
  omega
end Go.Proofs.YtjijagnpcmonbaaDoor.J

/-
  lr0: the maker's automaton, and Build.
-/
namespace Go.Proofs.YtjijagnpcmonbaaDoor.J
open Go.RowKit Go.Maps Go.Shelf

attribute [local go_sem] Oper.semAt_some

/-- The closure of a kernel. -/
noncomputable def CLo (tn n : Nat) (L : Nat → Int) (R : Nat → List Int) (k : List It) : List It := by
  classical exact if h : ∃ l, IsClo tn n L R k l ∧ l.length ≤ k.length + 13000 then Classical.choose h else []
/-- The kernel behind a symbol. -/
noncomputable def GG (tn n : Nat) (L : Nat → Int) (R : Nat → List Int) (k : List It) (s : Nat) : List It := kerT R (CLo tn n L R k) (s : Int)
theorem PJ.GG {tn n : Nat} {L : Nat → Int} {R : Nat → List Int} {i m : Nat} {k : List It} (s : Nat) (h : PJ n R i k) (hm : i < m) : PJ n R m (GG tn n L R k s) := by
  unfold J.GG CLo
  by_cases hh : ∃ l, IsClo tn n L R k l ∧ l.length ≤ k.length + 13000
  · rw [dif_pos hh]
    have h1 := Classical.choose_spec hh
    exact h.ker (fun x hx => ((h1.1.mem x).1 hx).item h.1) h1.2 hm
  · rw [dif_neg hh]
    exact ⟨fun x hx => absurd hx (by simp [kerT]), by simp [kerT]⟩
/-- How many kernels were asked for. -/
def askN (es : List (List (Nat × Nat))) : Nat := 1 + (es.map List.length).sum
/-- The edges of the states. -/
def elF (es : List (List (Nat × Nat))) (i : Nat) : List It := edI (es.getD i [])
end Go.Proofs.YtjijagnpcmonbaaDoor.J

/-
  lr0: the maker's automaton, walked.
-/
namespace Go.Proofs.YtjijagnpcmonbaaDoor.J
open Go.RowKit Go.Maps Go.Shelf

attribute [local go_sem] Oper.semAt_some

end Go.Proofs.YtjijagnpcmonbaaDoor.J

/-
  lr0: Build.
-/
namespace Go.Proofs.YtjijagnpcmonbaaDoor.J
open Go.RowKit Go.Maps Go.Shelf

attribute [local go_sem] Oper.semAt_some

section
variable (ta na la pa : Option Addr) (tc nc lc pc : Nat) (ts : List (ByteArray × Int)) (ns : List ByteArray) (lv : List Int) (n : Nat) (L : Nat → Int) (R : Nat → List Int) (ra : Nat → Option Addr) (rc : Nat → Nat) (V : Nat → Int) (st : Int) (w : World) (tn nn ln : Nat) (hlen : ts.length = tn ∧ ns.length = nn ∧ lv.length = ln) (hG : GAt w ta na la pa tc nc lc pc ts ns lv n L R ra rc V)
include hlen hG
end

end Go.Proofs.YtjijagnpcmonbaaDoor.J

/-
  lr0: the edges of an automaton, pure.
-/
namespace Go.Proofs.YtjijagnpcmonbaaDoor.J
open Go.RowKit Go.Maps Go.Shelf

/-- Has it items? -/
def someB (k : List It) : Bool := decide (k ≠ [])
/-- The symbols below s whose kernels have items. -/
def symsT (G : Nat → List It) (s : Nat) : List Nat := (List.range s).filter fun t => someB (G t)
/-- An automaton, all of it. -/
structure AutF (G : List It → Nat → List It) (n : Nat) (R : Nat → List Int) (S : Nat) (ks : List (List It)) (es : List (List (Nat × Nat))) : Prop where
  kok : KsOK (PJ n R) ks
  pos : 0 < ks.length
  head : ks.getD 0 [] = [(0, 0)]
  len : es.length = ks.length
  fst : ∀ q, q < ks.length → (es.getD q []).map Prod.fst = symsT (G (ks.getD q [])) S
  snd : ∀ q, q < ks.length → ∀ x ∈ es.getD q [], x.1 < S ∧ x.2 < ks.length ∧ ks.getD x.2 [] = G (ks.getD q []) x.1
section
variable {G : List It → Nat → List It} {n : Nat} {R : Nat → List Int} {S : Nat} {ks : List (List It)} {es : List (List (Nat × Nat))}
end

end Go.Proofs.YtjijagnpcmonbaaDoor.J

/-
  lr0: an automaton in memory, read.
-/
namespace Go.Proofs.YtjijagnpcmonbaaDoor.J
open Go.RowKit Go.Maps Go.Shelf

theorem PJ.len {n : Nat} {R : Nat → List Int} {i : Nat} {k : List It} (h : PJ n R i k) (hi : i ≤ 257) : k.length ≤ 3341001 := by
  have h1 := h.2
  have h2 : 13000 * i ≤ 13000 * 257 := Nat.mul_le_mul_left _ hi
  omega
section
variable (ta na la pa : Option Addr) (tc nc lc pc : Nat) (ts : List (ByteArray × Int)) (ns : List ByteArray) (lv : List Int) (n : Nat) (L : Nat → Int) (R : Nat → List Int) (ra : Nat → Option Addr) (rc : Nat → Nat) (V : Nat → Int) (st : Int) (w : World) (tn nn ln : Nat) (hlen : ts.length = tn ∧ ns.length = nn ∧ lv.length = ln) (hG : GAt w ta na la pa tc nc lc pc ts ns lv n L R ra rc V)
include hlen hG
end

end Go.Proofs.YtjijagnpcmonbaaDoor.J

/-
  lr0: an automaton that is spoilt, in memory.
-/
namespace Go.Proofs.YtjijagnpcmonbaaDoor.J
open Go.RowKit Go.Maps Go.Shelf

/-- A row of one's own, whatever it holds. -/
def Like2 (X : World) (B e : Nat) (v : Value) (n : Nat) : Prop := ∃ xs, X.ownsRow B e 2 v n xs
/-- Each block of cells stays one of its type and size. -/
def Sizes (X Y : World) : Prop := ∀ (b : Nat) (cs : Array Value) (e : TypeId), X.heap[b]? = some (.cells cs e (0, 0)) → ∃ cs', Y.heap[b]? = some (.cells cs' e (0, 0)) ∧ cs'.size = cs.size
theorem Sizes.ofG {X Y : World} (h : X.grownBy Y none) : Sizes X Y := fun _ cs _ hb => ⟨cs, box_kept hb h, rfl⟩
theorem Sizes.trans {X Y Z : World} (h : Sizes X Y) (k : Sizes Y Z) : Sizes X Z := fun b cs e hb => by
  obtain ⟨cs1, h1, h2⟩ := h b cs e hb
  obtain ⟨cs2, h3, h4⟩ := k b cs1 e h1
  exact ⟨cs2, h3, h4.trans h2⟩
theorem Sizes.set (X : World) (g o : Nat) (u : Value) : Sizes X (X.setCell ⟨g, o, none⟩ u) := fun b cs e hb => by
  by_cases h : b = g
  · subst h
    exact ⟨_, heap_setCell_same _ _ _ _ _ _ hb, Array.size_setIfInBounds⟩
  · have hg : X.grownBy (X.setCell ⟨g, o, none⟩ u) (some g) := grown_setCell _ _ _
    exact ⟨cs, (hg.block b (Array.getElem?_eq_some_iff.1 hb).1 (by simpa using h)).trans hb, rfl⟩
theorem Like2.sized {X Y : World} {B e n : Nat} {v : Value} (h : Like2 X B e v n) (hs : Sizes X Y) : Like2 Y B e v n := by
  obtain ⟨xs, h1, h2⟩ := h
  rcases h2 with ⟨rfl, rfl⟩ | ⟨g, cap, cur, rfl, hB, hh, h3, h4, h5, h6⟩
  · exact ⟨xs, h1, .inl ⟨rfl, rfl⟩⟩
  · obtain ⟨cur', h7, h8⟩ := hs g cur e hh
    refine ⟨cur'.toList.take (n * 2), ?_, .inr ⟨g, cap, cur', rfl, hB, h7, h3, h4, by rw [h8]; exact h5, rfl⟩⟩
    have h9 : n * 2 ≤ cap * 2 := Nat.mul_le_mul_right _ h3
    rw [List.length_take, Array.length_toList, h8, h5]
    omega
theorem Like2.at {X : World} {B e n i : Nat} {v : Value} (h : Like2 X B e v n) (hi : i < n) : ∃ g c u0 u1 cur, v = .slice (some ⟨g, 0, none⟩) n c ∧ B ≤ g ∧ X.cell? ⟨g, i * 2, none⟩ = some u0 ∧ X.cell? ⟨g, i * 2 + 1, none⟩ = some u1 ∧ (∀ o, X.frozen? ⟨g, o, none⟩ = false) ∧ X.heap[g]? = some (.cells cur e (0, 0)) := by
  obtain ⟨xs, h1, h2⟩ := h
  rcases h2 with ⟨rfl, rfl⟩ | ⟨g, cap, cur, rfl, hB, hh, h3, h4, h5, h6⟩
  · omega
  · refine ⟨g, cap, cur[i * 2]'(by omega), cur[i * 2 + 1]'(by omega), cur, rfl, hB, ?_, ?_, fun o => frozen_of_row _ _ _ _ _ hh, hh⟩
    · rw [cell_of_row _ _ _ _ _ _ hh, Array.getElem?_eq_getElem]
    · rw [cell_of_row _ _ _ _ _ _ hh, Array.getElem?_eq_getElem]
theorem Like2.cut {X : World} {B e n : Nat} {v : Value} (h : Like2 X B e v n) : ∃ a c, v = .slice a n c := by
  obtain ⟨xs, h1⟩ := h
  exact owns_cut h1

section
variable {P : Program} (w : World)
theorem run_append_like (t ty : TypeId) (base : Nat) (e : TypeId) (i : TypeInfo) (z : Value) (size bytes : Nat) (ht : P.underlying t = some (.slice e)) (hi : P.info? e = some i) (hz : i.zero = some z)
    (hsize : i.size = size) (hby : i.bytes = bytes) (hzs : z.cells.size = size) (hsz : 0 < size)
    (v : Value) (n : Nat) (xs : List Value) (hown : w.ownsRow base e size v n xs)
    (ad : Addr) (m c : Nat) (news : List Value) (hl : news.length = m * size) (hnews : ∀ j u, news[j]? = some u → w.cell? (ad.add j) = some u) (h1 : ∀ u ∈ news, u.oneCell' = true)
    (h63 : n + m ≤ maxLen) (hbytes : ((n + m) + (n + m) / 4 + 192) * bytes ≤ 281474976710656) (hbase : base ≤ w.heap.size) :
    ∃ a' c' w', (Builtin.append_ #[t, t] ty #[v, .slice (some ad) m c]).run P w = .ok (.slice a' (n + m) c') w' ∧ w.grownBy w' v.ownBlock ∧ Sizes w w' := by
  obtain ⟨v', w', hr, h2, h3, _⟩ := run_append_own_wide (P := P) w base t ty e i z size bytes ht hi hz hsize hby hzs hsz v n xs hown ad m c news hl hnews h1 h63 hbytes hbase
  obtain ⟨a', c', rfl⟩ := owns_cut h2
  refine ⟨a', c', w', hr, h3, ?_⟩
  subst hsize
  subst hby
  rcases hown.2 with ⟨rfl, rfl⟩ | ⟨g', cap', cur, rfl, hbg, hg, hnc, hcm, hcs, htake⟩
  · exact Sizes.ofG h3
  · by_cases hroom : n + m ≤ cap'
    · have hfit : n * i.size + news.length ≤ cur.size := by rw [hl, hcs, ← Nat.add_mul]; exact Nat.mul_le_mul_right _ hroom
      have hr2 := run_append_room (P := P) w t ty e i ht hi g' n cap' cur hg ad m c news hl hnews h1 hroom hfit
      rw [hr] at hr2
      simp only [Result.ok.injEq] at hr2
      obtain ⟨_, rfl⟩ := hr2
      intro b cs e2 hb
      by_cases eb : b = g'
      · subst eb
        rw [hg] at hb
        simp only [Option.some.injEq, Obj.cells.injEq] at hb
        obtain ⟨rfl, rfl, _⟩ := hb
        refine ⟨_, setRow_heap w b cur _ _ _ hg, ?_⟩
        simp only [List.size_toArray, List.length_append, List.length_take, List.length_drop, Array.length_toList]
        omega
      · refine ⟨cs, (h3.block b (Array.getElem?_eq_some_iff.1 hb).1 ?_).trans hb, rfl⟩
        simpa [Value.ownBlock] using eb
    · have holds : ∀ j u, xs[j]? = some u → w.cell? ((⟨g', 0, none⟩ : Addr).add j) = some u := hown.cells (g := g') rfl
      have hr2 := run_append_grow (P := P) w t ty e i z ht hi hz ⟨g', 0, none⟩ n cap' xs hown.1 holds ad m c news hl hnews (by omega) (by simp only [maxLen] at h63; omega) (growslice_fits_wide (by omega) hbytes)
      rw [hr] at hr2
      simp only [Result.ok.injEq] at hr2
      obtain ⟨_, rfl⟩ := hr2
      exact Sizes.ofG ⟨rfl, rfl, rfl, by simp, fun k hk _ => Go.heap_alloc_old w.drew _ hk⟩

end

theorem spoil_other {X Y : World} {b r : Nat} {cs cs' : Array Value} {t t' : TypeId} (h : X.heap[b]? = some (.cells cs t (0, 0))) (hr : X.heap[r]? = some (.cells cs' t' (0, 0))) (ht : t ≠ t') (hg : X.grownBy Y (some r)) : Y.heap[b]? = some (.cells cs t (0, 0)) := by
  refine (hg.block b (Array.getElem?_eq_some_iff.1 h).1 ?_).trans h
  intro e
  have e2 : b = r := by simpa using e
  subst e2
  rw [h] at hr
  simp only [Option.some.injEq, Obj.cells.injEq] at hr
  exact ht hr.2.1
section
variable {w0 X Y : World} {ab : Nat} {bc : Array Value} {B sb N ik ie : Nat} {kv ev : Nat → Value} {kn en : Nat → Nat} {cur : Array Value}
end

end Go.Proofs.YtjijagnpcmonbaaDoor.J
