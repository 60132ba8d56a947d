import Derived.Test.YtjijagnpcmonbaaDoorQcdokapcbljmd
import Derived.Deep.RegionLaw
import Derived.Deep.DrawnRows
import Derived.Test.YtjijagnpcmonbaaDoorQlcmcachabgbb
import Derived.Test.YtjijagnpcmonbaaDoorQkohhincegcpm
import Derived.Test.YtjijagnpcmonbaaDoorQcgfnjmbccaak
import Derived.Test.YtjijagnpcmonbaaDoorQmlcpedhkpcfp

/-
  digraph: the document's Components: a node is laid to its component: a region as a declaration of its own (printed by tools/d_rcreg.py).
-/
namespace Go.Proofs.YtjijagnpcmonbaaDoor.J
open Go.RowKit Go.Maps Go.Shelf D

attribute [local go_sem] Oper.semAt_some
attribute [local go_sem ↓] Go.wp_at_zero Go.wp_at_succ

noncomputable def rcR : Code := ((Tryd.f7.body.map (regionsJ 12)).getD []).getD 0 .skip

set_option maxRecDepth 100000 in
set_option maxHeartbeats 8000000 in
theorem rc_region {K : Act → World → Prop} {V : World} {B nb ab kb N c K1 kc1 k j m fc ok : Nat} {fa : Option Addr} {xs : List Value}
    {v0 v1 v2 v3 v5 v9 v10 v11 v12 v13 v14 v15 v16 v17 v18 v19 v20 v21 v22 v23 v24 v25 v26 v27 v28 v29 v30 v31 v32 v33 v34 v35 v36 v37 v38 v39 v40 v41 v42 v43 v44 v45 v46 v47 v48 v49 v50 v51 v52 v53 v54 v55 v56 v57 v58 v59 v60 v61 v62 v63 v64 v65 v66 v67 v68 : Value}
    (x1 : V.cell? ⟨nb, k, none⟩ = some (.int .i64 (ok : Int))) (x2 : V.cell? ⟨ab, ok, none⟩ = some (.int .i64 ((j : Int) + 1))) (x3 : V.cell? ⟨kb, j, none⟩ = some (.slice fa m fc))
    (hk : (k : Int) < (N : Int)) (hok : (ok : Int) < (c : Int)) (hj : (j : Int) < (K1 : Int)) (hmb : m ≤ 1048576) (hjb : j ≤ 1048577)
    (hOW : ∀ Y, V.grownBy Y none → Y.ownsRow B 3 1 (.slice fa m fc) m xs) (hPS : ∀ Y, V.grownBy Y none → B ≤ Y.heap.size)
    (hfin : ∀ (Y Z : World) (g c' : Nat), V.grownBy Y none → Y.grownBy Z (Value.slice fa m fc).ownBlock → Z.ownsRow B 3 1 (.slice (some ⟨g, 0, none⟩) (m + 1) c') (m + 1) (xs ++ [.int .i64 (k : Int)]) → ((Value.slice fa m fc).ownBlock = some g ∨ g = Y.heap.size) → Z.cell? ⟨kb, j, none⟩ = some (.slice fa m fc) ∧ Z.frozen? ⟨kb, j, none⟩ = false ∧ Z.cell? ⟨nb, k, none⟩ = some (.int .i64 (ok : Int)) ∧ Z.cell? ⟨ab, ok, none⟩ = some (.int .i64 ((j : Int) + 1)) ∧ ∀ u44 u45 u46 u47 u48 u49 u50 u51 u52 u53 u54 u55 u56 u57 u58 u59 u60 u61 u62 u63 u64 u65 u66 u67 : Value, K ⟨List.toArray (v0 :: v1 :: v2 :: v3 :: .slice (some ⟨nb, 0, none⟩) N N :: v5 :: .slice (some ⟨ab, 0, none⟩) c c :: .slice (some ⟨kb, 0, none⟩) K1 kc1 :: .int .i64 (k : Int) :: v9 :: v10 :: v11 :: v12 :: v13 :: v14 :: v15 :: v16 :: v17 :: v18 :: v19 :: v20 :: v21 :: v22 :: v23 :: v24 :: v25 :: v26 :: v27 :: v28 :: v29 :: v30 :: v31 :: v32 :: v33 :: v34 :: v35 :: v36 :: v37 :: v38 :: v39 :: v40 :: v41 :: v42 :: v43 :: u44 :: u45 :: u46 :: u47 :: u48 :: u49 :: u50 :: u51 :: u52 :: u53 :: u54 :: u55 :: u56 :: u57 :: u58 :: u59 :: u60 :: u61 :: u62 :: u63 :: u64 :: u65 :: u66 :: u67 :: v68 :: []), []⟩ (Z.setCell ⟨kb, j, none⟩ (.slice (some ⟨g, 0, none⟩) (m + 1) c'))) :
    Code.wp Tryd.prog rcR (OnEndJ K) ⟨List.toArray (v0 :: v1 :: v2 :: v3 :: .slice (some ⟨nb, 0, none⟩) N N :: v5 :: .slice (some ⟨ab, 0, none⟩) c c :: .slice (some ⟨kb, 0, none⟩) K1 kc1 :: .int .i64 (k : Int) :: v9 :: v10 :: v11 :: v12 :: v13 :: v14 :: v15 :: v16 :: v17 :: v18 :: v19 :: v20 :: v21 :: v22 :: v23 :: v24 :: v25 :: v26 :: v27 :: v28 :: v29 :: v30 :: v31 :: v32 :: v33 :: v34 :: v35 :: v36 :: v37 :: v38 :: v39 :: v40 :: v41 :: v42 :: v43 :: v44 :: v45 :: v46 :: v47 :: v48 :: v49 :: v50 :: v51 :: v52 :: v53 :: v54 :: v55 :: v56 :: v57 :: v58 :: v59 :: v60 :: v61 :: v62 :: v63 :: v64 :: v65 :: v66 :: v67 :: v68 :: []), []⟩ V := by
  obtain ⟨i0, hi0, hz0, hz1, hz2⟩ := info_parts infoInt
  have HOW := hidW hOW
  have HPS := hidW hPS
  have HFIN := hidW hfin
  have p1 : ∀ o', (V.alloc o').cell? ⟨nb, k, none⟩ = some (.int .i64 (ok : Int)) := fun o' => (World.grownBy_alloc _ o' none).cell x1 (by simp)
  have p2 : ∀ o', (V.alloc o').cell? ⟨ab, ok, none⟩ = some (.int .i64 ((j : Int) + 1)) := fun o' => (World.grownBy_alloc _ o' none).cell x2 (by simp)
  have p3 : ∀ o', (V.alloc o').cell? ⟨kb, j, none⟩ = some (.slice fa m fc) := fun o' => (World.grownBy_alloc _ o' none).cell x3 (by simp)
  have hk0 : (0 : Int) ≤ (k : Int) := by omega
  have hok0 : (0 : Int) ≤ (ok : Int) := by omega
  have hj0 : (0 : Int) ≤ (j : Int) := by omega
  have hwj : IntKind.i64.wrap ((j : Int) + 1 - 1) = (j : Int) := by rw [IntKind.wrap_i64]; omega
  have hwj2 : IntKind.i64.wrap (j : Int) = (j : Int) := by rw [IntKind.wrap_i64]; omega
  clear hOW hPS hfin
  conv => arg 2; whnf
  go_region_law (first
    | (refine step_append_liesW _ rfl (.tmp 63) (.tmp 65) 28 rfl B 3 i0 (.int .i64 0) 1 8 Tryd.underlying28 hi0 hz0 hz1 hz2 rfl (by decide) (.slice fa m fc) m xs (by first | (simp [Act.eval]; done) | simp [Act.eval, Act.put]) (HOW.out _ (grown_trans (World.grownBy_alloc _ _ none) (grown_drewN _ _))) ⟨V.heap.size, 0, none⟩ 1 1 [.int .i64 (k : Int)] (by first | (simp [Act.eval]; done) | simp [Act.eval, Act.put]) rfl (World.news_of_block (heap_alloc_last V _)) (by simp [Value.oneCell']) (by decide) (by unfold maxLen; omega) (by omega) (HPS.out _ (grown_trans (World.grownBy_alloc _ _ none) (grown_drewN _ _))) ?_; intro g9 c9 wB hoB hgB hat; obtain ⟨q1, q2, q3, q4, q5⟩ := HFIN.out _ wB g9 c9 (grown_trans (World.grownBy_alloc _ _ none) (grown_drewN _ _)) hgB hoB hat; have HQ9 := hidW q5; clear q5 hoB hgB hat)
    | fail)
  all_goals exact HQ9.out _ _ _ _ _ _ _ _ _ _ _ _ _ _ _ _ _ _ _ _ _ _ _ _

theorem rc_regionq {Q0 : Exit → Act → World → Prop} {V : World} {B nb ab kb N c K1 kc1 k j m fc ok : Nat} {fa : Option Addr} {xs : List Value}
    {v0 v1 v2 v3 v5 v9 v10 v11 v12 v13 v14 v15 v16 v17 v18 v19 v20 v21 v22 v23 v24 v25 v26 v27 v28 v29 v30 v31 v32 v33 v34 v35 v36 v37 v38 v39 v40 v41 v42 v43 v44 v45 v46 v47 v48 v49 v50 v51 v52 v53 v54 v55 v56 v57 v58 v59 v60 v61 v62 v63 v64 v65 v66 v67 v68 : Value}
    (x1 : V.cell? ⟨nb, k, none⟩ = some (.int .i64 (ok : Int))) (x2 : V.cell? ⟨ab, ok, none⟩ = some (.int .i64 ((j : Int) + 1))) (x3 : V.cell? ⟨kb, j, none⟩ = some (.slice fa m fc))
    (hk : (k : Int) < (N : Int)) (hok : (ok : Int) < (c : Int)) (hj : (j : Int) < (K1 : Int)) (hmb : m ≤ 1048576) (hjb : j ≤ 1048577)
    (hOW : ∀ Y, V.grownBy Y none → Y.ownsRow B 3 1 (.slice fa m fc) m xs) (hPS : ∀ Y, V.grownBy Y none → B ≤ Y.heap.size)
    (hfin : ∀ (Y Z : World) (g c' : Nat), V.grownBy Y none → Y.grownBy Z (Value.slice fa m fc).ownBlock → Z.ownsRow B 3 1 (.slice (some ⟨g, 0, none⟩) (m + 1) c') (m + 1) (xs ++ [.int .i64 (k : Int)]) → ((Value.slice fa m fc).ownBlock = some g ∨ g = Y.heap.size) → Z.cell? ⟨kb, j, none⟩ = some (.slice fa m fc) ∧ Z.frozen? ⟨kb, j, none⟩ = false ∧ Z.cell? ⟨nb, k, none⟩ = some (.int .i64 (ok : Int)) ∧ Z.cell? ⟨ab, ok, none⟩ = some (.int .i64 ((j : Int) + 1)) ∧ ∀ u44 u45 u46 u47 u48 u49 u50 u51 u52 u53 u54 u55 u56 u57 u58 u59 u60 u61 u62 u63 u64 u65 u66 u67 : Value, Q0 .normal ⟨List.toArray (v0 :: v1 :: v2 :: v3 :: .slice (some ⟨nb, 0, none⟩) N N :: v5 :: .slice (some ⟨ab, 0, none⟩) c c :: .slice (some ⟨kb, 0, none⟩) K1 kc1 :: .int .i64 (k : Int) :: v9 :: v10 :: v11 :: v12 :: v13 :: v14 :: v15 :: v16 :: v17 :: v18 :: v19 :: v20 :: v21 :: v22 :: v23 :: v24 :: v25 :: v26 :: v27 :: v28 :: v29 :: v30 :: v31 :: v32 :: v33 :: v34 :: v35 :: v36 :: v37 :: v38 :: v39 :: v40 :: v41 :: v42 :: v43 :: u44 :: u45 :: u46 :: u47 :: u48 :: u49 :: u50 :: u51 :: u52 :: u53 :: u54 :: u55 :: u56 :: u57 :: u58 :: u59 :: u60 :: u61 :: u62 :: u63 :: u64 :: u65 :: u66 :: u67 :: v68 :: []), []⟩ (Z.setCell ⟨kb, j, none⟩ (.slice (some ⟨g, 0, none⟩) (m + 1) c'))) :
    Code.wp Tryd.prog rcR Q0 ⟨List.toArray (v0 :: v1 :: v2 :: v3 :: .slice (some ⟨nb, 0, none⟩) N N :: v5 :: .slice (some ⟨ab, 0, none⟩) c c :: .slice (some ⟨kb, 0, none⟩) K1 kc1 :: .int .i64 (k : Int) :: v9 :: v10 :: v11 :: v12 :: v13 :: v14 :: v15 :: v16 :: v17 :: v18 :: v19 :: v20 :: v21 :: v22 :: v23 :: v24 :: v25 :: v26 :: v27 :: v28 :: v29 :: v30 :: v31 :: v32 :: v33 :: v34 :: v35 :: v36 :: v37 :: v38 :: v39 :: v40 :: v41 :: v42 :: v43 :: v44 :: v45 :: v46 :: v47 :: v48 :: v49 :: v50 :: v51 :: v52 :: v53 :: v54 :: v55 :: v56 :: v57 :: v58 :: v59 :: v60 :: v61 :: v62 :: v63 :: v64 :: v65 :: v66 :: v67 :: v68 :: []), []⟩ V :=
  wp_mono (rc_region (K := fun a w => Q0 .normal a w) x1 x2 x3 hk hok hj hmb hjb hOW hPS hfin) fun e a w h => by
    cases e <;> first | exact h | exact h.elim

end Go.Proofs.YtjijagnpcmonbaaDoor.J

/-
  digraph: the document's Components.
-/
namespace Go.Proofs.YtjijagnpcmonbaaDoor.J
open Go.RowKit Go.Maps Go.Shelf D

attribute [local go_sem] Oper.semAt_some

set_option maxRecDepth 100000 in
set_option maxHeartbeats 8000000 in
theorem rcomp_ok (w : World) (N : Nat) (ea : Option Addr) (ec : Nat) (E : Nat → List Nat) (eua : Nat → Option Addr) (euc : Nat → Nat) (hL : LwAt w ea N (fun i => intL (E i)) eua euc) (hN : N ≤ 1048576) (hEl : ∀ x, x < N → (E x).length ≤ 17592186044416) (hE : ∀ x, x < N → ∀ y ∈ E x, y < N) (hPa : ∀ X, w.grownBy X none → Calls Tryd.prog 19 #[.slice ea N ec] X fun e y => PartsTold X N E e y) :
    Calls Tryd.prog 7 #[.slice ea N ec] w fun e y => CmpTold N E w e y := by
  have HRI := show Hid _ from rright_any ea N ec (fun i => intL (E i)) eua euc w hL (by omega) (fun i hi => by rw [intL_length]; exact hEl i hi) true (by
    refine ⟨fun _ i hi x hx => ?_, fun _ => rfl⟩
    unfold intL at hx
    obtain ⟨y, hy, rfl⟩ := List.mem_map.1 hx
    have := hE i hi y hy
    omega)
  have HPA := show Hid _ from hPa w (grown_refl _ _)
  obtain ⟨ls, hls⟩ := leasts_ex hE
  have HLS : Hid (∀ x, x < N → IsLeast N E x (ls x)) := hls
  obtain ⟨i0, hi0, hz0, hz1, hz2⟩ := info_parts infoInt
  obtain ⟨i1, hi1, hy0, hy1, hy2⟩ := info_parts infoRows
  clear hL hEl hE hPa hls
  go_enter Tryd.func7, Tryd.ntmps7
  go_wp2_with fail
  refine Calls.mono HRI.out ?_
  rintro e w0 ⟨rfl, hw0⟩
  have hw0' := hw0.symm
  subst hw0'
  clear HRI hw0
  go_wp2_with fail
  refine Calls.mono HPA.out ?_
  rintro e w1 ⟨nb, c, num, S, rfl, hV, hNb, hA, hcN, hnb, hg1⟩
  have HPN := hidW (hNb.pn hA)
  have HV1 : Hid (ValAt w1 nb N 3 (fun x => .int .i64 (((fun x => c - 1 - num x) x : Nat) : Int))) := hV.ext fun x hx => by
    have h5 := (hNb.lt x (hA x hx)).2
    show Value.int IntKind.i64 ((c : Int) - 1 - (num x : Int)) = Value.int IntKind.i64 ((c - 1 - num x : Nat) : Int)
    rw [show ((c - 1 - num x : Nat) : Int) = (c : Int) - 1 - (num x : Int) by omega]
  obtain ⟨o, ho⟩ : ∃ o : Nat → Nat, o = fun x => c - 1 - num x := ⟨_, rfl⟩
  rw [← ho] at HPN HV1
  have HG1 := hidW hg1
  clear hV hNb hA hg1 HPA ho hnb
  go_wp2_with (at_make; refine wpList_make_full _ rfl _ _ 28 rfl w1.heap.size 3 i0 (.int .i64 0) 1 Tryd.underlying28 hi0 hz0 hz1 .i64 .i64 _ _ c rfl rfl (by simp) (by simp) (by rw [hz2]; omega) (by unfold maxLen; omega) (by simp) ?_)
  intro w5 hown hgrow
  have hval : ValAt w5 w1.heap.size c 3 (fun _ => .int .i64 0) := made_rowK (B := w1.heap.size) rfl (by simpa [Value.cells] using hown)
  obtain ⟨ab, hab⟩ : ∃ b, b = w1.heap.size := ⟨_, rfl⟩
  rw [← hab] at hval
  rw [← hab]
  obtain ⟨B, hB⟩ : ∃ b, b = w5.heap.size := ⟨_, rfl⟩
  have HBB : Hid (w.heap.size ≤ B ∧ ab < B ∧ nb < B) := ⟨by rw [hB]; exact Nat.le_trans HG1.out.size hgrow.size, by rw [hB]; exact hval.lt, by rw [hB]; exact Nat.lt_of_lt_of_le HV1.out.lt hgrow.size⟩
  have HAB : Hid (w.heap.size ≤ ab) := by rw [hab]; exact HG1.out.size
  have HAN : Hid (ab ≠ nb) := by have := HV1.out.lt; show _ ≠ _; omega
  have HAV0 : Hid (ValAt w5 ab c 3 (fun i => .int .i64 (((fun _ => 0) i : Nat) : Int))) := hval
  have HOV0 := hidW (HV1.out.kept hgrow)
  have HGV0 := hidW (grown_trans HG1.out hgrow)
  have HBV0 : Hid (B ≤ w5.heap.size) := by rw [hB]; exact Nat.le_refl _
  clear hown hgrow hval hab hB HV1 HG1
  go_wp2_with fail
  go_loopg [7, 8] N (fun gk v7 v8 wr => ∃ (k K kc : Nat) (ka : Option Addr) (Q : Nat → List Nat) (ua : Nat → Option Addr) (uc : Nat → Nat) (A : Nat → Nat), k ≤ N ∧ gk = N - k ∧ v7 = .slice ka K kc ∧ v8 = .int .i64 k ∧ K = (cmpL ls k).length ∧ (∀ j, j < K → Q j = (cmpL ls k).getD j []) ∧ CqP wr B ka kc K Q ua uc ∧ ValAt wr ab c 3 (fun i => .int .i64 (A i : Int)) ∧ ValAt wr nb N 3 (fun i => .int .i64 (o i : Int)) ∧ AtP N o ls k A ∧ w.grownBy wr none ∧ B ≤ wr.heap.size)
  case atStart => exact ⟨0, 0, 0, none, fun _ => [], fun _ => none, fun _ => 0, fun _ => 0, Nat.zero_le _, rfl, rfl, rfl, rfl, fun j hj => absurd hj (Nat.not_lt_zero _), CqP.nil _ _ _ _ _, HAV0.out, HOV0.out, AtP.start fun _ => rfl, HGV0.out, HBV0.out⟩
  case round =>
    clear HAV0 HOV0 HGV0 HBV0
    obtain ⟨k, K, kc, ka, Q, ua, uc, A, hk, hgk, rfl, rfl, hK, hQe, hCq, hAv, hOv, hAt, hGv, hBv⟩ := hrel
    have HGK : Hid (gk = N - k) := hgk
    have HK := hidW hK
    have HQE := hidW hQe
    have HQ0 := hidW hCq
    have HAV0 := hidW hAv
    have HOV0 := hidW hOv
    have HAT := hidW hAt
    have HGV0 := hidW hGv
    have HBV0 := hidW hBv
    clear hgk hK hQe hCq hAv hOv hAt hGv hBv
    by_cases hlt : k < N
    · have hkd : decide (k < N) = true := decide_eq_true hlt
      have hk0 : (0 : Int) ≤ (k : Int) := by omega
      have hk1 : (k : Int) < (N : Int) := by omega
      have hok := HPN.out.lt k hlt
      have hAk := HAT.out k hlt
      obtain ⟨hlk, hll⟩ := ls_idem HLS.out hlt
      have HKB : Hid (K ≤ k) := by show _ ≤ _; rw [HK.out, cmpL_length]; exact lsts_len ls k
      have hKb : K ≤ 1048576 := by have := HKB.out; omega
      have e0 := HAV0.out.cell (o k) hok
      have e1 := HAV0.out.free (o k)
      have e2 := HOV0.out.cell k hlt
      by_cases hnew : ls k = k
      · rw [hnew, if_neg (Nat.lt_irrefl k)] at hAk
        rw [hAk] at e0
        have hcl := cmpL_new (ls := ls) (k := k) (fun y' hy' => (ls_idem HLS.out (show y' < N by omega)).1) hnew
        have HKN : Hid (K + 1 = (cmpL ls (k + 1)).length) := by show _ = _; rw [hcl, List.length_append, ← HK.out]; rfl
        have hz9 : (((0 : Nat) : Int) == 0) = true := rfl
        have hz8 : ((0 : Int) == 0) = true := rfl
        obtain ⟨ok, hoke⟩ : ∃ v, v = o k := ⟨_, rfl⟩
        have HOKE := hidW hoke
        rw [← hoke] at e0 e1 e2
        have hok0 : (0 : Int) ≤ (ok : Int) := by omega
        have hok1 : (ok : Int) < (c : Int) := by omega
        have HCQ := hidW (HQ0.out.kept (World.grownBy_alloc wr (.cells #[.slice none 0 0] 28) none))
        have HSZ : Hid (B ≤ (wr.alloc (.cells #[.slice none 0 0] 28)).heap.size) := Nat.le_trans HBV0.out (World.grownBy_alloc wr _ none).size
        have HNX : Hid (∀ j z, [Value.slice none 0 0][j]? = some z → (wr.alloc (.cells #[.slice none 0 0] 28)).cell? ((⟨wr.heap.size, 0, none⟩ : Addr).add j) = some z) := news_new wr _ _
        clear hAk hoke
        go_wp2_with (
          at_builtin
          refine wpList_append_srcW rfl (.tmp 33) (.tmp 34) 22 rfl B 28 i1 (.slice none 0 0) 1 24 Tryd.underlying22 hi1 hy0 hy1 hy2 rfl (by decide) (.slice ka K kc) K (rowsC K Q ua uc) rfl HCQ.out.out (some ⟨wr.heap.size, 0, none⟩) 1 1 [.slice none 0 0] rfl (fun h => by cases h) rfl (fun ad e => by cases e; exact HNX.out) (by simp [Value.oneCell']) (by unfold maxLen; omega) (by omega) HSZ.out ?_
          intro v6 V0 hoB hgB
          obtain ⟨ka6, kc1, rfl⟩ := owns_slice hoB
          have HQ6 := hidW (HCQ.out.push hgB hoB)
          have hA6 : ValAt V0 ab c 3 (fun i => .int .i64 (A i : Int)) := box_row (HAV0.out.kept (World.grownBy_alloc wr _ none)) HCQ.out.out (by decide) hgB
          have hO6 : ValAt V0 nb N 3 (fun i => .int .i64 (o i : Int)) := box_row (HOV0.out.kept (World.grownBy_alloc wr _ none)) HCQ.out.out (by decide) hgB
          have hG6 : w.grownBy V0 none := grown_row (grown_trans HGV0.out (World.grownBy_alloc wr _ none)) HCQ.out.out HBB.out.1 hgB
          have hB6 : B ≤ V0.heap.size := Nat.le_trans HSZ.out hgB.size
          have e5 := hO6.cell k hlt
          have e6 := hA6.cell ok (by rw [HOKE.out]; exact hok)
          have e7 := hA6.free ok
          rw [← HOKE.out] at e5
          obtain ⟨av, hav⟩ : ∃ v, v = A ok := ⟨_, rfl⟩
          rw [← hav] at e6
          have hs : V0.grownBy (V0.setCell ⟨ab, ok, none⟩ (.int .i64 ((K : Int) + 1))) (some ab) := grown_setCell _ _ _
          obtain ⟨V, hVe⟩ : ∃ V, V = V0.setCell ⟨ab, ok, none⟩ (.int .i64 ((K : Int) + 1)) := ⟨_, rfl⟩
          have HVE := hidW hVe
          obtain ⟨Q1, hQ1⟩ : ∃ q, q = updC Q K [] := ⟨_, rfl⟩
          obtain ⟨ua1, hua1⟩ : ∃ q, q = updC ua K none := ⟨_, rfl⟩
          obtain ⟨uc1, huc1⟩ : ∃ q, q = updC uc K 0 := ⟨_, rfl⟩
          have hposK : (lsts ls k).length = K := by rw [HK.out, cmpL_length]
          obtain ⟨A1, hA1⟩ : ∃ A1 : Nat → Nat, A1 = fun j => if j = o k then (lsts ls k).length + 1 else A j := ⟨_, rfl⟩
          have HQ := hidW (HQ6.out.below hs HBB.out.2.1)
          have HAV : Hid (ValAt (V0.setCell ⟨ab, ok, none⟩ (.int .i64 ((K : Int) + 1))) ab c 3 (fun i => .int .i64 (A1 i : Int))) := (hA6.set ok _).ext fun i _ => by
            unfold J.put
            rw [hA1, HOKE.out]
            show (if i = o k then _ else _) = Value.int IntKind.i64 (((if i = o k then (lsts ls k).length + 1 else A i) : Nat) : Int)
            by_cases e : i = o k
            · rw [if_pos e, if_pos e, hposK]; rfl
            · rw [if_neg e, if_neg e]
          have HOV := hidW (hO6.at hs (fun e => HAN.out e.symm))
          have HGV : Hid (w.grownBy (V0.setCell ⟨ab, ok, none⟩ (.int .i64 ((K : Int) + 1))) none) := grown_new hG6 hs (by have h1 := HBB.out; have := HAB.out; exact this)
          have HBV : Hid (B ≤ (V0.setCell ⟨ab, ok, none⟩ (.int .i64 ((K : Int) + 1))).heap.size) := Nat.le_trans hB6 hs.size
          have HATN : Hid (AtP N o ls (k + 1) A1) := by rw [hA1]; exact HAT.out.new HPN.out HLS.out hlt hnew
          have hQK : Q1 K = [] := by rw [hQ1, updC_same]
          have HQN : Hid (∀ i, i < K + 1 → updC Q1 K (Q1 K ++ [k]) i = (cmpL ls (k + 1)).getD i []) := fun i hi => by
            rw [hcl]
            by_cases e : i = K
            · rw [e, updC_same, hQK, HK.out, List.getD_eq_getElem?_getD, List.getElem?_append_right (Nat.le_refl _), Nat.sub_self]; rfl
            · rw [updC_other _ _ e, hQ1, updC_other _ _ e, HQE.out i (by omega), List.getD_eq_getElem?_getD, List.getD_eq_getElem?_getD, List.getElem?_append_left (by rw [← HK.out]; omega)]
          have HQB : Hid ((Q1 K).length ≤ k) := by rw [hQK]; exact Nat.zero_le _
          have HAJ : Hid (A1 (o k) = K + 1) := by rw [hA1]; show (if o k = o k then _ else _) = _; rw [if_pos rfl, hposK]
          rw [← hVe] at HQ HAV HOV HGV HBV
          rw [← hQ1, ← hua1, ← huc1] at HQ
          clear hoB hgB hA6 hO6 hG6 hB6 hav hs hQ1 hua1 huc1 hposK hA1 hQK hcl hVe e0 e2 HCQ HSZ HNX HQ6 HQ0 HAV0 HOV0 HGV0 HBV0)
        rw [← HVE.out]
        clear e5 e6 e7 e1 HVE
        obtain ⟨K1, hK1⟩ : ∃ v, v = K + 1 := ⟨_, rfl⟩
        have hK1' : K + 1 = K1 := hK1.symm
        obtain ⟨j, hjK⟩ : ∃ v, v = K := ⟨_, rfl⟩
        have hj : j < K1 := by omega
        rw [hK1'] at HQ HKN HQN
        rw [← hjK] at HQN HQB HAJ
        rw [HOKE.out] at *
        rw [hK1']
        have hK1b : K1 ≤ 1048577 := by omega
        clear hK1 hK1' hjK
        obtain ⟨kb, kcap, hkb, hkcell⟩ := owns_at HQ.out.out (by omega)
        simp only [Value.slice.injEq] at hkb
        obtain ⟨rfl, -, rfl⟩ := hkb
        have cj := hkcell j _ (rowsC_at _ _ _ hj)
        obtain ⟨fa, hfa⟩ : ∃ a, a = ua1 j := ⟨_, rfl⟩
        obtain ⟨fc, hfc⟩ : ∃ a, a = uc1 j := ⟨_, rfl⟩
        obtain ⟨m, hm⟩ : ∃ m, m = (Q1 j).length := ⟨_, rfl⟩
        rw [← hfa, ← hfc, ← hm] at cj
        have hj1 : (j : Int) < (K1 : Int) := by omega
        have hmb : m ≤ 1048576 := by
          rw [hm]
          have := HQB.out
          omega
        have ca : V.cell? ⟨ab, o k, none⟩ = some (.int .i64 ((j : Int) + 1)) := by
          have := HAV.out.cell (o k) hok
          rw [HAJ.out, Int.natCast_add] at this
          exact this
        have co := HOV.out.cell k hlt
        have HOW : Hid (∀ Y, V.grownBy Y none → Y.ownsRow B 3 1 (.slice fa m fc) m (natV (Q1 j))) := fun Y hY => by
          have h1 := (HQ.out.kept hY).inn j hj
          rw [← hfa, ← hfc, ← hm] at h1
          exact h1
        have HPS : Hid (∀ Y, V.grownBy Y none → B ≤ Y.heap.size) := fun Y hY => Nat.le_trans HBV.out hY.size
        have HFIN : Hid (∀ (Y W : World) (g c' : Nat), V.grownBy Y none → Y.grownBy W (Value.slice fa m fc).ownBlock → W.ownsRow B 3 1 (.slice (some ⟨g, 0, none⟩) (m + 1) c') (m + 1) (natV (Q1 j) ++ [.int .i64 (k : Int)]) → ((Value.slice fa m fc).ownBlock = some g ∨ g = Y.heap.size) → (W.cell? ⟨kb, j, none⟩ = some (.slice fa m fc) ∧ W.frozen? ⟨kb, j, none⟩ = false) ∧ W.cell? ⟨ab, o k, none⟩ = some (.int .i64 ((j : Int) + 1)) ∧ W.cell? ⟨nb, k, none⟩ = some (.int .i64 ((o k : Nat) : Int)) ∧ CqP (W.setCell ⟨kb, j, none⟩ (.slice (some ⟨g, 0, none⟩) (m + 1) c')) B (some ⟨kb, 0, none⟩) kc1 K1 (updC Q1 j (Q1 j ++ [k])) (updC ua1 j (some ⟨g, 0, none⟩)) (updC uc1 j c') ∧ ValAt (W.setCell ⟨kb, j, none⟩ (.slice (some ⟨g, 0, none⟩) (m + 1) c')) ab c 3 (fun i => .int .i64 (A1 i : Int)) ∧ ValAt (W.setCell ⟨kb, j, none⟩ (.slice (some ⟨g, 0, none⟩) (m + 1) c')) nb N 3 (fun i => .int .i64 (o i : Int)) ∧ w.grownBy (W.setCell ⟨kb, j, none⟩ (.slice (some ⟨g, 0, none⟩) (m + 1) c')) none ∧ B ≤ (W.setCell ⟨kb, j, none⟩ (.slice (some ⟨g, 0, none⟩) (m + 1) c')).heap.size) := fun Y W g c' hY hg ho hat => by
          have hq := HQ.out.kept hY
          have hin := hq.inn j hj
          rw [hfa, hfc, hm] at hg hat
          rw [hm] at ho
          obtain ⟨q1, q2⟩ := hq.add hj hg ho hat
          rw [hfa, hfc, hm]
          have hs : W.grownBy (W.setCell ⟨kb, j, none⟩ (.slice (some ⟨g, 0, none⟩) ((Q1 j).length + 1) c')) (some kb) := grown_setCell _ _ _
          have hkB : B ≤ kb := (hq.out.lt kb rfl).1
          have hlow : ∀ b, b < B → ∀ {len : Nat} {f : Nat → Value}, ValAt V b len 3 f → ValAt W b len 3 f ∧ ValAt (W.setCell ⟨kb, j, none⟩ (.slice (some ⟨g, 0, none⟩) ((Q1 j).length + 1) c')) b len 3 f := fun b hb len f hv => by
            have h1 := hv.kept hY
            have h2 : ValAt W b len 3 f := (hg.block b h1.lt (by
              intro e
              have h3 := (hin.lt b e.symm).1
              omega)).trans h1
            exact ⟨h2, (hs.block b h2.lt (by
              intro e
              have : b = kb := by simpa using e
              omega)).trans h2⟩
          have h7 := hlow ab HBB.out.2.1 HAV.out
          have h8 := hlow nb HBB.out.2.2 HOV.out
          have h9 := h7.1.cell (o k) hok
          rw [HAJ.out, Int.natCast_add] at h9
          exact ⟨q1, h9, h8.1.cell k hlt, q2, h7.2, h8.2, grown_new (grown_row (grown_trans HGV.out hY) hin HBB.out.1 hg) hs (Nat.le_trans HBB.out.1 hkB), Nat.le_trans (HPS.out _ hY) (Nat.le_trans hg.size hs.size)⟩
        obtain ⟨xs, hxs⟩ : ∃ xs, xs = natV (Q1 j) := ⟨_, rfl⟩
        rw [← hxs] at HOW HFIN
        obtain ⟨ok, hok'⟩ : ∃ v, v = o k := ⟨_, rfl⟩
        rw [← hok'] at ca co HFIN hok
        have hok1 : (ok : Int) < (c : Int) := by omega
        have hjb : j ≤ 1048577 := by omega
        clear hfa hfc hm hxs hkcell hok'
        refine rc_regionq (V := V) (B := B) (nb := nb) (ab := ab) (kb := kb) (N := N) (c := c) (K1 := K1) (kc1 := kc1) (k := k) (j := j) (m := m) (fc := fc) (ok := ok) (fa := fa) (xs := xs) co ca cj hk1 hok1 hj1 hmb hjb HOW.out HPS.out ?_
        intro Y9 Z9 g9 c9 hY9 hg9 ho9 hat9
        obtain ⟨⟨q1, q2⟩, q3, q4, q5, q6, q7, q8, q9⟩ := HFIN.out Y9 Z9 g9 c9 hY9 hg9 ho9 hat9
        refine ⟨q1, q2, q4, q3, ?_⟩
        intro u44 u45 u46 u47 u48 u49 u50 u51 u52 u53 u54 u55 u56 u57 u58 u59 u60 u61 u62 u63 u64 u65 u66 u67
        have HQ5 := hidW q5
        have HQ6 := hidW q6
        have HQ7 := hidW q7
        have HQ8 := hidW q8
        have HQ9 := hidW q9
        clear q1 q2 q3 q4 q5 q6 q7 q8 q9 hY9 hg9 ho9 hat9 ca co cj
        go_wp2_with fail
        go_roundg (N - (k + 1))
        case measure => have := HGK.out; omega
        case rel => exact ⟨k + 1, K1, _, _, _, _, _, A1, by omega, rfl, rfl, by go_num, HKN.out, HQN.out, HQ5.out, HQ6.out, HQ7.out, HATN.out, HQ8.out, HQ9.out⟩
      · have hlk3 : ls k < k := by omega
        rw [if_pos hlk3] at hAk
        obtain ⟨j, hjd⟩ : ∃ j, j = posD ls k := ⟨_, rfl⟩
        rw [← hjd] at hAk
        have hat := lsts_at (ls := ls) hlk3 hll
        have hj : j < K := by
          rw [HK.out, cmpL_length, hjd]
          exact (List.getElem?_eq_some_iff.1 hat).1
        have hco := cmpL_old (ls := ls) hlk3 hll rfl
        have HKN : Hid (K = (cmpL ls (k + 1)).length) := by show _ = _; rw [HK.out, cmpL_length, cmpL_length, lsts_succ, if_neg hnew, List.append_nil]
        have HQN : Hid (∀ i, i < K → updC Q j (Q j ++ [k]) i = (cmpL ls (k + 1)).getD i []) := fun i hi => by
          rw [hco i (by rw [← HK.out]; exact hi), show (lsts ls (ls k)).length = j from hjd.symm]
          by_cases e : i = j
          · subst e; rw [updC_same, if_pos rfl, HQE.out i hi]
          · rw [updC_other _ _ e, if_neg e, HQE.out i hi]
        have HATN : Hid (AtP N o ls (k + 1) A) := HAT.out.old HLS.out hnew
        have HAJ : Hid (A (o k) = j + 1) := hAk
        have HQB : Hid ((Q j).length ≤ k) := by
          rw [HQE.out j hj]
          exact cmpL_len ls k j
        obtain ⟨ok, hoke⟩ : ∃ v, v = o k := ⟨_, rfl⟩
        have HOKE := hidW hoke
        rw [hAk, Int.natCast_add] at e0
        have e0 : wr.cell? ⟨ab, o k, none⟩ = some (.int .i64 ((j : Int) + 1)) := e0
        rw [← hoke] at e0 e2
        have hok0 : (0 : Int) ≤ (ok : Int) := by omega
        have hok1 : (ok : Int) < (c : Int) := by omega
        have hz9 : ((j : Int) + 1 == 0) = false := beq_eq_false_iff_ne.2 (by omega)
        clear hat hco hjd hAk hoke e1
        go_wp2_with fail
        clear e0 e2 hz9 hok0 hok1
        rw [HOKE.out] at *
        generalize wr = V at *
        have HQ := HQ0
        have HAV := HAV0
        have HOV := HOV0
        have HGV := HGV0
        have HBV := HBV0
        clear HQ0 HAV0 HOV0 HGV0 HBV0
        obtain ⟨kb, kcap, hkb, hkcell⟩ := owns_at HQ.out.out (by omega)
        simp only [Value.slice.injEq] at hkb
        obtain ⟨rfl, -, rfl⟩ := hkb
        have cj := hkcell j _ (rowsC_at _ _ _ hj)
        obtain ⟨fa, hfa⟩ : ∃ a, a = ua j := ⟨_, rfl⟩
        obtain ⟨fc, hfc⟩ : ∃ a, a = uc j := ⟨_, rfl⟩
        obtain ⟨m, hm⟩ : ∃ m, m = (Q j).length := ⟨_, rfl⟩
        rw [← hfa, ← hfc, ← hm] at cj
        have hj1 : (j : Int) < (K : Int) := by omega
        have hmb : m ≤ 1048576 := by
          rw [hm]
          have := HQB.out
          omega
        have ca : V.cell? ⟨ab, o k, none⟩ = some (.int .i64 ((j : Int) + 1)) := by
          have := HAV.out.cell (o k) hok
          rw [HAJ.out, Int.natCast_add] at this
          exact this
        have co := HOV.out.cell k hlt
        have HOW : Hid (∀ Y, V.grownBy Y none → Y.ownsRow B 3 1 (.slice fa m fc) m (natV (Q j))) := fun Y hY => by
          have h1 := (HQ.out.kept hY).inn j hj
          rw [← hfa, ← hfc, ← hm] at h1
          exact h1
        have HPS : Hid (∀ Y, V.grownBy Y none → B ≤ Y.heap.size) := fun Y hY => Nat.le_trans HBV.out hY.size
        have HFIN : Hid (∀ (Y W : World) (g c' : Nat), V.grownBy Y none → Y.grownBy W (Value.slice fa m fc).ownBlock → W.ownsRow B 3 1 (.slice (some ⟨g, 0, none⟩) (m + 1) c') (m + 1) (natV (Q j) ++ [.int .i64 (k : Int)]) → ((Value.slice fa m fc).ownBlock = some g ∨ g = Y.heap.size) → (W.cell? ⟨kb, j, none⟩ = some (.slice fa m fc) ∧ W.frozen? ⟨kb, j, none⟩ = false) ∧ W.cell? ⟨ab, o k, none⟩ = some (.int .i64 ((j : Int) + 1)) ∧ W.cell? ⟨nb, k, none⟩ = some (.int .i64 ((o k : Nat) : Int)) ∧ CqP (W.setCell ⟨kb, j, none⟩ (.slice (some ⟨g, 0, none⟩) (m + 1) c')) B (some ⟨kb, 0, none⟩) kc K (updC Q j (Q j ++ [k])) (updC ua j (some ⟨g, 0, none⟩)) (updC uc j c') ∧ ValAt (W.setCell ⟨kb, j, none⟩ (.slice (some ⟨g, 0, none⟩) (m + 1) c')) ab c 3 (fun i => .int .i64 (A i : Int)) ∧ ValAt (W.setCell ⟨kb, j, none⟩ (.slice (some ⟨g, 0, none⟩) (m + 1) c')) nb N 3 (fun i => .int .i64 (o i : Int)) ∧ w.grownBy (W.setCell ⟨kb, j, none⟩ (.slice (some ⟨g, 0, none⟩) (m + 1) c')) none ∧ B ≤ (W.setCell ⟨kb, j, none⟩ (.slice (some ⟨g, 0, none⟩) (m + 1) c')).heap.size) := fun Y W g c' hY hg ho hat => by
          have hq := HQ.out.kept hY
          have hin := hq.inn j hj
          rw [hfa, hfc, hm] at hg hat
          rw [hm] at ho
          obtain ⟨q1, q2⟩ := hq.add hj hg ho hat
          rw [hfa, hfc, hm]
          have hs : W.grownBy (W.setCell ⟨kb, j, none⟩ (.slice (some ⟨g, 0, none⟩) ((Q j).length + 1) c')) (some kb) := grown_setCell _ _ _
          have hkB : B ≤ kb := (hq.out.lt kb rfl).1
          have hlow : ∀ b, b < B → ∀ {len : Nat} {f : Nat → Value}, ValAt V b len 3 f → ValAt W b len 3 f ∧ ValAt (W.setCell ⟨kb, j, none⟩ (.slice (some ⟨g, 0, none⟩) ((Q j).length + 1) c')) b len 3 f := fun b hb len f hv => by
            have h1 := hv.kept hY
            have h2 : ValAt W b len 3 f := (hg.block b h1.lt (by
              intro e
              have h3 := (hin.lt b e.symm).1
              omega)).trans h1
            exact ⟨h2, (hs.block b h2.lt (by
              intro e
              have : b = kb := by simpa using e
              omega)).trans h2⟩
          have h7 := hlow ab HBB.out.2.1 HAV.out
          have h8 := hlow nb HBB.out.2.2 HOV.out
          have h9 := h7.1.cell (o k) hok
          rw [HAJ.out, Int.natCast_add] at h9
          exact ⟨q1, h9, h8.1.cell k hlt, q2, h7.2, h8.2, grown_new (grown_row (grown_trans HGV.out hY) hin HBB.out.1 hg) hs (Nat.le_trans HBB.out.1 hkB), Nat.le_trans (HPS.out _ hY) (Nat.le_trans hg.size hs.size)⟩
        obtain ⟨xs, hxs⟩ : ∃ xs, xs = natV (Q j) := ⟨_, rfl⟩
        rw [← hxs] at HOW HFIN
        obtain ⟨ok, hok'⟩ : ∃ v, v = o k := ⟨_, rfl⟩
        rw [← hok'] at ca co HFIN hok
        have hok1 : (ok : Int) < (c : Int) := by omega
        have hjb : j ≤ 1048577 := by omega
        clear hfa hfc hm hxs hkcell hok'
        refine rc_regionq (V := V) (B := B) (nb := nb) (ab := ab) (kb := kb) (N := N) (c := c) (K1 := K) (kc1 := kc) (k := k) (j := j) (m := m) (fc := fc) (ok := ok) (fa := fa) (xs := xs) co ca cj hk1 hok1 hj1 hmb hjb HOW.out HPS.out ?_
        intro Y9 Z9 g9 c9 hY9 hg9 ho9 hat9
        obtain ⟨⟨q1, q2⟩, q3, q4, q5, q6, q7, q8, q9⟩ := HFIN.out Y9 Z9 g9 c9 hY9 hg9 ho9 hat9
        refine ⟨q1, q2, q4, q3, ?_⟩
        intro u44 u45 u46 u47 u48 u49 u50 u51 u52 u53 u54 u55 u56 u57 u58 u59 u60 u61 u62 u63 u64 u65 u66 u67
        have HQ5 := hidW q5
        have HQ6 := hidW q6
        have HQ7 := hidW q7
        have HQ8 := hidW q8
        have HQ9 := hidW q9
        clear q1 q2 q3 q4 q5 q6 q7 q8 q9 hY9 hg9 ho9 hat9 ca co cj
        go_wp2_with fail
        go_roundg (N - (k + 1))
        case measure => have := HGK.out; omega
        case rel => exact ⟨k + 1, K, _, _, _, _, _, A, by omega, rfl, rfl, by go_num, HKN.out, HQN.out, HQ5.out, HQ6.out, HQ7.out, HATN.out, HQ8.out, HQ9.out⟩
    · have hkn : N = k := by omega
      subst hkn
      have hkd : decide (N < N) = false := decide_eq_false (by omega)
      have HF : Hid (CqP wr w.heap.size ka kc K Q ua uc) := by
        have key : ∀ {e s n : Nat} {v : Value} {xs : List Value}, wr.ownsRow B e s v n xs → wr.ownsRow w.heap.size e s v n xs := fun {e s n v xs} ho => ⟨ho.1, by
          rcases ho.2 with h | ⟨g, cap, cur, hv, hB, hr⟩
          · exact .inl h
          · exact .inr ⟨g, cap, cur, hv, Nat.le_trans HBB.out.1 hB, hr⟩⟩
        exact ⟨key HQ0.out.out, fun j hj => key (HQ0.out.inn j hj), HQ0.out.sep⟩
      go_wp2_with fail
      go_ret2
      exact ⟨ls, ka, kc, K, Q, ua, uc, rfl, HK.out, HQE.out, HLS.out, HF.out, HGV0.out⟩

set_option maxRecDepth 100000 in
set_option maxHeartbeats 1000000 in
theorem rcomp_bad (w : World) (N : Nat) (ea : Option Addr) (ec : Nat) (Qe : Nat → List Int) (ua : Nat → Option Addr) (uc : Nat → Nat) (hL : LwAt w ea N Qe ua uc) (hN : N ≤ 1048576) (hQ : ∀ i, i < N → (Qe i).length ≤ 17592186044416) (hb : ¬ ∀ i, i < N → ∀ x ∈ Qe i, 0 ≤ x ∧ x < (N : Int)) :
    Calls Tryd.prog 7 #[.slice ea N ec] w fun e y => e = .returned (.tuple #[.slice none 0 0, .int .i64 1]) ∧ y = w := by
  have HB := show Hid _ from rright_any ea N ec Qe ua uc w hL (by omega) hQ false (by simpa using hb)
  clear hL hQ hb
  go_enter Tryd.func7, Tryd.ntmps7
  go_wp2_with fail
  refine Calls.mono HB.out ?_
  rintro e y ⟨rfl, hy⟩
  subst hy
  go_wp2_with fail
  go_ret2
  exact ⟨rfl, rfl⟩

end Go.Proofs.YtjijagnpcmonbaaDoor.J
