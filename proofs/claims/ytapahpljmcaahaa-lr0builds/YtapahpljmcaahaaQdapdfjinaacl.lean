import Derived.Test.YtapahpljmcaahaaQhbfoknhjkobd

/-
  lr0: spoil's two appends, declarations of their own (printed by tools/spoilgen.py).
-/
namespace Go.Proofs.Ytapahpljmcaahaa.J
open Go.RowKit Go.Maps Go.Shelf

attribute [local go_sem] Oper.semAt_some

noncomputable def sp_kerC : Code := ((Try.f10.body.map (regionsJ 12)).getD []).getD 0 .skip

set_option maxRecDepth 100000 in
set_option maxHeartbeats 8000000 in
theorem sp_ker {K : Act → World → Prop} {Z : World} {B ab sb N sc i kq kc : Nat} {ka : Option Addr} {xs : List Value}
    {v0 v3 v4 v5 v6 v7 v8 v9 v10 v11 v12 v13 v14 v15 v16 v17 v18 v19 v20 v21 v22 v23 v24 v25 v26 v27 v28 v29 v30 v31 v32 v33 v34 v35 v36 v37 v38 v39 v40 v41 v42 v43 v44 v45 v46 v47 v48 v49 v50 v51 v52 v53 v54 v55 v56 v57 v58 v59 v60 v61 v62 v63 v64 v65 v66 v67 v68 v69 v70 v71 v72 v73 v74 v75 v76 v77 v78 v79 v80 v81 v82 v83 : Value}
    (x1 : Z.cell? ⟨ab, 0, none⟩ = some (.slice (some ⟨sb, 0, none⟩) N sc)) (x2 : Z.cell? ⟨sb, i * 2, none⟩ = some (.slice ka kq kc))
    (x3 : ∀ o, (Z.alloc o).cell? ⟨ab, 0, none⟩ = some (.slice (some ⟨sb, 0, none⟩) N sc)) (x4 : ∀ o, (Z.alloc o).cell? ⟨sb, i * 2, none⟩ = some (.slice ka kq kc))
    (hiN : (i : Int) < (N : Int)) (hkq : kq ≤ 100000000)
    (hOW : ∀ Y, Z.grownBy Y none → Y.ownsRow B 49 2 (.slice ka kq kc) kq xs) (hBS : ∀ Y, Z.grownBy Y none → B ≤ Y.heap.size)
    (hfin : ∀ (Y V : World) (a' : Option Addr) (c' : Nat), Z.grownBy Y none → Y.grownBy V (Value.slice ka kq kc).ownBlock → Sizes Y V → V.cell? ⟨sb, i * 2, none⟩ = some (.slice ka kq kc) ∧ V.frozen? ⟨sb, i * 2, none⟩ = false ∧ V.cell? ⟨ab, 0, none⟩ = some (.slice (some ⟨sb, 0, none⟩) N sc) ∧ ∀ u56 u57 u58 u59 u60 u61 u62 u63 u64 u65 u66 u67 u68 u69 : Value, K ⟨List.toArray (v0 :: .pointer (some ⟨ab, 0, none⟩) :: .int .i64 (i : Int) :: v3 :: v4 :: v5 :: v6 :: v7 :: v8 :: v9 :: v10 :: v11 :: v12 :: v13 :: v14 :: v15 :: v16 :: v17 :: v18 :: v19 :: v20 :: v21 :: v22 :: v23 :: v24 :: v25 :: v26 :: v27 :: v28 :: v29 :: v30 :: v31 :: v32 :: v33 :: v34 :: v35 :: v36 :: v37 :: v38 :: v39 :: v40 :: v41 :: v42 :: v43 :: v44 :: v45 :: v46 :: v47 :: v48 :: v49 :: v50 :: v51 :: v52 :: v53 :: v54 :: v55 :: u56 :: u57 :: u58 :: u59 :: u60 :: u61 :: u62 :: u63 :: u64 :: u65 :: u66 :: u67 :: u68 :: u69 :: v70 :: v71 :: v72 :: v73 :: v74 :: v75 :: v76 :: v77 :: v78 :: v79 :: v80 :: v81 :: v82 :: v83 :: []), []⟩ (V.setCell ⟨sb, i * 2, none⟩ (.slice a' (kq + 1) c'))) :
    Code.wp Try.prog sp_kerC (OnEndJ K) ⟨List.toArray (v0 :: .pointer (some ⟨ab, 0, none⟩) :: .int .i64 (i : Int) :: v3 :: v4 :: v5 :: v6 :: v7 :: v8 :: v9 :: v10 :: v11 :: v12 :: v13 :: v14 :: v15 :: v16 :: v17 :: v18 :: v19 :: v20 :: v21 :: v22 :: v23 :: v24 :: v25 :: v26 :: v27 :: v28 :: v29 :: v30 :: v31 :: v32 :: v33 :: v34 :: v35 :: v36 :: v37 :: v38 :: v39 :: v40 :: v41 :: v42 :: v43 :: v44 :: v45 :: v46 :: v47 :: v48 :: v49 :: v50 :: v51 :: v52 :: v53 :: v54 :: v55 :: v56 :: v57 :: v58 :: v59 :: v60 :: v61 :: v62 :: v63 :: v64 :: v65 :: v66 :: v67 :: v68 :: v69 :: v70 :: v71 :: v72 :: v73 :: v74 :: v75 :: v76 :: v77 :: v78 :: v79 :: v80 :: v81 :: v82 :: v83 :: []), []⟩ Z := by
  obtain ⟨i3, hi3, hv0, hv1, hv2⟩ := info_parts infoItem
  have HOW : Hid (∀ Y, Z.grownBy Y none → Y.ownsRow B 49 2 (.slice ka kq kc) kq xs) := hOW
  have HPS : Hid (∀ Y, Z.grownBy Y none → B ≤ Y.heap.size) := hBS
  have HFIN := show Hid _ from hfin
  have hi0 : (0 : Int) ≤ (i : Int) := by omega
  clear hOW hBS hfin
  conv => arg 2; whnf
  go_region_law (first
    | (refine step_append_like _ rfl (.tmp 64) (.tmp 66) 40 rfl B 49 i3 (.agg #[.int .i64 0, .int .i64 0]) 2 16 Try.underlying40 hi3 hv0 hv1 hv2 rfl (by decide) (.slice ka kq kc) kq xs (by simp [Act.eval]) (HOW.out _ (grown_trans (World.grownBy_alloc _ _ none) (grown_drewN _ 1))) ⟨Z.heap.size, 0, none⟩ 1 1 [.int .i64 (-8), .int .i64 0] (by simp [Act.eval]) rfl (World.news_of_block (heap_alloc_last Z _)) (by simp [Value.oneCell']) (by unfold maxLen; omega) (by omega) (HPS.out _ (grown_trans (World.grownBy_alloc _ _ none) (grown_drewN _ 1))) ?_; intro a7 c7 wC hgC hsC; obtain ⟨q2, q3, q4, q1⟩ := HFIN.out _ wC a7 c7 (grown_trans (World.grownBy_alloc _ _ none) (grown_drewN _ 1)) hgC hsC; have HQ9 := show Hid _ from q1; clear q1 hgC hsC)
    | fail)
  all_goals exact HQ9.out _ _ _ _ _ _ _ _ _ _ _ _ _ _

theorem sp_kerq {Q0 : Exit → Act → World → Prop} {Z : World} {B ab sb N sc i kq kc : Nat} {ka : Option Addr} {xs : List Value}
    {v0 v3 v4 v5 v6 v7 v8 v9 v10 v11 v12 v13 v14 v15 v16 v17 v18 v19 v20 v21 v22 v23 v24 v25 v26 v27 v28 v29 v30 v31 v32 v33 v34 v35 v36 v37 v38 v39 v40 v41 v42 v43 v44 v45 v46 v47 v48 v49 v50 v51 v52 v53 v54 v55 v56 v57 v58 v59 v60 v61 v62 v63 v64 v65 v66 v67 v68 v69 v70 v71 v72 v73 v74 v75 v76 v77 v78 v79 v80 v81 v82 v83 : Value}
    (x1 : Z.cell? ⟨ab, 0, none⟩ = some (.slice (some ⟨sb, 0, none⟩) N sc)) (x2 : Z.cell? ⟨sb, i * 2, none⟩ = some (.slice ka kq kc))
    (x3 : ∀ o, (Z.alloc o).cell? ⟨ab, 0, none⟩ = some (.slice (some ⟨sb, 0, none⟩) N sc)) (x4 : ∀ o, (Z.alloc o).cell? ⟨sb, i * 2, none⟩ = some (.slice ka kq kc))
    (hiN : (i : Int) < (N : Int)) (hkq : kq ≤ 100000000)
    (hOW : ∀ Y, Z.grownBy Y none → Y.ownsRow B 49 2 (.slice ka kq kc) kq xs) (hBS : ∀ Y, Z.grownBy Y none → B ≤ Y.heap.size)
    (hfin : ∀ (Y V : World) (a' : Option Addr) (c' : Nat), Z.grownBy Y none → Y.grownBy V (Value.slice ka kq kc).ownBlock → Sizes Y V → V.cell? ⟨sb, i * 2, none⟩ = some (.slice ka kq kc) ∧ V.frozen? ⟨sb, i * 2, none⟩ = false ∧ V.cell? ⟨ab, 0, none⟩ = some (.slice (some ⟨sb, 0, none⟩) N sc) ∧ ∀ u56 u57 u58 u59 u60 u61 u62 u63 u64 u65 u66 u67 u68 u69 : Value, Q0 .normal ⟨List.toArray (v0 :: .pointer (some ⟨ab, 0, none⟩) :: .int .i64 (i : Int) :: v3 :: v4 :: v5 :: v6 :: v7 :: v8 :: v9 :: v10 :: v11 :: v12 :: v13 :: v14 :: v15 :: v16 :: v17 :: v18 :: v19 :: v20 :: v21 :: v22 :: v23 :: v24 :: v25 :: v26 :: v27 :: v28 :: v29 :: v30 :: v31 :: v32 :: v33 :: v34 :: v35 :: v36 :: v37 :: v38 :: v39 :: v40 :: v41 :: v42 :: v43 :: v44 :: v45 :: v46 :: v47 :: v48 :: v49 :: v50 :: v51 :: v52 :: v53 :: v54 :: v55 :: u56 :: u57 :: u58 :: u59 :: u60 :: u61 :: u62 :: u63 :: u64 :: u65 :: u66 :: u67 :: u68 :: u69 :: v70 :: v71 :: v72 :: v73 :: v74 :: v75 :: v76 :: v77 :: v78 :: v79 :: v80 :: v81 :: v82 :: v83 :: []), []⟩ (V.setCell ⟨sb, i * 2, none⟩ (.slice a' (kq + 1) c'))) :
    Code.wp Try.prog sp_kerC Q0 ⟨List.toArray (v0 :: .pointer (some ⟨ab, 0, none⟩) :: .int .i64 (i : Int) :: v3 :: v4 :: v5 :: v6 :: v7 :: v8 :: v9 :: v10 :: v11 :: v12 :: v13 :: v14 :: v15 :: v16 :: v17 :: v18 :: v19 :: v20 :: v21 :: v22 :: v23 :: v24 :: v25 :: v26 :: v27 :: v28 :: v29 :: v30 :: v31 :: v32 :: v33 :: v34 :: v35 :: v36 :: v37 :: v38 :: v39 :: v40 :: v41 :: v42 :: v43 :: v44 :: v45 :: v46 :: v47 :: v48 :: v49 :: v50 :: v51 :: v52 :: v53 :: v54 :: v55 :: v56 :: v57 :: v58 :: v59 :: v60 :: v61 :: v62 :: v63 :: v64 :: v65 :: v66 :: v67 :: v68 :: v69 :: v70 :: v71 :: v72 :: v73 :: v74 :: v75 :: v76 :: v77 :: v78 :: v79 :: v80 :: v81 :: v82 :: v83 :: []), []⟩ Z :=
  wp_mono (sp_ker (K := fun a w => Q0 .normal a w) x1 x2 x3 x4 hiN hkq hOW hBS hfin) fun e a w h => by
    cases e <;> first | exact h | exact h.elim

noncomputable def sp_edgC : Code := ((Try.f10.body.map (regionsJ 13)).getD []).getD 0 .skip

set_option maxRecDepth 100000 in
set_option maxHeartbeats 8000000 in
theorem sp_edg {K : Act → World → Prop} {Z : World} {B ab sb N sc i kq kc : Nat} {ka : Option Addr} {xs : List Value}
    {v0 v3 v4 v5 v6 v7 v8 v9 v10 v11 v12 v13 v14 v15 v16 v17 v18 v19 v20 v21 v22 v23 v24 v25 v26 v27 v28 v29 v30 v31 v32 v33 v34 v35 v36 v37 v38 v39 v40 v41 v42 v43 v44 v45 v46 v47 v48 v49 v50 v51 v52 v53 v54 v55 v56 v57 v58 v59 v60 v61 v62 v63 v64 v65 v66 v67 v68 v69 v70 v71 v72 v73 v74 v75 v76 v77 v78 v79 v80 v81 v82 v83 : Value}
    (x1 : Z.cell? ⟨ab, 0, none⟩ = some (.slice (some ⟨sb, 0, none⟩) N sc)) (x2 : Z.cell? ⟨sb, i * 2 + 1, none⟩ = some (.slice ka kq kc))
    (x3 : ∀ o, (Z.alloc o).cell? ⟨ab, 0, none⟩ = some (.slice (some ⟨sb, 0, none⟩) N sc)) (x4 : ∀ o, (Z.alloc o).cell? ⟨sb, i * 2 + 1, none⟩ = some (.slice ka kq kc))
    (hiN : (i : Int) < (N : Int)) (hkq : kq ≤ 100000000)
    (hOW : ∀ Y, Z.grownBy Y none → Y.ownsRow B 61 2 (.slice ka kq kc) kq xs) (hBS : ∀ Y, Z.grownBy Y none → B ≤ Y.heap.size)
    (hfin : ∀ (Y V : World) (a' : Option Addr) (c' : Nat), Z.grownBy Y none → Y.grownBy V (Value.slice ka kq kc).ownBlock → Sizes Y V → V.cell? ⟨sb, i * 2 + 1, none⟩ = some (.slice ka kq kc) ∧ V.frozen? ⟨sb, i * 2 + 1, none⟩ = false ∧ V.cell? ⟨ab, 0, none⟩ = some (.slice (some ⟨sb, 0, none⟩) N sc) ∧ ∀ u70 u71 u72 u73 u74 u75 u76 u77 u78 u79 u80 u81 u82 u83 : Value, K ⟨List.toArray (v0 :: .pointer (some ⟨ab, 0, none⟩) :: .int .i64 (i : Int) :: v3 :: v4 :: v5 :: v6 :: v7 :: v8 :: v9 :: v10 :: v11 :: v12 :: v13 :: v14 :: v15 :: v16 :: v17 :: v18 :: v19 :: v20 :: v21 :: v22 :: v23 :: v24 :: v25 :: v26 :: v27 :: v28 :: v29 :: v30 :: v31 :: v32 :: v33 :: v34 :: v35 :: v36 :: v37 :: v38 :: v39 :: v40 :: v41 :: v42 :: v43 :: v44 :: v45 :: v46 :: v47 :: v48 :: v49 :: v50 :: v51 :: v52 :: v53 :: v54 :: v55 :: v56 :: v57 :: v58 :: v59 :: v60 :: v61 :: v62 :: v63 :: v64 :: v65 :: v66 :: v67 :: v68 :: v69 :: u70 :: u71 :: u72 :: u73 :: u74 :: u75 :: u76 :: u77 :: u78 :: u79 :: u80 :: u81 :: u82 :: u83 :: []), []⟩ (V.setCell ⟨sb, i * 2 + 1, none⟩ (.slice a' (kq + 1) c'))) :
    Code.wp Try.prog sp_edgC (OnEndJ K) ⟨List.toArray (v0 :: .pointer (some ⟨ab, 0, none⟩) :: .int .i64 (i : Int) :: v3 :: v4 :: v5 :: v6 :: v7 :: v8 :: v9 :: v10 :: v11 :: v12 :: v13 :: v14 :: v15 :: v16 :: v17 :: v18 :: v19 :: v20 :: v21 :: v22 :: v23 :: v24 :: v25 :: v26 :: v27 :: v28 :: v29 :: v30 :: v31 :: v32 :: v33 :: v34 :: v35 :: v36 :: v37 :: v38 :: v39 :: v40 :: v41 :: v42 :: v43 :: v44 :: v45 :: v46 :: v47 :: v48 :: v49 :: v50 :: v51 :: v52 :: v53 :: v54 :: v55 :: v56 :: v57 :: v58 :: v59 :: v60 :: v61 :: v62 :: v63 :: v64 :: v65 :: v66 :: v67 :: v68 :: v69 :: v70 :: v71 :: v72 :: v73 :: v74 :: v75 :: v76 :: v77 :: v78 :: v79 :: v80 :: v81 :: v82 :: v83 :: []), []⟩ Z := by
  obtain ⟨i3, hi3, hv0, hv1, hv2⟩ := info_parts infoEdge
  have HOW : Hid (∀ Y, Z.grownBy Y none → Y.ownsRow B 61 2 (.slice ka kq kc) kq xs) := hOW
  have HPS : Hid (∀ Y, Z.grownBy Y none → B ≤ Y.heap.size) := hBS
  have HFIN := show Hid _ from hfin
  have hi0 : (0 : Int) ≤ (i : Int) := by omega
  clear hOW hBS hfin
  conv => arg 2; whnf
  go_region_law (first
    | (refine step_append_like _ rfl (.tmp 78) (.tmp 80) 41 rfl B 61 i3 (.agg #[.int .i64 0, .int .i64 0]) 2 16 Try.underlying41 hi3 hv0 hv1 hv2 rfl (by decide) (.slice ka kq kc) kq xs (by simp [Act.eval]) (HOW.out _ (grown_trans (World.grownBy_alloc _ _ none) (grown_drewN _ 1))) ⟨Z.heap.size, 0, none⟩ 1 1 [.int .i64 (-8), .int .i64 0] (by simp [Act.eval]) rfl (World.news_of_block (heap_alloc_last Z _)) (by simp [Value.oneCell']) (by unfold maxLen; omega) (by omega) (HPS.out _ (grown_trans (World.grownBy_alloc _ _ none) (grown_drewN _ 1))) ?_; intro a7 c7 wC hgC hsC; obtain ⟨q2, q3, q4, q1⟩ := HFIN.out _ wC a7 c7 (grown_trans (World.grownBy_alloc _ _ none) (grown_drewN _ 1)) hgC hsC; have HQ9 := show Hid _ from q1; clear q1 hgC hsC)
    | fail)
  all_goals exact HQ9.out _ _ _ _ _ _ _ _ _ _ _ _ _ _

theorem sp_edgq {Q0 : Exit → Act → World → Prop} {Z : World} {B ab sb N sc i kq kc : Nat} {ka : Option Addr} {xs : List Value}
    {v0 v3 v4 v5 v6 v7 v8 v9 v10 v11 v12 v13 v14 v15 v16 v17 v18 v19 v20 v21 v22 v23 v24 v25 v26 v27 v28 v29 v30 v31 v32 v33 v34 v35 v36 v37 v38 v39 v40 v41 v42 v43 v44 v45 v46 v47 v48 v49 v50 v51 v52 v53 v54 v55 v56 v57 v58 v59 v60 v61 v62 v63 v64 v65 v66 v67 v68 v69 v70 v71 v72 v73 v74 v75 v76 v77 v78 v79 v80 v81 v82 v83 : Value}
    (x1 : Z.cell? ⟨ab, 0, none⟩ = some (.slice (some ⟨sb, 0, none⟩) N sc)) (x2 : Z.cell? ⟨sb, i * 2 + 1, none⟩ = some (.slice ka kq kc))
    (x3 : ∀ o, (Z.alloc o).cell? ⟨ab, 0, none⟩ = some (.slice (some ⟨sb, 0, none⟩) N sc)) (x4 : ∀ o, (Z.alloc o).cell? ⟨sb, i * 2 + 1, none⟩ = some (.slice ka kq kc))
    (hiN : (i : Int) < (N : Int)) (hkq : kq ≤ 100000000)
    (hOW : ∀ Y, Z.grownBy Y none → Y.ownsRow B 61 2 (.slice ka kq kc) kq xs) (hBS : ∀ Y, Z.grownBy Y none → B ≤ Y.heap.size)
    (hfin : ∀ (Y V : World) (a' : Option Addr) (c' : Nat), Z.grownBy Y none → Y.grownBy V (Value.slice ka kq kc).ownBlock → Sizes Y V → V.cell? ⟨sb, i * 2 + 1, none⟩ = some (.slice ka kq kc) ∧ V.frozen? ⟨sb, i * 2 + 1, none⟩ = false ∧ V.cell? ⟨ab, 0, none⟩ = some (.slice (some ⟨sb, 0, none⟩) N sc) ∧ ∀ u70 u71 u72 u73 u74 u75 u76 u77 u78 u79 u80 u81 u82 u83 : Value, Q0 .normal ⟨List.toArray (v0 :: .pointer (some ⟨ab, 0, none⟩) :: .int .i64 (i : Int) :: v3 :: v4 :: v5 :: v6 :: v7 :: v8 :: v9 :: v10 :: v11 :: v12 :: v13 :: v14 :: v15 :: v16 :: v17 :: v18 :: v19 :: v20 :: v21 :: v22 :: v23 :: v24 :: v25 :: v26 :: v27 :: v28 :: v29 :: v30 :: v31 :: v32 :: v33 :: v34 :: v35 :: v36 :: v37 :: v38 :: v39 :: v40 :: v41 :: v42 :: v43 :: v44 :: v45 :: v46 :: v47 :: v48 :: v49 :: v50 :: v51 :: v52 :: v53 :: v54 :: v55 :: v56 :: v57 :: v58 :: v59 :: v60 :: v61 :: v62 :: v63 :: v64 :: v65 :: v66 :: v67 :: v68 :: v69 :: u70 :: u71 :: u72 :: u73 :: u74 :: u75 :: u76 :: u77 :: u78 :: u79 :: u80 :: u81 :: u82 :: u83 :: []), []⟩ (V.setCell ⟨sb, i * 2 + 1, none⟩ (.slice a' (kq + 1) c'))) :
    Code.wp Try.prog sp_edgC Q0 ⟨List.toArray (v0 :: .pointer (some ⟨ab, 0, none⟩) :: .int .i64 (i : Int) :: v3 :: v4 :: v5 :: v6 :: v7 :: v8 :: v9 :: v10 :: v11 :: v12 :: v13 :: v14 :: v15 :: v16 :: v17 :: v18 :: v19 :: v20 :: v21 :: v22 :: v23 :: v24 :: v25 :: v26 :: v27 :: v28 :: v29 :: v30 :: v31 :: v32 :: v33 :: v34 :: v35 :: v36 :: v37 :: v38 :: v39 :: v40 :: v41 :: v42 :: v43 :: v44 :: v45 :: v46 :: v47 :: v48 :: v49 :: v50 :: v51 :: v52 :: v53 :: v54 :: v55 :: v56 :: v57 :: v58 :: v59 :: v60 :: v61 :: v62 :: v63 :: v64 :: v65 :: v66 :: v67 :: v68 :: v69 :: v70 :: v71 :: v72 :: v73 :: v74 :: v75 :: v76 :: v77 :: v78 :: v79 :: v80 :: v81 :: v82 :: v83 :: []), []⟩ Z :=
  wp_mono (sp_edg (K := fun a w => Q0 .normal a w) x1 x2 x3 x4 hiN hkq hOW hBS hfin) fun e a w h => by
    cases e <;> first | exact h | exact h.elim

end Go.Proofs.Ytapahpljmcaahaa.J

/-
  lr0: the law's spoil, walked.
-/
namespace Go.Proofs.Ytapahpljmcaahaa.J
open Go.RowKit Go.Maps Go.Shelf

attribute [local go_sem] Oper.semAt_some

set_option maxRecDepth 100000 in
set_option maxHeartbeats 4000000 in
theorem spoil_any (w0 w : World) (sa : Option Addr) (sc : Nat) (ask nI : Int) (B : Nat) (ks : List (List It)) (el : Nat → List It) (kv ev : Nat → Value) (hw : w0.grownBy w none) (hB0 : w0.heap.size ≤ B) (hBw : B ≤ w.heap.size) (hA : AutP B w (.slice sa ks.length sc) ks el kv ev) (hks : ks.length ≤ 256) (hkb : ∀ i, i < ks.length → (ks.getD i []).length ≤ 10000000) (heb : ∀ i, i < ks.length → (el i).length ≤ 1000) :
    Calls Try.prog 10 #[.agg #[.slice sa ks.length sc, .int .i64 ask, .int .i64 nI]] w fun e y => e = .returned (.tuple #[]) ∧ w0.grownBy y none := by
  obtain ⟨N, hN⟩ : ∃ n, n = ks.length := ⟨_, rfl⟩
  have HKB : Hid (∀ i, i < N → (ks.getD i []).length ≤ 10000000) := by rw [hN]; exact hkb
  have HEB : Hid (∀ i, i < N → (el i).length ≤ 1000) := by rw [hN]; exact heb
  have HBW : Hid (B ≤ w.heap.size) := hBw
  have HG0 : Hid (w0.grownBy w none) := hw
  rw [← hN] at hks
  by_cases h0 : N = 0
  · rw [← hN]
    subst h0
    clear hA hkb heb hB0 hBw hw hN
    go_enter Try.func10, Try.ntmps10
    go_wp2_with fail
    go_loopg [2] 1 (fun gk v2 wr => v2 = .int .i64 0 ∧ gk = 1 ∧ wr = w.alloc (.cells #[.slice sa 0 sc, .int .i64 ask, .int .i64 nI] 32))
    case atStart => exact ⟨rfl, rfl, rfl⟩
    case round =>
      obtain ⟨rfl, _, rfl⟩ := hrel
      go_wp2_with fail
      go_end0
      exact ⟨rfl, grown_trans HG0.out (World.grownBy_alloc _ _ none)⟩
  · obtain ⟨sb, sc', hsv, _, _⟩ := hA.st (q := 0) (by omega)
    simp only [Value.slice.injEq] at hsv
    obtain ⟨rfl, _, rfl⟩ := hsv
    obtain ⟨cur, hcur, hcs⟩ : ∃ cur, w.heap[sb]? = some (.cells cur 43 (0, 0)) ∧ B ≤ sb ∧ ∀ j u, (stV kv ev ks.length)[j]? = some u → cur[j]? = some u := by
      rcases hA.row.2 with ⟨h1, _⟩ | ⟨g, cap, cur, h1, hB, hh, _, _, hs, ht⟩
      · cases h1
      · simp only [Value.slice.injEq, Option.some.injEq, Addr.mk.injEq] at h1
        obtain ⟨⟨rfl, _⟩, _⟩ := h1
        refine ⟨cur, hh, hB, fun j u hu => ?_⟩
        rw [← ht, List.getElem?_take] at hu
        split at hu
        · simpa using hu
        · cases hu
    have HS0 : Hid (SpAt w0 (w.alloc (.cells #[.slice (some ⟨sb, 0, none⟩) N sc, .int .i64 ask, .int .i64 nI] 32)) w.heap.size #[.slice (some ⟨sb, 0, none⟩) N sc, .int .i64 ask, .int .i64 nI] B sb N 0 0 kv ev (fun i => (ks.getD i []).length) (fun i => (el i).length) cur) :=
      ⟨grown_trans hw (World.grownBy_alloc _ _ none), box_kept hcur (World.grownBy_alloc _ _ none), fun j _ h2 => hcs.2 _ _ (stV_at kv ev _ j (by omega)).1, fun j _ h2 => hcs.2 _ _ (stV_at kv ev _ j (by omega)).2, fun j _ h2 => ⟨_, keep0 (hA.ker j (by omega)) (World.grownBy_alloc _ _ none)⟩, fun j _ h2 => ⟨_, keep0 (hA.edg j (by omega)) (World.grownBy_alloc _ _ none)⟩, ⟨hB0, hcs.1⟩, heap_alloc_last w _⟩
    obtain ⟨kn, hkn⟩ : ∃ kn : Nat → Nat, kn = fun i => (ks.getD i []).length := ⟨_, rfl⟩
    obtain ⟨en, hen⟩ : ∃ en : Nat → Nat, en = fun i => (el i).length := ⟨_, rfl⟩
    rw [← hkn, ← hen] at HS0
    have HKN : Hid (∀ i, i < N → kn i ≤ 10000000) := fun i hi => by rw [hkn]; exact HKB.out i hi
    have HEN : Hid (∀ i, i < N → en i ≤ 1000) := fun i hi => by rw [hen]; exact HEB.out i hi
    rw [← hN]
    obtain ⟨ab, hab⟩ : ∃ b, b = w.heap.size := ⟨_, rfl⟩
    have HAB : Hid (ab = w.heap.size) := hab
    clear hA hkb heb hB0 hBw hw hN h0 hcur hcs hkn hen hab HKB HEB HG0 HBW
    go_enter Try.func10, Try.ntmps10
    go_wp2_with fail
    rw [← HAB.out] at HS0
    rw [← HAB.out]
    go_loopg [2] N (fun gk v2 wr => ∃ (i : Nat) (cur : Array Value), i ≤ N ∧ gk = N - i ∧ v2 = .int .i64 i ∧ SpAt w0 wr ab #[.slice (some ⟨sb, 0, none⟩) N sc, .int .i64 ask, .int .i64 nI] B sb N i i kv ev kn en cur)
    case atStart => exact ⟨0, cur, Nat.zero_le _, rfl, rfl, HS0.out⟩
    case round =>
      obtain ⟨i, cur, hi, hgi, rfl, hSp⟩ := hrel
      have HGI : Hid (gk = N - i) := hgi
      have HSP : Hid (SpAt w0 wr ab #[.slice (some ⟨sb, 0, none⟩) N sc, .int .i64 ask, .int .i64 nI] B sb N i i kv ev kn en cur) := hSp
      have HBC : Hid (∀ X ik ie cur, SpAt w0 X ab #[.slice (some ⟨sb, 0, none⟩) N sc, .int .i64 ask, .int .i64 nI] B sb N ik ie kv ev kn en cur → X.cell? ⟨ab, 0, none⟩ = some (.slice (some ⟨sb, 0, none⟩) N sc)) := fun X ik ie cur h => by rw [cell_of_row _ _ _ _ _ _ h.box]; rfl
      have y0 := HBC.out _ _ _ _ hSp
      clear hgi hSp HS0
      by_cases hlt : i < N
      · have hid : decide (i < N) = true := decide_eq_true hlt
        have hi0 : (0 : Int) ≤ (i : Int) := by omega
        have hi1 : (i : Int) < (N : Int) := by omega
        have hng : IntKind.i64.wrap (-(i : Int)) = -(i : Int) := by rw [IntKind.wrap_i64]; omega
        obtain ⟨ka, kc, hka⟩ := (HSP.out.ker i (Nat.le_refl _) hlt).cut
        obtain ⟨ea, ec, hea⟩ := (HSP.out.edg i (Nat.le_refl _) hlt).cut
        obtain ⟨K, hK⟩ : ∃ k, k = kn i := ⟨_, rfl⟩
        obtain ⟨E, hE⟩ : ∃ k, k = en i := ⟨_, rfl⟩
        have hKb : K ≤ 10000000 := by rw [hK]; exact HKN.out i hlt
        have hEb : E ≤ 1000 := by rw [hE]; exact HEN.out i hlt
        rw [← hK] at hka
        rw [← hE] at hea
        have HKC : Hid (∀ X ie cur, SpAt w0 X ab #[.slice (some ⟨sb, 0, none⟩) N sc, .int .i64 ask, .int .i64 nI] B sb N i ie kv ev kn en cur → X.cell? ⟨sb, i * 2, none⟩ = some (.slice ka K kc) ∧ Like2 X B 49 (.slice ka K kc) K) := fun X ie cur h => by
          rw [← hka]
          refine ⟨h.cellK (Nat.le_refl _) hlt, ?_⟩
          have h2 := h.ker i (Nat.le_refl _) hlt
          rw [hK]; exact h2
        have HEC : Hid (∀ X ik cur, SpAt w0 X ab #[.slice (some ⟨sb, 0, none⟩) N sc, .int .i64 ask, .int .i64 nI] B sb N ik i kv ev kn en cur → X.cell? ⟨sb, i * 2 + 1, none⟩ = some (.slice ea E ec) ∧ Like2 X B 61 (.slice ea E ec) E) := fun X ik cur h => by
          rw [← hea]
          refine ⟨h.cellE (Nat.le_refl _) hlt, ?_⟩
          have h2 := h.edg i (Nat.le_refl _) hlt
          rw [hE]; exact h2
        clear hK hE hka hea
        generalize wr = W1 at *
        go_wp2_with fail
        clear y0
        go_loopg [3] K (fun gk v3 wr => ∃ k : Nat, k ≤ K ∧ gk = K - k ∧ v3 = .int .i64 k ∧ SpAt w0 wr ab #[.slice (some ⟨sb, 0, none⟩) N sc, .int .i64 ask, .int .i64 nI] B sb N i i kv ev kn en cur)
        case atStart => exact ⟨0, Nat.zero_le _, rfl, rfl, HSP.out⟩
        case round =>
          obtain ⟨k, hk, hgk, rfl, hSp⟩ := hrel
          have HGK : Hid (gk = K - k) := hgk
          have HS2 : Hid (SpAt w0 wr ab #[.slice (some ⟨sb, 0, none⟩) N sc, .int .i64 ask, .int .i64 nI] B sb N i i kv ev kn en cur) := hSp
          have y0 := HBC.out _ _ _ _ hSp
          obtain ⟨r0, hlk⟩ := HKC.out _ _ _ hSp
          clear hgk hSp HSP
          by_cases hkt : k < K
          · have hkd : decide (k < K) = true := decide_eq_true hkt
            have hk0 : (0 : Int) ≤ (k : Int) := by omega
            have hk1 : (k : Int) < (K : Int) := by omega
            obtain ⟨g, c, u0, u1, kcur, he, hBg, c0, c1, cf, hblk⟩ := hlk.at hkt
            simp only [Value.slice.injEq] at he
            obtain ⟨rfl, _, rfl⟩ := he
            have HNX : Hid (SpAt w0 ((wr.setCell ⟨g, k * 2, none⟩ (.int .i64 (-(i : Int)))).setCell ⟨g, k * 2 + 1, none⟩ (.int .i64 (-9))) ab #[.slice (some ⟨sb, 0, none⟩) N sc, .int .i64 ask, .int .i64 nI] B sb N i i kv ev kn en cur) := HS2.out.over hblk (by decide) (by decide) hBg
            clear hlk hBg hblk
            go_wp2_with fail
            go_roundg (K - (k + 1))
            case measure => have := HGK.out; omega
            case rel => exact ⟨k + 1, by omega, rfl, by go_num, HNX.out⟩
          · have hkK : K = k := by omega
            subst hkK
            have hkd : decide (K < K) = false := decide_eq_false (by omega)
            clear hlk
            generalize wr = W2 at *
            go_wp2_with fail
            clear y0 r0
            go_loopg [4] E (fun gk v4 wr => ∃ k : Nat, k ≤ E ∧ gk = E - k ∧ v4 = .int .i64 k ∧ SpAt w0 wr ab #[.slice (some ⟨sb, 0, none⟩) N sc, .int .i64 ask, .int .i64 nI] B sb N i i kv ev kn en cur)
            case atStart => exact ⟨0, Nat.zero_le _, rfl, rfl, HS2.out⟩
            case round =>
              obtain ⟨k, hk, hgk, rfl, hSp⟩ := hrel
              have HGE : Hid (gk = E - k) := hgk
              have HS3 : Hid (SpAt w0 wr ab #[.slice (some ⟨sb, 0, none⟩) N sc, .int .i64 ask, .int .i64 nI] B sb N i i kv ev kn en cur) := hSp
              have y0 := HBC.out _ _ _ _ hSp
              obtain ⟨r0, hlk⟩ := HEC.out _ _ _ hSp
              clear hgk hSp HS2
              by_cases hkt : k < E
              · have hkd : decide (k < E) = true := decide_eq_true hkt
                have hk0 : (0 : Int) ≤ (k : Int) := by omega
                have hk1 : (k : Int) < (E : Int) := by omega
                obtain ⟨g, c, u0, u1, kcur, he, hBg, c0, c1, cf, hblk⟩ := hlk.at hkt
                simp only [Value.slice.injEq] at he
                obtain ⟨rfl, _, rfl⟩ := he
                have HNX : Hid (SpAt w0 ((wr.setCell ⟨g, k * 2, none⟩ (.int .i64 (-(i : Int)))).setCell ⟨g, k * 2 + 1, none⟩ (.int .i64 (-9))) ab #[.slice (some ⟨sb, 0, none⟩) N sc, .int .i64 ask, .int .i64 nI] B sb N i i kv ev kn en cur) := HS3.out.over hblk (by decide) (by decide) hBg
                clear hlk hBg hblk
                go_wp2_with fail
                go_roundg (E - (k + 1))
                case measure => have := HGE.out; omega
                case rel => exact ⟨k + 1, by omega, rfl, by go_num, HNX.out⟩
              · have hkE : E = k := by omega
                subst hkE
                have hkd : decide (E < E) = false := decide_eq_false (by omega)
                obtain ⟨xs, hxs⟩ := (HKC.out _ _ _ HS3.out).2
                have HXS : Hid (wr.ownsRow B 49 2 (.slice ka K kc) K xs) := hxs
                have HSZ : Hid (∀ Y, wr.grownBy Y none → B ≤ Y.heap.size) := fun Y hY => by
                  have h1 := (Array.getElem?_eq_some_iff.1 HS3.out.blk).1
                  have h2 := HS3.out.lo.2
                  have h3 := hY.size
                  omega
                clear hlk hxs
                go_wp2_with fail
                refine sp_kerq (Z := wr) (B := B) (ab := ab) (sb := sb) (N := N) (sc := sc) (i := i) (kq := K) (kc := kc) (ka := ka) (xs := xs) y0 (HKC.out _ _ _ HS3.out).1 (fun o => HBC.out _ _ _ _ (HS3.out.kept (World.grownBy_alloc _ o none))) (fun o => (HKC.out _ _ _ (HS3.out.kept (World.grownBy_alloc _ o none))).1) hi1 (by omega) (fun Y hY => keep0 HXS.out hY) HSZ.out ?_
                intro Y9 V9 a9 c9 hY9 hg9 hs9
                have hV := (HS3.out.kept hY9).more (keep0 HXS.out hY9) (by decide) (by decide) hg9 hs9
                refine ⟨(HKC.out _ _ _ hV).1, hV.free _, HBC.out _ _ _ _ hV, ?_⟩
                intro u56 u57 u58 u59 u60 u61 u62 u63 u64 u65 u66 u67 u68 u69
                have HS4 : Hid (SpAt w0 (V9.setCell ⟨sb, i * 2, none⟩ (.slice a9 (K + 1) c9)) ab #[.slice (some ⟨sb, 0, none⟩) N sc, .int .i64 ask, .int .i64 nI] B sb N (i + 1) i kv ev kn en (cur.setIfInBounds (i * 2) (.slice a9 (K + 1) c9))) := hV.setK
                obtain ⟨X4, hX4⟩ : ∃ X, X = V9.setCell ⟨sb, i * 2, none⟩ (.slice a9 (K + 1) c9) := ⟨_, rfl⟩
                rw [← hX4] at HS4
                rw [← hX4]
                obtain ⟨ys, hys⟩ := (HEC.out _ _ _ HS4.out).2
                have HYS : Hid (X4.ownsRow B 61 2 (.slice ea E ec) E ys) := hys
                have HSY : Hid (∀ Y, X4.grownBy Y none → B ≤ Y.heap.size) := fun Y hY => by
                  have h1 := (Array.getElem?_eq_some_iff.1 HS4.out.blk).1
                  have h2 := HS4.out.lo.2
                  have h3 := hY.size
                  omega
                clear hX4 hys hV hY9 hg9 hs9 y0 r0 HS3 HXS HSZ
                go_wp2_with fail
                refine sp_edgq (Z := X4) (B := B) (ab := ab) (sb := sb) (N := N) (sc := sc) (i := i) (kq := E) (kc := ec) (ka := ea) (xs := ys) (HBC.out _ _ _ _ HS4.out) (HEC.out _ _ _ HS4.out).1 (fun o => HBC.out _ _ _ _ (HS4.out.kept (World.grownBy_alloc _ o none))) (fun o => (HEC.out _ _ _ (HS4.out.kept (World.grownBy_alloc _ o none))).1) hi1 (by omega) (fun Y hY => keep0 HYS.out hY) HSY.out ?_
                intro Y9 V8 a8 c8 hY9 hg9 hs9
                have hV := (HS4.out.kept hY9).more (keep0 HYS.out hY9) (by decide) (by decide) hg9 hs9
                refine ⟨(HEC.out _ _ _ hV).1, hV.free _, HBC.out _ _ _ _ hV, ?_⟩
                intro u70 u71 u72 u73 u74 u75 u76 u77 u78 u79 u80 u81 u82 u83
                have HS5 := show Hid _ from hV.setE (v := .slice a8 (E + 1) c8)
                clear hV hY9 hg9 hs9
                go_wp2_with fail
                go_roundg (N - (i + 1))
                case measure => have := HGI.out; omega
                case rel => exact ⟨i + 1, _, by omega, rfl, by go_num, HS5.out⟩
      · have hiN : N = i := by omega
        subst hiN
        have hid : decide (N < N) = false := decide_eq_false (by omega)
        go_wp2_with fail
        go_end0
        exact ⟨rfl, HSP.out.grown⟩

end Go.Proofs.Ytapahpljmcaahaa.J
