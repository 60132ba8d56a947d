import Derived.Test.YtgmljpkenipgjaaQghebplnneajb
import Derived.Test.YtgmljpkenipgjaaQgjimidgjjnjb
import Derived.Deep.RegionHeld3
import Derived.BigQuiet
import Derived.Test.YtgmljpkenipgjaaQdjnnggcmjpog
import Derived.Test.YtgmljpkenipgjaaQoolelimaifpo

/-
  pack: PackSays: a region that calls, a declaration of its own (printed by tools/pk_says.py).
-/
namespace Go.Proofs.Ytgmljpkenipgjaa.J
open Go.RowKit Go.Maps Go.Shelf Pk

attribute [local go_sem] Oper.semAt_some

noncomputable def plS29 : Code := ((Try.f7.body.map (regionsJ 29)).getD []).getD 0 .skip

set_option maxRecDepth 100000 in
set_option maxHeartbeats 8000000 in
theorem pl_s29 {K : Act → World → Prop} {V : World} {db pb eb eo N dc c q : Nat} {af : Nat → Option Addr} {cf n : Nat → Nat} {ra ro ln lc : Nat} {la : Option Addr}
    {v0 v2 v4 v6 v7 v8 v9 v10 v11 v12 v13 v14 v15 v16 v17 v18 v19 v20 v21 v22 v23 v24 v25 v26 v27 v28 v29 v30 v31 v32 v33 v34 v35 v36 v37 v38 v39 v40 v41 v42 v43 v44 v45 v46 v47 v48 v49 v50 v51 v52 v53 v54 v55 v56 v57 v58 v59 v60 v61 v62 v63 v64 v65 v66 v67 v68 v69 v70 v71 v72 v73 v74 v75 v76 v77 v78 v79 v80 v81 v82 v83 v84 v85 v86 v87 v88 v89 v90 v91 v92 v93 v94 v95 v96 v97 v98 v99 v100 v101 v102 v103 v104 v105 v106 v107 v108 v109 v110 v111 v112 v113 v114 v115 v116 v117 v118 v119 v120 v121 v122 v123 v124 v125 v126 v127 v128 v129 v130 v131 v132 v133 v134 v135 v136 v137 v138 v139 v140 v141 v142 v143 v144 v145 v146 v147 v148 v149 v150 v151 v152 v153 v154 v155 v156 v157 v158 v159 v160 v161 v162 v163 v164 v165 v166 v167 v168 v169 v170 v171 v172 v173 v174 v175 v176 v177 v178 v179 v180 v181 v182 v183 v184 v185 v186 v187 v188 v189 v190 v191 v192 v193 v194 v195 v196 v197 v198 v199 v200 v201 v202 v203 v204 v205 v206 v207 v208 v209 v210 v211 v212 v213 v214 v215 v216 : Value}
    (hq : q < N)
    (hp : ∀ X, V.grownBy X none → X.cell? ⟨pb, 0, none⟩ = some (.slice (some ⟨eb, eo, none⟩) N dc) ∧ X.cell? ⟨pb, 1, none⟩ = some (.slice (af 1) (n 1) (cf 1)) ∧ X.cell? ⟨pb, 2, none⟩ = some (.slice (af 2) (n 2) (cf 2)) ∧ X.cell? ⟨pb, 3, none⟩ = some (.slice (af 3) (n 3) (cf 3)) ∧ X.cell? ⟨pb, 4, none⟩ = some (.slice (af 4) (n 4) (cf 4)) ∧ X.cell? ⟨pb, 5, none⟩ = some (.slice (af 5) (n 5) (cf 5)) ∧ X.cell? ⟨pb, 6, none⟩ = some (.slice (af 6) (n 6) (cf 6)) ∧ X.cell? ⟨pb, 7, none⟩ = some (.slice (af 7) (n 7) (cf 7)))
    (hd : ∀ X, V.grownBy X none → X.cell? ⟨db, 1, none⟩ = some (.slice (some ⟨ra, ro, none⟩) N c) ∧ X.cell? ⟨ra, ro + q, none⟩ = some (.slice la ln lc))
    (hA : ∀ (X : World) (z : Int), (z = (ln : Int) ∨ z = -1) → V.grownBy X none → Calls Try.prog 24 #[.agg #[.slice (some ⟨eb, eo, none⟩) N dc, .slice (af 1) (n 1) (cf 1), .slice (af 2) (n 2) (cf 2), .slice (af 3) (n 3) (cf 3), .slice (af 4) (n 4) (cf 4), .slice (af 5) (n 5) (cf 5), .slice (af 6) (n 6) (cf 6), .slice (af 7) (n 7) (cf 7)], .int .i64 (q : Int), .int .i64 z] X fun e y => e = .returned (.int .i64 (-1)) ∧ X.grownBy y none)
    (hexit : ∀ (wz : World) (u185 u186 u187 u188 u189 u190 u191 u192 u193 u194 u195 u196 u197 u198 u199 : Value), V.grownBy wz none → K ⟨List.toArray (v0 :: .pointer (some ⟨db, 0, none⟩) :: v2 :: .pointer (some ⟨pb, 0, none⟩) :: v4 :: .int .i64 (q : Int) :: v6 :: v7 :: v8 :: v9 :: v10 :: v11 :: v12 :: v13 :: v14 :: v15 :: v16 :: v17 :: v18 :: v19 :: v20 :: v21 :: v22 :: v23 :: v24 :: v25 :: v26 :: v27 :: v28 :: v29 :: v30 :: v31 :: v32 :: v33 :: v34 :: v35 :: v36 :: v37 :: v38 :: v39 :: v40 :: v41 :: v42 :: v43 :: v44 :: v45 :: v46 :: v47 :: v48 :: v49 :: v50 :: v51 :: v52 :: v53 :: v54 :: v55 :: v56 :: v57 :: v58 :: v59 :: v60 :: v61 :: v62 :: v63 :: v64 :: v65 :: v66 :: v67 :: v68 :: v69 :: v70 :: v71 :: v72 :: v73 :: v74 :: v75 :: v76 :: v77 :: v78 :: v79 :: v80 :: v81 :: v82 :: v83 :: v84 :: v85 :: v86 :: v87 :: v88 :: v89 :: v90 :: v91 :: v92 :: v93 :: v94 :: v95 :: v96 :: v97 :: v98 :: v99 :: v100 :: v101 :: v102 :: v103 :: v104 :: v105 :: v106 :: v107 :: v108 :: v109 :: v110 :: v111 :: v112 :: v113 :: v114 :: v115 :: v116 :: v117 :: v118 :: v119 :: v120 :: v121 :: v122 :: v123 :: v124 :: v125 :: v126 :: v127 :: v128 :: v129 :: v130 :: v131 :: v132 :: v133 :: v134 :: v135 :: v136 :: v137 :: v138 :: v139 :: v140 :: v141 :: v142 :: v143 :: v144 :: v145 :: v146 :: v147 :: v148 :: v149 :: v150 :: v151 :: v152 :: v153 :: v154 :: v155 :: v156 :: v157 :: v158 :: v159 :: v160 :: v161 :: v162 :: v163 :: v164 :: v165 :: v166 :: v167 :: v168 :: v169 :: v170 :: v171 :: v172 :: v173 :: v174 :: v175 :: v176 :: v177 :: v178 :: v179 :: v180 :: v181 :: v182 :: v183 :: v184 :: u185 :: u186 :: u187 :: u188 :: u189 :: u190 :: u191 :: u192 :: u193 :: u194 :: u195 :: u196 :: u197 :: u198 :: u199 :: .bool false :: v201 :: v202 :: v203 :: v204 :: v205 :: v206 :: v207 :: v208 :: v209 :: v210 :: v211 :: v212 :: v213 :: v214 :: v215 :: v216 :: []), []⟩ wz) :
    Code.wp Try.prog plS29 (OnEndJ K) ⟨List.toArray (v0 :: .pointer (some ⟨db, 0, none⟩) :: v2 :: .pointer (some ⟨pb, 0, none⟩) :: v4 :: .int .i64 (q : Int) :: v6 :: v7 :: v8 :: v9 :: v10 :: v11 :: v12 :: v13 :: v14 :: v15 :: v16 :: v17 :: v18 :: v19 :: v20 :: v21 :: v22 :: v23 :: v24 :: v25 :: v26 :: v27 :: v28 :: v29 :: v30 :: v31 :: v32 :: v33 :: v34 :: v35 :: v36 :: v37 :: v38 :: v39 :: v40 :: v41 :: v42 :: v43 :: v44 :: v45 :: v46 :: v47 :: v48 :: v49 :: v50 :: v51 :: v52 :: v53 :: v54 :: v55 :: v56 :: v57 :: v58 :: v59 :: v60 :: v61 :: v62 :: v63 :: v64 :: v65 :: v66 :: v67 :: v68 :: v69 :: v70 :: v71 :: v72 :: v73 :: v74 :: v75 :: v76 :: v77 :: v78 :: v79 :: v80 :: v81 :: v82 :: v83 :: v84 :: v85 :: v86 :: v87 :: v88 :: v89 :: v90 :: v91 :: v92 :: v93 :: v94 :: v95 :: v96 :: v97 :: v98 :: v99 :: v100 :: v101 :: v102 :: v103 :: v104 :: v105 :: v106 :: v107 :: v108 :: v109 :: v110 :: v111 :: v112 :: v113 :: v114 :: v115 :: v116 :: v117 :: v118 :: v119 :: v120 :: v121 :: v122 :: v123 :: v124 :: v125 :: v126 :: v127 :: v128 :: v129 :: v130 :: v131 :: v132 :: v133 :: v134 :: v135 :: v136 :: v137 :: v138 :: v139 :: v140 :: v141 :: v142 :: v143 :: v144 :: v145 :: v146 :: v147 :: v148 :: v149 :: v150 :: v151 :: v152 :: v153 :: v154 :: v155 :: v156 :: v157 :: v158 :: v159 :: v160 :: v161 :: v162 :: v163 :: v164 :: v165 :: v166 :: v167 :: v168 :: v169 :: v170 :: v171 :: v172 :: v173 :: v174 :: v175 :: v176 :: v177 :: v178 :: v179 :: v180 :: v181 :: v182 :: v183 :: v184 :: v185 :: v186 :: v187 :: v188 :: v189 :: v190 :: v191 :: v192 :: v193 :: v194 :: v195 :: v196 :: v197 :: v198 :: v199 :: v200 :: v201 :: v202 :: v203 :: v204 :: v205 :: v206 :: v207 :: v208 :: v209 :: v210 :: v211 :: v212 :: v213 :: v214 :: v215 :: v216 :: []), []⟩ V := by
  have mixed : Try.prog.follows .mixedOrders = true := by kernel_rfl
  have HEX := show Hid _ from hexit
  have HKS : Hid (∀ X, V.grownBy X none → (X.cell? ⟨pb, 0, none⟩ = some (.slice (some ⟨eb, eo, none⟩) N dc) ∧ X.cell? ⟨pb, 1, none⟩ = some (.slice (af 1) (n 1) (cf 1)) ∧ X.cell? ⟨pb, 2, none⟩ = some (.slice (af 2) (n 2) (cf 2)) ∧ X.cell? ⟨pb, 3, none⟩ = some (.slice (af 3) (n 3) (cf 3)) ∧ X.cell? ⟨pb, 4, none⟩ = some (.slice (af 4) (n 4) (cf 4)) ∧ X.cell? ⟨pb, 5, none⟩ = some (.slice (af 5) (n 5) (cf 5)) ∧ X.cell? ⟨pb, 6, none⟩ = some (.slice (af 6) (n 6) (cf 6)) ∧ X.cell? ⟨pb, 7, none⟩ = some (.slice (af 7) (n 7) (cf 7))) ∧ X.cell? ⟨db, 1, none⟩ = some (.slice (some ⟨ra, ro, none⟩) N c) ∧ X.cell? ⟨ra, ro + q, none⟩ = some (.slice la ln lc)) := fun X hX => ⟨hp X hX, hd X hX⟩
  have HUP : Hid (V.grownBy V.drew none) := grown_drewN V 1
  have HA := show Hid _ from hA
  have hq0 : (0 : Int) ≤ (q : Int) := by omega
  have hq1 : (q : Int) < (N : Int) := by omega
  have e0 : ((-1 : Int) != -1) = false := bne_self_eq_false _
  clear hA hp hd hexit
  conv => arg 2; whnf
  go_region_held3 (fun X => (X.cell? ⟨pb, 0, none⟩ = some (.slice (some ⟨eb, eo, none⟩) N dc) ∧ X.cell? ⟨pb, 1, none⟩ = some (.slice (af 1) (n 1) (cf 1)) ∧ X.cell? ⟨pb, 2, none⟩ = some (.slice (af 2) (n 2) (cf 2)) ∧ X.cell? ⟨pb, 3, none⟩ = some (.slice (af 3) (n 3) (cf 3)) ∧ X.cell? ⟨pb, 4, none⟩ = some (.slice (af 4) (n 4) (cf 4)) ∧ X.cell? ⟨pb, 5, none⟩ = some (.slice (af 5) (n 5) (cf 5)) ∧ X.cell? ⟨pb, 6, none⟩ = some (.slice (af 6) (n 6) (cf 6)) ∧ X.cell? ⟨pb, 7, none⟩ = some (.slice (af 7) (n 7) (cf 7))) ∧ X.cell? ⟨db, 1, none⟩ = some (.slice (some ⟨ra, ro, none⟩) N c) ∧ X.cell? ⟨ra, ro + q, none⟩ = some (.slice la ln lc)) (first | exact HKS.out _ HUP.out | exact HKS.out _ HG4.out | go_keep)
    ((first
      | (go_at_call 24; refine Calls.mono (HA.out _ _ (by first | exact .inl rfl | exact .inr rfl) (by first | exact HUP.out | exact HG4.out)) ?_; rintro e w3 ⟨rfl, hg3⟩; have HG4 : Hid (V.grownBy w3 none) := (by first | exact grown_trans HUP.out hg3 | exact grown_trans HG4.out hg3); clear hg3)
      | fail))
  all_goals first | exact HEX.out _ _ _ _ _ _ _ _ _ _ _ _ _ _ _ _ HG4.out | exact HEX.out _ _ _ _ _ _ _ _ _ _ _ _ _ _ _ _ HUP.out

theorem pl_s29q {Q0 : Exit → Act → World → Prop} {V : World} {db pb eb eo N dc c q : Nat} {af : Nat → Option Addr} {cf n : Nat → Nat} {ra ro ln lc : Nat} {la : Option Addr}
    {v0 v2 v4 v6 v7 v8 v9 v10 v11 v12 v13 v14 v15 v16 v17 v18 v19 v20 v21 v22 v23 v24 v25 v26 v27 v28 v29 v30 v31 v32 v33 v34 v35 v36 v37 v38 v39 v40 v41 v42 v43 v44 v45 v46 v47 v48 v49 v50 v51 v52 v53 v54 v55 v56 v57 v58 v59 v60 v61 v62 v63 v64 v65 v66 v67 v68 v69 v70 v71 v72 v73 v74 v75 v76 v77 v78 v79 v80 v81 v82 v83 v84 v85 v86 v87 v88 v89 v90 v91 v92 v93 v94 v95 v96 v97 v98 v99 v100 v101 v102 v103 v104 v105 v106 v107 v108 v109 v110 v111 v112 v113 v114 v115 v116 v117 v118 v119 v120 v121 v122 v123 v124 v125 v126 v127 v128 v129 v130 v131 v132 v133 v134 v135 v136 v137 v138 v139 v140 v141 v142 v143 v144 v145 v146 v147 v148 v149 v150 v151 v152 v153 v154 v155 v156 v157 v158 v159 v160 v161 v162 v163 v164 v165 v166 v167 v168 v169 v170 v171 v172 v173 v174 v175 v176 v177 v178 v179 v180 v181 v182 v183 v184 v185 v186 v187 v188 v189 v190 v191 v192 v193 v194 v195 v196 v197 v198 v199 v200 v201 v202 v203 v204 v205 v206 v207 v208 v209 v210 v211 v212 v213 v214 v215 v216 : Value}
    (hq : q < N)
    (hp : ∀ X, V.grownBy X none → X.cell? ⟨pb, 0, none⟩ = some (.slice (some ⟨eb, eo, none⟩) N dc) ∧ X.cell? ⟨pb, 1, none⟩ = some (.slice (af 1) (n 1) (cf 1)) ∧ X.cell? ⟨pb, 2, none⟩ = some (.slice (af 2) (n 2) (cf 2)) ∧ X.cell? ⟨pb, 3, none⟩ = some (.slice (af 3) (n 3) (cf 3)) ∧ X.cell? ⟨pb, 4, none⟩ = some (.slice (af 4) (n 4) (cf 4)) ∧ X.cell? ⟨pb, 5, none⟩ = some (.slice (af 5) (n 5) (cf 5)) ∧ X.cell? ⟨pb, 6, none⟩ = some (.slice (af 6) (n 6) (cf 6)) ∧ X.cell? ⟨pb, 7, none⟩ = some (.slice (af 7) (n 7) (cf 7)))
    (hd : ∀ X, V.grownBy X none → X.cell? ⟨db, 1, none⟩ = some (.slice (some ⟨ra, ro, none⟩) N c) ∧ X.cell? ⟨ra, ro + q, none⟩ = some (.slice la ln lc))
    (hA : ∀ (X : World) (z : Int), (z = (ln : Int) ∨ z = -1) → V.grownBy X none → Calls Try.prog 24 #[.agg #[.slice (some ⟨eb, eo, none⟩) N dc, .slice (af 1) (n 1) (cf 1), .slice (af 2) (n 2) (cf 2), .slice (af 3) (n 3) (cf 3), .slice (af 4) (n 4) (cf 4), .slice (af 5) (n 5) (cf 5), .slice (af 6) (n 6) (cf 6), .slice (af 7) (n 7) (cf 7)], .int .i64 (q : Int), .int .i64 z] X fun e y => e = .returned (.int .i64 (-1)) ∧ X.grownBy y none)
    (hexit : ∀ (wz : World) (u185 u186 u187 u188 u189 u190 u191 u192 u193 u194 u195 u196 u197 u198 u199 : Value), V.grownBy wz none → Q0 .normal ⟨List.toArray (v0 :: .pointer (some ⟨db, 0, none⟩) :: v2 :: .pointer (some ⟨pb, 0, none⟩) :: v4 :: .int .i64 (q : Int) :: v6 :: v7 :: v8 :: v9 :: v10 :: v11 :: v12 :: v13 :: v14 :: v15 :: v16 :: v17 :: v18 :: v19 :: v20 :: v21 :: v22 :: v23 :: v24 :: v25 :: v26 :: v27 :: v28 :: v29 :: v30 :: v31 :: v32 :: v33 :: v34 :: v35 :: v36 :: v37 :: v38 :: v39 :: v40 :: v41 :: v42 :: v43 :: v44 :: v45 :: v46 :: v47 :: v48 :: v49 :: v50 :: v51 :: v52 :: v53 :: v54 :: v55 :: v56 :: v57 :: v58 :: v59 :: v60 :: v61 :: v62 :: v63 :: v64 :: v65 :: v66 :: v67 :: v68 :: v69 :: v70 :: v71 :: v72 :: v73 :: v74 :: v75 :: v76 :: v77 :: v78 :: v79 :: v80 :: v81 :: v82 :: v83 :: v84 :: v85 :: v86 :: v87 :: v88 :: v89 :: v90 :: v91 :: v92 :: v93 :: v94 :: v95 :: v96 :: v97 :: v98 :: v99 :: v100 :: v101 :: v102 :: v103 :: v104 :: v105 :: v106 :: v107 :: v108 :: v109 :: v110 :: v111 :: v112 :: v113 :: v114 :: v115 :: v116 :: v117 :: v118 :: v119 :: v120 :: v121 :: v122 :: v123 :: v124 :: v125 :: v126 :: v127 :: v128 :: v129 :: v130 :: v131 :: v132 :: v133 :: v134 :: v135 :: v136 :: v137 :: v138 :: v139 :: v140 :: v141 :: v142 :: v143 :: v144 :: v145 :: v146 :: v147 :: v148 :: v149 :: v150 :: v151 :: v152 :: v153 :: v154 :: v155 :: v156 :: v157 :: v158 :: v159 :: v160 :: v161 :: v162 :: v163 :: v164 :: v165 :: v166 :: v167 :: v168 :: v169 :: v170 :: v171 :: v172 :: v173 :: v174 :: v175 :: v176 :: v177 :: v178 :: v179 :: v180 :: v181 :: v182 :: v183 :: v184 :: u185 :: u186 :: u187 :: u188 :: u189 :: u190 :: u191 :: u192 :: u193 :: u194 :: u195 :: u196 :: u197 :: u198 :: u199 :: .bool false :: v201 :: v202 :: v203 :: v204 :: v205 :: v206 :: v207 :: v208 :: v209 :: v210 :: v211 :: v212 :: v213 :: v214 :: v215 :: v216 :: []), []⟩ wz) :
    Code.wp Try.prog plS29 Q0 ⟨List.toArray (v0 :: .pointer (some ⟨db, 0, none⟩) :: v2 :: .pointer (some ⟨pb, 0, none⟩) :: v4 :: .int .i64 (q : Int) :: v6 :: v7 :: v8 :: v9 :: v10 :: v11 :: v12 :: v13 :: v14 :: v15 :: v16 :: v17 :: v18 :: v19 :: v20 :: v21 :: v22 :: v23 :: v24 :: v25 :: v26 :: v27 :: v28 :: v29 :: v30 :: v31 :: v32 :: v33 :: v34 :: v35 :: v36 :: v37 :: v38 :: v39 :: v40 :: v41 :: v42 :: v43 :: v44 :: v45 :: v46 :: v47 :: v48 :: v49 :: v50 :: v51 :: v52 :: v53 :: v54 :: v55 :: v56 :: v57 :: v58 :: v59 :: v60 :: v61 :: v62 :: v63 :: v64 :: v65 :: v66 :: v67 :: v68 :: v69 :: v70 :: v71 :: v72 :: v73 :: v74 :: v75 :: v76 :: v77 :: v78 :: v79 :: v80 :: v81 :: v82 :: v83 :: v84 :: v85 :: v86 :: v87 :: v88 :: v89 :: v90 :: v91 :: v92 :: v93 :: v94 :: v95 :: v96 :: v97 :: v98 :: v99 :: v100 :: v101 :: v102 :: v103 :: v104 :: v105 :: v106 :: v107 :: v108 :: v109 :: v110 :: v111 :: v112 :: v113 :: v114 :: v115 :: v116 :: v117 :: v118 :: v119 :: v120 :: v121 :: v122 :: v123 :: v124 :: v125 :: v126 :: v127 :: v128 :: v129 :: v130 :: v131 :: v132 :: v133 :: v134 :: v135 :: v136 :: v137 :: v138 :: v139 :: v140 :: v141 :: v142 :: v143 :: v144 :: v145 :: v146 :: v147 :: v148 :: v149 :: v150 :: v151 :: v152 :: v153 :: v154 :: v155 :: v156 :: v157 :: v158 :: v159 :: v160 :: v161 :: v162 :: v163 :: v164 :: v165 :: v166 :: v167 :: v168 :: v169 :: v170 :: v171 :: v172 :: v173 :: v174 :: v175 :: v176 :: v177 :: v178 :: v179 :: v180 :: v181 :: v182 :: v183 :: v184 :: v185 :: v186 :: v187 :: v188 :: v189 :: v190 :: v191 :: v192 :: v193 :: v194 :: v195 :: v196 :: v197 :: v198 :: v199 :: v200 :: v201 :: v202 :: v203 :: v204 :: v205 :: v206 :: v207 :: v208 :: v209 :: v210 :: v211 :: v212 :: v213 :: v214 :: v215 :: v216 :: []), []⟩ V :=
  wp_mono (pl_s29 (K := fun a w => Q0 .normal a w) hq hp hd hA hexit) fun e a w h => by
    cases e <;> first | exact h | exact h.elim

end Go.Proofs.Ytgmljpkenipgjaa.J

/-
  pack: a table among the arguments, opened.
-/
namespace Go.Proofs.Ytgmljpkenipgjaa.J
open Go.ChangeShapes Go.WideShapes Go.ChangeAt Go.RowKit Go.Deep

theorem cellsAct : Try.prog.cellsOf 52 = 2 := by kernel_rfl
theorem cellsActs : Try.prog.cellsOf 56 = 1 := by kernel_rfl
theorem cellsRowsA : Try.prog.cellsOf 39 = 1 := by kernel_rfl
theorem cellsRowsI : Try.prog.cellsOf 40 = 1 := by kernel_rfl
theorem cellsDense : Try.prog.cellsOf 42 = 2 := by kernel_rfl
theorem bytesAct : Try.prog.bytesOf 52 = 16 := by kernel_rfl
theorem bytesActs : Try.prog.bytesOf 56 = 24 := by kernel_rfl
theorem bytesIntsP : Try.prog.bytesOf 24 = 24 := by kernel_rfl
theorem weightsAllP {H : Type} {P : Program} {e : TypeId} : ∀ {l : List (DataW H)} {d : DataW H}, d ∈ l → ∀ n ∈ d.weights P e, n ∈ DataW.weightsAll P e l
  | x :: r, d, h, n, hn => by
    simp only [DataW.weightsAll, List.mem_append]
    rcases List.mem_cons.1 h with e | e
    · subst e; exact .inl hn
    · exact .inr (weightsAllP e n hn)

section
variable {H : Type} {enc : TypeId × Value → H} {W : World} {fuel : Nat} {cs : List Value} {x : DataW H × List MemPlace}
set_option maxRecDepth 100000 in
theorem open_acts_in (h : DataW.trod enc Try.prog W 0 (fun _ => true) true fuel 56 cs = some x) (hw : ∀ n ∈ x.1.weights Try.prog 56, n ≤ reachBytes) :
    ∃ (a : Option Addr) (l : List It) (c : Nat), cs = [.slice a l.length c] ∧ ItsAt W a l ∧ (a = none → l.length = 0 ∧ c = 0) ∧ l.length ≤ 8796093021952 := by
  rcases open_slice Try.underlying56 h with ⟨hcs, _⟩ | ⟨ad, len, cap, m, n, D, Pl, hcs, _, hl, hm, hmm, hx, heach⟩
  · exact ⟨none, [], 0, hcs, .inl rfl, fun _ => ⟨rfl, rfl⟩, by decide⟩
  · simp only [if_true] at hmm
    subst hx
    rw [cellsAct] at heach
    have each : ∀ i, i < len → ∃ t : It, ∃ b off, ad = ⟨b, off, none⟩ ∧ W.cell? ⟨b, off + i * 2, none⟩ = some (.int .i64 t.1) ∧ W.cell? ⟨b, off + i * 2 + 1, none⟩ = some (.int .i64 t.2) := by
      intro i hi
      obtain ⟨cs', h1, h2⟩ := heach i (by omega)
      obtain ⟨_, hcl, hcell⟩ := World.cells?_some h1
      obtain ⟨xs, k, hk, hxy, _, hxl, hfs⟩ := DataW.trod_struct Try.underlying52 h2
      match xs, hxl, cs', hcl with
      | [y0, y1], _, [v0, v1], _ =>
        have g0 := hfs 0 _ rfl
        have g1 := hfs 1 _ rfl
        simp [cellsIntP] at g0 g1
        obtain ⟨s0, e0, _, w0⟩ := DataW.trod_int Try.underlying3 g0
        obtain ⟨z1, e1, _, w1⟩ := DataW.trod_int Try.underlying3 g1
        simp only [List.cons.injEq, and_true] at e0 e1
        subst e0 e1
        have c0 := hcell 0 (by omega)
        have c1 := hcell 1 (by omega)
        rw [Deep.add_add] at c0 c1
        obtain ⟨b, off, spot⟩ := ad
        have hs : spot = none := by
          obtain ⟨cs0, h10, _⟩ := heach 0 (by omega)
          obtain ⟨_, hcl0, hcell0⟩ := World.cells?_some h10
          have q0 := hcell0 0 (by omega)
          rw [List.getElem?_eq_getElem (by omega)] at q0
          simpa [Addr.add] using World.cell?_spot q0
        subst hs
        rw [add_plain] at c0 c1
        exact ⟨(s0, z1), b, off, rfl, by simpa using c0, by simpa [Nat.add_assoc] using c1⟩
    obtain ⟨S, hS⟩ := choose_lt (α := It) each
    have hg : ∀ i, i < len → ((List.range len).map S).getD i (0, 0) = S i := fun i hi => by simp [List.getD, hi]
    refine ⟨some ad, (List.range len).map S, cap, by simpa using hcs, ?_, fun h => (by cases h), ?_⟩
    · by_cases h0 : len = 0
      · subst h0; exact .inl (by simp)
      · obtain ⟨b, off, rfl, _⟩ := hS 0 (by omega)
        refine .inr ⟨b, off, rfl, fun i hi => ?_⟩
        have hi' : i < len := by simpa using hi
        obtain ⟨b', off', e, r1, r2⟩ := hS i hi'
        simp only [Addr.mk.injEq, and_true] at e
        obtain ⟨rfl, rfl⟩ := e
        rw [hg i hi']
        exact ⟨r1, r2⟩
    · have h5 := hw ((((List.range len).map D).length + ((List.range (m - len)).map fun j => D (len + j)).length) * 16) (by simp only [DataW.weights, Try.underlying56, bytesAct, List.mem_cons, true_or])
      simp only [List.length_map, List.length_range, reachBytes] at h5 ⊢
      omega

set_option maxRecDepth 100000 in
/-- Rows of actions that came in. -/
theorem open_rowsA (h : DataW.trod enc Try.prog W 0 (fun _ => true) true fuel 39 cs = some x) (hw : ∀ n ∈ x.1.weights Try.prog 39, n ≤ reachBytes) :
    ∃ (a : Option Addr) (N c : Nat) (R : Nat → List It) (ua : Nat → Option Addr) (uc : Nat → Nat), cs = [.slice a N c] ∧ RsAt W a N R ua uc ∧ (∀ i, i < N → ua i = none → (R i).length = 0 ∧ uc i = 0) ∧ N ≤ 5864062014634 ∧ ∀ i, i < N → (R i).length ≤ 8796093021952 := by
  rcases open_slice Try.underlying39 h with ⟨hcs, _⟩ | ⟨ad, len, cap, m, n, D, Pl, hcs, _, hl, hm, hmm, hx, heach⟩
  · exact ⟨none, 0, 0, fun _ => [], fun _ => none, fun _ => 0, hcs, ⟨.inl rfl, fun i hi => absurd hi (Nat.not_lt_zero _)⟩, fun i hi => absurd hi (Nat.not_lt_zero _), Nat.zero_le _, fun i hi => absurd hi (Nat.not_lt_zero _)⟩
  · simp only [if_true] at hmm
    subst hx
    rw [cellsActs] at heach
    have each : ∀ i, i < len → ∃ t : List It × Option Addr × Nat, ∃ b off, ad = ⟨b, off, none⟩ ∧ W.cell? ⟨b, off + i, none⟩ = some (.slice t.2.1 t.1.length t.2.2) ∧ ItsAt W t.2.1 t.1 ∧ (t.2.1 = none → t.1.length = 0 ∧ t.2.2 = 0) ∧ t.1.length ≤ 8796093021952 := by
      intro i hi
      obtain ⟨cs', h1, h2⟩ := heach i (by omega)
      obtain ⟨_, hcl, hcell⟩ := World.cells?_some h1
      have c0 := hcell 0 (by omega)
      rw [Deep.add_add] at c0
      obtain ⟨b, off, spot⟩ := ad
      have hs : spot = none := by
        obtain ⟨cs0, h10, _⟩ := heach 0 (by omega)
        obtain ⟨_, hcl0, hcell0⟩ := World.cells?_some h10
        have q0 := hcell0 0 (by omega)
        rw [List.getElem?_eq_getElem (by omega)] at q0
        simpa [Addr.add] using World.cell?_spot q0
      subst hs
      rw [add_plain] at c0
      match cs', hcl with
      | [v0], _ =>
        obtain ⟨a2, l2, c2, e2, hI, hn2, hb2⟩ := open_acts_in h2 (fun q hq => hw q (by
          simp only [DataW.weights, Try.underlying39, List.mem_cons, List.mem_append]
          exact .inr (.inl (weightsAllP (List.mem_map.2 ⟨i, List.mem_range.2 hi, rfl⟩) q hq))))
        simp only [List.cons.injEq, and_true] at e2
        subst e2
        exact ⟨(l2, a2, c2), b, off, rfl, by simpa using c0, hI, hn2, hb2⟩
    obtain ⟨S, hS⟩ := choose_lt (α := List It × Option Addr × Nat) each
    refine ⟨some ad, len, cap, fun i => (S i).1, fun i => (S i).2.1, fun i => (S i).2.2, hcs, ⟨?_, fun i hi => ?_⟩, fun i hi => ?_, ?_, fun i hi => ?_⟩
    · by_cases h0 : len = 0
      · exact .inl h0
      · obtain ⟨b, off, rfl, _⟩ := hS 0 (by omega)
        refine .inr ⟨b, off, rfl, fun i hi => ?_⟩
        obtain ⟨b', off', e, r1, _⟩ := hS i hi
        simp only [Addr.mk.injEq, and_true] at e
        obtain ⟨rfl, rfl⟩ := e
        exact r1
    · obtain ⟨_, _, _, _, r2, _⟩ := hS i hi
      exact r2
    · obtain ⟨_, _, _, _, _, r3, _⟩ := hS i hi
      exact r3
    · have h5 := hw ((((List.range len).map D).length + ((List.range (m - len)).map fun j => D (len + j)).length) * 24) (by simp only [DataW.weights, Try.underlying39, bytesActs, List.mem_cons, true_or])
      simp only [List.length_map, List.length_range, reachBytes] at h5
      omega
    · obtain ⟨_, _, _, _, _, _, r4⟩ := hS i hi
      exact r4

set_option maxRecDepth 100000 in
/-- Rows of numbers that came in. -/
theorem open_rowsI (h : DataW.trod enc Try.prog W 0 (fun _ => true) true fuel 40 cs = some x) (hw : ∀ n ∈ x.1.weights Try.prog 40, n ≤ reachBytes) :
    ∃ (a : Option Addr) (N c : Nat) (Q : Nat → List Int) (ua : Nat → Option Addr) (uc : Nat → Nat), cs = [.slice a N c] ∧ RiAt W a N Q ua uc ∧ (∀ i, i < N → ua i = none → (Q i).length = 0 ∧ uc i = 0) ∧ N ≤ 5864062014634 ∧ ∀ i, i < N → (Q i).length ≤ 17592186044416 := by
  rcases open_slice Try.underlying40 h with ⟨hcs, _⟩ | ⟨ad, len, cap, m, n, D, Pl, hcs, _, hl, hm, hmm, hx, heach⟩
  · exact ⟨none, 0, 0, fun _ => [], fun _ => none, fun _ => 0, hcs, ⟨.inl rfl, fun i hi => absurd hi (Nat.not_lt_zero _)⟩, fun i hi => absurd hi (Nat.not_lt_zero _), Nat.zero_le _, fun i hi => absurd hi (Nat.not_lt_zero _)⟩
  · simp only [if_true] at hmm
    subst hx
    rw [cellsIntsP] at heach
    have each : ∀ i, i < len → ∃ t : List Int × Option Addr × Nat, ∃ b off, ad = ⟨b, off, none⟩ ∧ W.cell? ⟨b, off + i, none⟩ = some (.slice t.2.1 t.1.length t.2.2) ∧ OpInts W t.2.1 t.1 t.2.2 := by
      intro i hi
      obtain ⟨cs', h1, h2⟩ := heach i (by omega)
      obtain ⟨_, hcl, hcell⟩ := World.cells?_some h1
      have c0 := hcell 0 (by omega)
      rw [Deep.add_add] at c0
      obtain ⟨b, off, spot⟩ := ad
      have hs : spot = none := by
        obtain ⟨cs0, h10, _⟩ := heach 0 (by omega)
        obtain ⟨_, hcl0, hcell0⟩ := World.cells?_some h10
        have q0 := hcell0 0 (by omega)
        rw [List.getElem?_eq_getElem (by omega)] at q0
        simpa [Addr.add] using World.cell?_spot q0
      subst hs
      rw [add_plain] at c0
      match cs', hcl with
      | [v0], _ =>
        obtain ⟨a2, l2, c2, e2, hI⟩ := open_intsP h2 (fun q hq => hw q (by
          simp only [DataW.weights, Try.underlying40, List.mem_cons, List.mem_append]
          exact .inr (.inl (weightsAllP (List.mem_map.2 ⟨i, List.mem_range.2 hi, rfl⟩) q hq))))
        simp only [List.cons.injEq, and_true] at e2
        subst e2
        exact ⟨(l2, a2, c2), b, off, rfl, by simpa using c0, hI⟩
    obtain ⟨S, hS⟩ := choose_lt (α := List Int × Option Addr × Nat) each
    refine ⟨some ad, len, cap, fun i => (S i).1, fun i => (S i).2.1, fun i => (S i).2.2, hcs, ⟨?_, fun i hi => ?_⟩, fun i hi => ?_, ?_, fun i hi => ?_⟩
    · by_cases h0 : len = 0
      · exact .inl h0
      · obtain ⟨b, off, rfl, _⟩ := hS 0 (by omega)
        refine .inr ⟨b, off, rfl, fun i hi => ?_⟩
        obtain ⟨b', off', e, r1, _⟩ := hS i hi
        simp only [Addr.mk.injEq, and_true] at e
        obtain ⟨rfl, rfl⟩ := e
        exact r1
    · obtain ⟨_, _, _, _, r2⟩ := hS i hi
      exact r2.1
    · obtain ⟨_, _, _, _, r3⟩ := hS i hi
      exact r3.2.2.2.1
    · have h5 := hw ((((List.range len).map D).length + ((List.range (m - len)).map fun j => D (len + j)).length) * 24) (by simp only [DataW.weights, Try.underlying40, bytesIntsP, List.mem_cons, true_or])
      simp only [List.length_map, List.length_range, reachBytes] at h5
      omega
    · obtain ⟨_, _, _, _, r4⟩ := hS i hi
      exact r4.2.1
end

set_option maxRecDepth 100000 in
/-- A table among the arguments. -/
theorem open_denseP {H : Type} {enc : TypeId × Value → H} {W : World} {base : Nat} {v : Value} {d : DataW H} {p : List MemPlace} (hv : Value.okWide Try.prog W .any base 42 v) (h : DataW.Trod enc Try.prog W 0 (fun _ => true) true 42 v d p) (hw : ∀ n ∈ d.weights Try.prog 42, n ≤ reachBytes) :
    ∃ (a : Option Addr) (N c : Nat) (R : Nat → List It) (la : Nat → Option Addr) (lc : Nat → Nat) (g : Option Addr) (M e : Nat) (Q : Nat → List Int) (lg : Nat → Option Addr) (ld : Nat → Nat), v = .agg #[.slice a N c, .slice g M e] ∧ (RsAt W a N R la lc ∧ (∀ i, i < N → la i = none → (R i).length = 0 ∧ lc i = 0) ∧ N ≤ 5864062014634 ∧ ∀ i, i < N → (R i).length ≤ 8796093021952) ∧ (RiAt W g M Q lg ld ∧ (∀ i, i < M → lg i = none → (Q i).length = 0 ∧ ld i = 0) ∧ M ≤ 5864062014634 ∧ ∀ i, i < M → (Q i).length ≤ 17592186044416) := by
  obtain ⟨cs, rfl, hsz⟩ := okWide_struct Try.underlying42 hv
  obtain ⟨fuel, hf⟩ := h
  obtain ⟨xs, k, hk, hxy, hcl, hxl, hfs⟩ := DataW.trod_struct Try.underlying42 hf
  rw [cellsDense] at hsz
  obtain ⟨l, rfl⟩ : ∃ l : List Value, cs = l.toArray := ⟨cs.toList, by simp⟩
  simp only [Value.cells] at hfs hcl
  have hl : l.length = 2 := by simpa using hsz
  match xs, hxl, l, hl with
  | [y0, y1], _, [v0, v1], _ =>
    have g0 := hfs 0 _ rfl
    have g1 := hfs 1 _ rfl
    simp [cellsRowsA, cellsRowsI] at g0 g1
    simp only [Prod.mk.injEq] at hxy
    have hwj : ∀ (j : Nat) (t : TypeId) (y : DataW H × List MemPlace), ((Try.prog.fieldsOf 42).toList.map (·.type))[j]? = some t → ([y0, y1].map (·.1))[j]? = some y.1 → ∀ n ∈ y.1.weights Try.prog t, n ≤ reachBytes := fun j t y h1 h2 q hq => hw q (by
      rw [hxy.1]
      simp only [DataW.weights, Try.underlying42]
      simp only [Program.fieldsOf, Try.underlying42] at h1
      exact DataW.weights_mem_each (j := j) (t := t) (d := y.1) h1 h2 q hq)
    have hw0 := hwj 0 39 y0 (by kernel_rfl) rfl
    have hw1 := hwj 1 40 y1 (by kernel_rfl) rfl
    obtain ⟨a, N, c, R, la, lc, e0, h0⟩ := open_rowsA g0 hw0
    obtain ⟨g, M, e, Q, lg, ld, e1, h1⟩ := open_rowsI g1 hw1
    simp only [List.cons.injEq, and_true] at e0 e1
    subst e0 e1
    exact ⟨a, N, c, R, la, lc, g, M, e, Q, lg, ld, rfl, h0, h1⟩

end Go.Proofs.Ytgmljpkenipgjaa.J
