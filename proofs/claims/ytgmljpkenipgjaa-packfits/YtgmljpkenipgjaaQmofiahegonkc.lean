import Derived.Test.YtgmljpkenipgjaaQljpnaojgimcl
import Derived.Test.YtgmljpkenipgjaaQolknbdgdjnlb
import Derived.Deep.DeepBigQuietO
import Derived.Deep.CutRange

/-
  pack: PackFits: who was laid earlier: a region as a declaration of its own (printed by tools/pk_r50.py).
-/
namespace Go.Proofs.Ytgmljpkenipgjaa.J
open Go.RowKit Go.Maps Go.Shelf Pk

attribute [local go_sem] Oper.semAt_some

noncomputable def plR50 : Code := ((Try.f8.body.map (regionsJ 50)).getD []).getD 0 .skip

end Go.Proofs.Ytgmljpkenipgjaa.J

/-
  pack: PackFits: who was laid earlier: a region as a declaration of its own (printed by tools/pk_r50.py).
-/
namespace Go.Proofs.Ytgmljpkenipgjaa.J
open Go.RowKit Go.Maps Go.Shelf Pk

attribute [local go_sem] Oper.semAt_some

set_option maxRecDepth 100000 in
set_option maxHeartbeats 8000000 in
theorem pl_r50A {K : Act → World → Prop} {V : World} {rb ro N c i o1 n lo : Nat} {a1 a2 : Option Addr} {c1 c2 : Nat}
    {v1 v2 v3 v4 v5 v6 v7 v8 v9 v10 v11 v12 v13 v14 v15 v16 v18 v19 v20 v21 v23 v24 v25 v26 v27 v28 v29 v30 v31 v32 v33 v34 v35 v36 v37 v38 v39 v40 v41 v42 v43 v44 v45 v46 v47 v48 v49 v50 v51 v52 v53 v54 v55 v56 v57 v58 v59 v60 v61 v62 v63 v64 v65 v66 v67 v68 v69 v70 v71 v72 v73 v74 v75 v76 v77 v78 v79 v80 v81 v82 v83 v84 v85 v86 v87 v88 v89 v90 v91 v92 v93 v94 v95 v96 v97 v98 v99 v100 v101 v102 v103 v104 v105 v106 v107 v108 v109 v110 v111 v112 v113 v114 v115 v116 v117 v118 v119 v120 v121 v122 v123 v124 v125 v126 v127 v128 v129 v130 v131 v132 v133 v134 v135 v136 v137 v138 v139 v140 v141 v142 v143 v144 v145 v146 v147 v148 v149 v150 v151 v152 v153 v154 v155 v156 v157 v158 v159 v160 v161 v162 v163 v164 v165 v166 v167 v168 v169 v170 v171 v172 v173 v174 v175 v176 v177 v178 v179 v180 v181 v182 v183 v184 v185 v186 v187 v188 v189 v190 v191 v192 v193 v194 v195 v196 v197 v198 v199 v200 v201 v202 v203 v204 v205 v206 v207 v208 v209 v210 v211 v212 v213 v214 v215 v216 v217 v218 v219 v220 v221 v222 v223 v224 v225 v226 v227 v228 v229 v230 v231 v232 v233 v234 v235 v236 v237 v238 v239 v240 v241 v242 v243 v244 v245 v246 v247 v248 v249 v250 v251 v252 v253 v254 v255 v256 v257 v258 v259 v260 v261 v262 v263 v264 v265 v266 v267 v268 v269 v270 v271 v272 v273 v274 v275 v276 v277 v278 v279 v280 v281 v282 v283 v284 v285 v286 v287 v288 : Value}
    (ho : o1 < N) (hi : i < N) (cr : V.cell? ⟨rb, ro + i, none⟩ = some (.slice a1 n c1)) (co : V.cell? ⟨rb, ro + o1, none⟩ = some (.slice a2 lo c2)) (g : n < lo)
    (hexit : ∀ (wz : World) (u246 u247 u248 u249 u250 u251 u252 u253 u254 u255 u256 u257 u258 u259 u260 u261 u262 u263 u264 u265 u266 u267 u268 u269 u270 u271 u272 u273 u274 u275 u276 u277 u278 u279 u280 : Value), V.grownBy wz none → K ⟨List.toArray (.slice (some ⟨rb, ro, none⟩) N c :: v1 :: v2 :: v3 :: v4 :: v5 :: v6 :: v7 :: v8 :: v9 :: v10 :: v11 :: v12 :: v13 :: v14 :: v15 :: v16 :: .int .i64 (i : Int) :: v18 :: .bool true :: v20 :: v21 :: .int .i64 (o1 : Int) :: v23 :: v24 :: v25 :: v26 :: v27 :: v28 :: v29 :: v30 :: v31 :: v32 :: v33 :: v34 :: v35 :: v36 :: v37 :: v38 :: v39 :: v40 :: v41 :: v42 :: v43 :: v44 :: v45 :: v46 :: v47 :: v48 :: v49 :: v50 :: v51 :: v52 :: v53 :: v54 :: v55 :: v56 :: v57 :: v58 :: v59 :: v60 :: v61 :: v62 :: v63 :: v64 :: v65 :: v66 :: v67 :: v68 :: v69 :: v70 :: v71 :: v72 :: v73 :: v74 :: v75 :: v76 :: v77 :: v78 :: v79 :: v80 :: v81 :: v82 :: v83 :: v84 :: v85 :: v86 :: v87 :: v88 :: v89 :: v90 :: v91 :: v92 :: v93 :: v94 :: v95 :: v96 :: v97 :: v98 :: v99 :: v100 :: v101 :: v102 :: v103 :: v104 :: v105 :: v106 :: v107 :: v108 :: v109 :: v110 :: v111 :: v112 :: v113 :: v114 :: v115 :: v116 :: v117 :: v118 :: v119 :: v120 :: v121 :: v122 :: v123 :: v124 :: v125 :: v126 :: v127 :: v128 :: v129 :: v130 :: v131 :: v132 :: v133 :: v134 :: v135 :: v136 :: v137 :: v138 :: v139 :: v140 :: v141 :: v142 :: v143 :: v144 :: v145 :: v146 :: v147 :: v148 :: v149 :: v150 :: v151 :: v152 :: v153 :: v154 :: v155 :: v156 :: v157 :: v158 :: v159 :: v160 :: v161 :: v162 :: v163 :: v164 :: v165 :: v166 :: v167 :: v168 :: v169 :: v170 :: v171 :: v172 :: v173 :: v174 :: v175 :: v176 :: v177 :: v178 :: v179 :: v180 :: v181 :: v182 :: v183 :: v184 :: v185 :: v186 :: v187 :: v188 :: v189 :: v190 :: v191 :: v192 :: v193 :: v194 :: v195 :: v196 :: v197 :: v198 :: v199 :: v200 :: v201 :: v202 :: v203 :: v204 :: v205 :: v206 :: v207 :: v208 :: v209 :: v210 :: v211 :: v212 :: v213 :: v214 :: v215 :: v216 :: v217 :: v218 :: v219 :: v220 :: v221 :: v222 :: v223 :: v224 :: v225 :: v226 :: v227 :: v228 :: v229 :: v230 :: v231 :: v232 :: v233 :: v234 :: v235 :: v236 :: v237 :: v238 :: v239 :: v240 :: v241 :: v242 :: v243 :: v244 :: v245 :: u246 :: u247 :: u248 :: u249 :: u250 :: u251 :: u252 :: u253 :: u254 :: u255 :: u256 :: u257 :: u258 :: u259 :: u260 :: u261 :: u262 :: u263 :: u264 :: u265 :: u266 :: u267 :: u268 :: u269 :: u270 :: u271 :: u272 :: u273 :: u274 :: u275 :: u276 :: u277 :: u278 :: u279 :: u280 :: v281 :: v282 :: v283 :: v284 :: v285 :: v286 :: v287 :: v288 :: []), []⟩ wz) :
    Code.wp Try.prog plR50 (OnEndJ K) ⟨List.toArray (.slice (some ⟨rb, ro, none⟩) N c :: v1 :: v2 :: v3 :: v4 :: v5 :: v6 :: v7 :: v8 :: v9 :: v10 :: v11 :: v12 :: v13 :: v14 :: v15 :: v16 :: .int .i64 (i : Int) :: v18 :: v19 :: v20 :: v21 :: .int .i64 (o1 : Int) :: v23 :: v24 :: v25 :: v26 :: v27 :: v28 :: v29 :: v30 :: v31 :: v32 :: v33 :: v34 :: v35 :: v36 :: v37 :: v38 :: v39 :: v40 :: v41 :: v42 :: v43 :: v44 :: v45 :: v46 :: v47 :: v48 :: v49 :: v50 :: v51 :: v52 :: v53 :: v54 :: v55 :: v56 :: v57 :: v58 :: v59 :: v60 :: v61 :: v62 :: v63 :: v64 :: v65 :: v66 :: v67 :: v68 :: v69 :: v70 :: v71 :: v72 :: v73 :: v74 :: v75 :: v76 :: v77 :: v78 :: v79 :: v80 :: v81 :: v82 :: v83 :: v84 :: v85 :: v86 :: v87 :: v88 :: v89 :: v90 :: v91 :: v92 :: v93 :: v94 :: v95 :: v96 :: v97 :: v98 :: v99 :: v100 :: v101 :: v102 :: v103 :: v104 :: v105 :: v106 :: v107 :: v108 :: v109 :: v110 :: v111 :: v112 :: v113 :: v114 :: v115 :: v116 :: v117 :: v118 :: v119 :: v120 :: v121 :: v122 :: v123 :: v124 :: v125 :: v126 :: v127 :: v128 :: v129 :: v130 :: v131 :: v132 :: v133 :: v134 :: v135 :: v136 :: v137 :: v138 :: v139 :: v140 :: v141 :: v142 :: v143 :: v144 :: v145 :: v146 :: v147 :: v148 :: v149 :: v150 :: v151 :: v152 :: v153 :: v154 :: v155 :: v156 :: v157 :: v158 :: v159 :: v160 :: v161 :: v162 :: v163 :: v164 :: v165 :: v166 :: v167 :: v168 :: v169 :: v170 :: v171 :: v172 :: v173 :: v174 :: v175 :: v176 :: v177 :: v178 :: v179 :: v180 :: v181 :: v182 :: v183 :: v184 :: v185 :: v186 :: v187 :: v188 :: v189 :: v190 :: v191 :: v192 :: v193 :: v194 :: v195 :: v196 :: v197 :: v198 :: v199 :: v200 :: v201 :: v202 :: v203 :: v204 :: v205 :: v206 :: v207 :: v208 :: v209 :: v210 :: v211 :: v212 :: v213 :: v214 :: v215 :: v216 :: v217 :: v218 :: v219 :: v220 :: v221 :: v222 :: v223 :: v224 :: v225 :: v226 :: v227 :: v228 :: v229 :: v230 :: v231 :: v232 :: v233 :: v234 :: v235 :: v236 :: v237 :: v238 :: v239 :: v240 :: v241 :: v242 :: v243 :: v244 :: v245 :: v246 :: v247 :: v248 :: v249 :: v250 :: v251 :: v252 :: v253 :: v254 :: v255 :: v256 :: v257 :: v258 :: v259 :: v260 :: v261 :: v262 :: v263 :: v264 :: v265 :: v266 :: v267 :: v268 :: v269 :: v270 :: v271 :: v272 :: v273 :: v274 :: v275 :: v276 :: v277 :: v278 :: v279 :: v280 :: v281 :: v282 :: v283 :: v284 :: v285 :: v286 :: v287 :: v288 :: []), []⟩ V := by
  have mixed : Try.prog.follows .mixedOrders = true := by kernel_rfl
  have HEX := hidP hexit
  have ho0 : (0 : Int) ≤ (o1 : Int) := by omega
  have ho1 : (o1 : Int) < (N : Int) := by omega
  have hi0 : (0 : Int) ≤ (i : Int) := by omega
  have hi1 : (i : Int) < (N : Int) := by omega
  have hN1 : decide ((o1 : Int) < (N : Int)) = true := decide_eq_true ho1
  have hN2 : decide (o1 < N) = true := decide_eq_true ho
  have d1 : decide (n < lo) = true := decide_eq_true g
  have d1' : decide ((n : Int) < (lo : Int)) = true := decide_eq_true (by omega)
  clear hexit g ho hi
  conv => arg 2; whnf
  go_big_quiet_o (fail)
  all_goals exact HEX.out _ _ _ _ _ _ _ _ _ _ _ _ _ _ _ _ _ _ _ _ _ _ _ _ _ _ _ _ _ _ _ _ _ _ _ _ (grown_drewN _ _)

end Go.Proofs.Ytgmljpkenipgjaa.J

/-
  pack: PackFits: who was laid earlier: a region as a declaration of its own (printed by tools/pk_r50.py).
-/
namespace Go.Proofs.Ytgmljpkenipgjaa.J
open Go.RowKit Go.Maps Go.Shelf Pk

attribute [local go_sem] Oper.semAt_some

set_option maxRecDepth 100000 in
set_option maxHeartbeats 8000000 in
theorem pl_r50B {K : Act → World → Prop} {V : World} {rb ro N c i o1 n lo : Nat} {a1 a2 : Option Addr} {c1 c2 : Nat}
    {v1 v2 v3 v4 v5 v6 v7 v8 v9 v10 v11 v12 v13 v14 v15 v16 v18 v19 v20 v21 v23 v24 v25 v26 v27 v28 v29 v30 v31 v32 v33 v34 v35 v36 v37 v38 v39 v40 v41 v42 v43 v44 v45 v46 v47 v48 v49 v50 v51 v52 v53 v54 v55 v56 v57 v58 v59 v60 v61 v62 v63 v64 v65 v66 v67 v68 v69 v70 v71 v72 v73 v74 v75 v76 v77 v78 v79 v80 v81 v82 v83 v84 v85 v86 v87 v88 v89 v90 v91 v92 v93 v94 v95 v96 v97 v98 v99 v100 v101 v102 v103 v104 v105 v106 v107 v108 v109 v110 v111 v112 v113 v114 v115 v116 v117 v118 v119 v120 v121 v122 v123 v124 v125 v126 v127 v128 v129 v130 v131 v132 v133 v134 v135 v136 v137 v138 v139 v140 v141 v142 v143 v144 v145 v146 v147 v148 v149 v150 v151 v152 v153 v154 v155 v156 v157 v158 v159 v160 v161 v162 v163 v164 v165 v166 v167 v168 v169 v170 v171 v172 v173 v174 v175 v176 v177 v178 v179 v180 v181 v182 v183 v184 v185 v186 v187 v188 v189 v190 v191 v192 v193 v194 v195 v196 v197 v198 v199 v200 v201 v202 v203 v204 v205 v206 v207 v208 v209 v210 v211 v212 v213 v214 v215 v216 v217 v218 v219 v220 v221 v222 v223 v224 v225 v226 v227 v228 v229 v230 v231 v232 v233 v234 v235 v236 v237 v238 v239 v240 v241 v242 v243 v244 v245 v246 v247 v248 v249 v250 v251 v252 v253 v254 v255 v256 v257 v258 v259 v260 v261 v262 v263 v264 v265 v266 v267 v268 v269 v270 v271 v272 v273 v274 v275 v276 v277 v278 v279 v280 v281 v282 v283 v284 v285 v286 v287 v288 : Value}
    (ho : o1 < N) (hi : i < N) (cr : V.cell? ⟨rb, ro + i, none⟩ = some (.slice a1 n c1)) (co : V.cell? ⟨rb, ro + o1, none⟩ = some (.slice a2 lo c2)) (g1 : ¬ n < lo) (g2 : lo = n) (g3 : o1 < i)
    (hexit : ∀ (wz : World) (u246 u247 u248 u249 u250 u251 u252 u253 u254 u255 u256 u257 u258 u259 u260 u261 u262 u263 u264 u265 u266 u267 u268 u269 u270 u271 u272 u273 u274 u275 u276 u277 u278 u279 u280 : Value), V.grownBy wz none → K ⟨List.toArray (.slice (some ⟨rb, ro, none⟩) N c :: v1 :: v2 :: v3 :: v4 :: v5 :: v6 :: v7 :: v8 :: v9 :: v10 :: v11 :: v12 :: v13 :: v14 :: v15 :: v16 :: .int .i64 (i : Int) :: v18 :: .bool true :: v20 :: v21 :: .int .i64 (o1 : Int) :: v23 :: v24 :: v25 :: v26 :: v27 :: v28 :: v29 :: v30 :: v31 :: v32 :: v33 :: v34 :: v35 :: v36 :: v37 :: v38 :: v39 :: v40 :: v41 :: v42 :: v43 :: v44 :: v45 :: v46 :: v47 :: v48 :: v49 :: v50 :: v51 :: v52 :: v53 :: v54 :: v55 :: v56 :: v57 :: v58 :: v59 :: v60 :: v61 :: v62 :: v63 :: v64 :: v65 :: v66 :: v67 :: v68 :: v69 :: v70 :: v71 :: v72 :: v73 :: v74 :: v75 :: v76 :: v77 :: v78 :: v79 :: v80 :: v81 :: v82 :: v83 :: v84 :: v85 :: v86 :: v87 :: v88 :: v89 :: v90 :: v91 :: v92 :: v93 :: v94 :: v95 :: v96 :: v97 :: v98 :: v99 :: v100 :: v101 :: v102 :: v103 :: v104 :: v105 :: v106 :: v107 :: v108 :: v109 :: v110 :: v111 :: v112 :: v113 :: v114 :: v115 :: v116 :: v117 :: v118 :: v119 :: v120 :: v121 :: v122 :: v123 :: v124 :: v125 :: v126 :: v127 :: v128 :: v129 :: v130 :: v131 :: v132 :: v133 :: v134 :: v135 :: v136 :: v137 :: v138 :: v139 :: v140 :: v141 :: v142 :: v143 :: v144 :: v145 :: v146 :: v147 :: v148 :: v149 :: v150 :: v151 :: v152 :: v153 :: v154 :: v155 :: v156 :: v157 :: v158 :: v159 :: v160 :: v161 :: v162 :: v163 :: v164 :: v165 :: v166 :: v167 :: v168 :: v169 :: v170 :: v171 :: v172 :: v173 :: v174 :: v175 :: v176 :: v177 :: v178 :: v179 :: v180 :: v181 :: v182 :: v183 :: v184 :: v185 :: v186 :: v187 :: v188 :: v189 :: v190 :: v191 :: v192 :: v193 :: v194 :: v195 :: v196 :: v197 :: v198 :: v199 :: v200 :: v201 :: v202 :: v203 :: v204 :: v205 :: v206 :: v207 :: v208 :: v209 :: v210 :: v211 :: v212 :: v213 :: v214 :: v215 :: v216 :: v217 :: v218 :: v219 :: v220 :: v221 :: v222 :: v223 :: v224 :: v225 :: v226 :: v227 :: v228 :: v229 :: v230 :: v231 :: v232 :: v233 :: v234 :: v235 :: v236 :: v237 :: v238 :: v239 :: v240 :: v241 :: v242 :: v243 :: v244 :: v245 :: u246 :: u247 :: u248 :: u249 :: u250 :: u251 :: u252 :: u253 :: u254 :: u255 :: u256 :: u257 :: u258 :: u259 :: u260 :: u261 :: u262 :: u263 :: u264 :: u265 :: u266 :: u267 :: u268 :: u269 :: u270 :: u271 :: u272 :: u273 :: u274 :: u275 :: u276 :: u277 :: u278 :: u279 :: u280 :: v281 :: v282 :: v283 :: v284 :: v285 :: v286 :: v287 :: v288 :: []), []⟩ wz) :
    Code.wp Try.prog plR50 (OnEndJ K) ⟨List.toArray (.slice (some ⟨rb, ro, none⟩) N c :: v1 :: v2 :: v3 :: v4 :: v5 :: v6 :: v7 :: v8 :: v9 :: v10 :: v11 :: v12 :: v13 :: v14 :: v15 :: v16 :: .int .i64 (i : Int) :: v18 :: v19 :: v20 :: v21 :: .int .i64 (o1 : Int) :: v23 :: v24 :: v25 :: v26 :: v27 :: v28 :: v29 :: v30 :: v31 :: v32 :: v33 :: v34 :: v35 :: v36 :: v37 :: v38 :: v39 :: v40 :: v41 :: v42 :: v43 :: v44 :: v45 :: v46 :: v47 :: v48 :: v49 :: v50 :: v51 :: v52 :: v53 :: v54 :: v55 :: v56 :: v57 :: v58 :: v59 :: v60 :: v61 :: v62 :: v63 :: v64 :: v65 :: v66 :: v67 :: v68 :: v69 :: v70 :: v71 :: v72 :: v73 :: v74 :: v75 :: v76 :: v77 :: v78 :: v79 :: v80 :: v81 :: v82 :: v83 :: v84 :: v85 :: v86 :: v87 :: v88 :: v89 :: v90 :: v91 :: v92 :: v93 :: v94 :: v95 :: v96 :: v97 :: v98 :: v99 :: v100 :: v101 :: v102 :: v103 :: v104 :: v105 :: v106 :: v107 :: v108 :: v109 :: v110 :: v111 :: v112 :: v113 :: v114 :: v115 :: v116 :: v117 :: v118 :: v119 :: v120 :: v121 :: v122 :: v123 :: v124 :: v125 :: v126 :: v127 :: v128 :: v129 :: v130 :: v131 :: v132 :: v133 :: v134 :: v135 :: v136 :: v137 :: v138 :: v139 :: v140 :: v141 :: v142 :: v143 :: v144 :: v145 :: v146 :: v147 :: v148 :: v149 :: v150 :: v151 :: v152 :: v153 :: v154 :: v155 :: v156 :: v157 :: v158 :: v159 :: v160 :: v161 :: v162 :: v163 :: v164 :: v165 :: v166 :: v167 :: v168 :: v169 :: v170 :: v171 :: v172 :: v173 :: v174 :: v175 :: v176 :: v177 :: v178 :: v179 :: v180 :: v181 :: v182 :: v183 :: v184 :: v185 :: v186 :: v187 :: v188 :: v189 :: v190 :: v191 :: v192 :: v193 :: v194 :: v195 :: v196 :: v197 :: v198 :: v199 :: v200 :: v201 :: v202 :: v203 :: v204 :: v205 :: v206 :: v207 :: v208 :: v209 :: v210 :: v211 :: v212 :: v213 :: v214 :: v215 :: v216 :: v217 :: v218 :: v219 :: v220 :: v221 :: v222 :: v223 :: v224 :: v225 :: v226 :: v227 :: v228 :: v229 :: v230 :: v231 :: v232 :: v233 :: v234 :: v235 :: v236 :: v237 :: v238 :: v239 :: v240 :: v241 :: v242 :: v243 :: v244 :: v245 :: v246 :: v247 :: v248 :: v249 :: v250 :: v251 :: v252 :: v253 :: v254 :: v255 :: v256 :: v257 :: v258 :: v259 :: v260 :: v261 :: v262 :: v263 :: v264 :: v265 :: v266 :: v267 :: v268 :: v269 :: v270 :: v271 :: v272 :: v273 :: v274 :: v275 :: v276 :: v277 :: v278 :: v279 :: v280 :: v281 :: v282 :: v283 :: v284 :: v285 :: v286 :: v287 :: v288 :: []), []⟩ V := by
  have mixed : Try.prog.follows .mixedOrders = true := by kernel_rfl
  have HEX := hidP hexit
  have ho0 : (0 : Int) ≤ (o1 : Int) := by omega
  have ho1 : (o1 : Int) < (N : Int) := by omega
  have hi0 : (0 : Int) ≤ (i : Int) := by omega
  have hi1 : (i : Int) < (N : Int) := by omega
  have hN1 : decide ((o1 : Int) < (N : Int)) = true := decide_eq_true ho1
  have hN2 : decide (o1 < N) = true := decide_eq_true ho
  have d1 : decide (n < lo) = false := decide_eq_false g1
  have d1' : decide ((n : Int) < (lo : Int)) = false := decide_eq_false (by omega)
  have d2 : (lo == n) = true := by rw [g2]; exact beq_self_eq_true _
  have d2' : ((lo : Int) == (n : Int)) = true := by rw [g2]; exact beq_self_eq_true _
  have d3 : decide (o1 < i) = true := decide_eq_true g3
  have d3' : decide ((o1 : Int) < (i : Int)) = true := decide_eq_true (by omega)
  clear hexit g1 g2 g3 ho hi
  conv => arg 2; whnf
  go_big_quiet_o (fail)
  all_goals exact HEX.out _ _ _ _ _ _ _ _ _ _ _ _ _ _ _ _ _ _ _ _ _ _ _ _ _ _ _ _ _ _ _ _ _ _ _ _ (grown_drewN _ _)

end Go.Proofs.Ytgmljpkenipgjaa.J

/-
  pack: PackFits: who was laid earlier: a region as a declaration of its own (printed by tools/pk_r50.py).
-/
namespace Go.Proofs.Ytgmljpkenipgjaa.J
open Go.RowKit Go.Maps Go.Shelf Pk

attribute [local go_sem] Oper.semAt_some

set_option maxRecDepth 100000 in
set_option maxHeartbeats 8000000 in
theorem pl_r50C {K : Act → World → Prop} {V : World} {rb ro N c i o1 n lo : Nat} {a1 a2 : Option Addr} {c1 c2 : Nat}
    {v1 v2 v3 v4 v5 v6 v7 v8 v9 v10 v11 v12 v13 v14 v15 v16 v18 v19 v20 v21 v23 v24 v25 v26 v27 v28 v29 v30 v31 v32 v33 v34 v35 v36 v37 v38 v39 v40 v41 v42 v43 v44 v45 v46 v47 v48 v49 v50 v51 v52 v53 v54 v55 v56 v57 v58 v59 v60 v61 v62 v63 v64 v65 v66 v67 v68 v69 v70 v71 v72 v73 v74 v75 v76 v77 v78 v79 v80 v81 v82 v83 v84 v85 v86 v87 v88 v89 v90 v91 v92 v93 v94 v95 v96 v97 v98 v99 v100 v101 v102 v103 v104 v105 v106 v107 v108 v109 v110 v111 v112 v113 v114 v115 v116 v117 v118 v119 v120 v121 v122 v123 v124 v125 v126 v127 v128 v129 v130 v131 v132 v133 v134 v135 v136 v137 v138 v139 v140 v141 v142 v143 v144 v145 v146 v147 v148 v149 v150 v151 v152 v153 v154 v155 v156 v157 v158 v159 v160 v161 v162 v163 v164 v165 v166 v167 v168 v169 v170 v171 v172 v173 v174 v175 v176 v177 v178 v179 v180 v181 v182 v183 v184 v185 v186 v187 v188 v189 v190 v191 v192 v193 v194 v195 v196 v197 v198 v199 v200 v201 v202 v203 v204 v205 v206 v207 v208 v209 v210 v211 v212 v213 v214 v215 v216 v217 v218 v219 v220 v221 v222 v223 v224 v225 v226 v227 v228 v229 v230 v231 v232 v233 v234 v235 v236 v237 v238 v239 v240 v241 v242 v243 v244 v245 v246 v247 v248 v249 v250 v251 v252 v253 v254 v255 v256 v257 v258 v259 v260 v261 v262 v263 v264 v265 v266 v267 v268 v269 v270 v271 v272 v273 v274 v275 v276 v277 v278 v279 v280 v281 v282 v283 v284 v285 v286 v287 v288 : Value}
    (ho : o1 < N) (hi : i < N) (cr : V.cell? ⟨rb, ro + i, none⟩ = some (.slice a1 n c1)) (co : V.cell? ⟨rb, ro + o1, none⟩ = some (.slice a2 lo c2)) (g1 : ¬ n < lo) (g2 : lo = n) (g3 : ¬ o1 < i)
    (hexit : ∀ (wz : World) (u246 u247 u248 u249 u250 u251 u252 u253 u254 u255 u256 u257 u258 u259 u260 u261 u262 u263 u264 u265 u266 u267 u268 u269 u270 u271 u272 u273 u274 u275 u276 u277 u278 u279 u280 : Value), V.grownBy wz none → K ⟨List.toArray (.slice (some ⟨rb, ro, none⟩) N c :: v1 :: v2 :: v3 :: v4 :: v5 :: v6 :: v7 :: v8 :: v9 :: v10 :: v11 :: v12 :: v13 :: v14 :: v15 :: v16 :: .int .i64 (i : Int) :: v18 :: .bool false :: v20 :: v21 :: .int .i64 (o1 : Int) :: v23 :: v24 :: v25 :: v26 :: v27 :: v28 :: v29 :: v30 :: v31 :: v32 :: v33 :: v34 :: v35 :: v36 :: v37 :: v38 :: v39 :: v40 :: v41 :: v42 :: v43 :: v44 :: v45 :: v46 :: v47 :: v48 :: v49 :: v50 :: v51 :: v52 :: v53 :: v54 :: v55 :: v56 :: v57 :: v58 :: v59 :: v60 :: v61 :: v62 :: v63 :: v64 :: v65 :: v66 :: v67 :: v68 :: v69 :: v70 :: v71 :: v72 :: v73 :: v74 :: v75 :: v76 :: v77 :: v78 :: v79 :: v80 :: v81 :: v82 :: v83 :: v84 :: v85 :: v86 :: v87 :: v88 :: v89 :: v90 :: v91 :: v92 :: v93 :: v94 :: v95 :: v96 :: v97 :: v98 :: v99 :: v100 :: v101 :: v102 :: v103 :: v104 :: v105 :: v106 :: v107 :: v108 :: v109 :: v110 :: v111 :: v112 :: v113 :: v114 :: v115 :: v116 :: v117 :: v118 :: v119 :: v120 :: v121 :: v122 :: v123 :: v124 :: v125 :: v126 :: v127 :: v128 :: v129 :: v130 :: v131 :: v132 :: v133 :: v134 :: v135 :: v136 :: v137 :: v138 :: v139 :: v140 :: v141 :: v142 :: v143 :: v144 :: v145 :: v146 :: v147 :: v148 :: v149 :: v150 :: v151 :: v152 :: v153 :: v154 :: v155 :: v156 :: v157 :: v158 :: v159 :: v160 :: v161 :: v162 :: v163 :: v164 :: v165 :: v166 :: v167 :: v168 :: v169 :: v170 :: v171 :: v172 :: v173 :: v174 :: v175 :: v176 :: v177 :: v178 :: v179 :: v180 :: v181 :: v182 :: v183 :: v184 :: v185 :: v186 :: v187 :: v188 :: v189 :: v190 :: v191 :: v192 :: v193 :: v194 :: v195 :: v196 :: v197 :: v198 :: v199 :: v200 :: v201 :: v202 :: v203 :: v204 :: v205 :: v206 :: v207 :: v208 :: v209 :: v210 :: v211 :: v212 :: v213 :: v214 :: v215 :: v216 :: v217 :: v218 :: v219 :: v220 :: v221 :: v222 :: v223 :: v224 :: v225 :: v226 :: v227 :: v228 :: v229 :: v230 :: v231 :: v232 :: v233 :: v234 :: v235 :: v236 :: v237 :: v238 :: v239 :: v240 :: v241 :: v242 :: v243 :: v244 :: v245 :: u246 :: u247 :: u248 :: u249 :: u250 :: u251 :: u252 :: u253 :: u254 :: u255 :: u256 :: u257 :: u258 :: u259 :: u260 :: u261 :: u262 :: u263 :: u264 :: u265 :: u266 :: u267 :: u268 :: u269 :: u270 :: u271 :: u272 :: u273 :: u274 :: u275 :: u276 :: u277 :: u278 :: u279 :: u280 :: v281 :: v282 :: v283 :: v284 :: v285 :: v286 :: v287 :: v288 :: []), []⟩ wz) :
    Code.wp Try.prog plR50 (OnEndJ K) ⟨List.toArray (.slice (some ⟨rb, ro, none⟩) N c :: v1 :: v2 :: v3 :: v4 :: v5 :: v6 :: v7 :: v8 :: v9 :: v10 :: v11 :: v12 :: v13 :: v14 :: v15 :: v16 :: .int .i64 (i : Int) :: v18 :: v19 :: v20 :: v21 :: .int .i64 (o1 : Int) :: v23 :: v24 :: v25 :: v26 :: v27 :: v28 :: v29 :: v30 :: v31 :: v32 :: v33 :: v34 :: v35 :: v36 :: v37 :: v38 :: v39 :: v40 :: v41 :: v42 :: v43 :: v44 :: v45 :: v46 :: v47 :: v48 :: v49 :: v50 :: v51 :: v52 :: v53 :: v54 :: v55 :: v56 :: v57 :: v58 :: v59 :: v60 :: v61 :: v62 :: v63 :: v64 :: v65 :: v66 :: v67 :: v68 :: v69 :: v70 :: v71 :: v72 :: v73 :: v74 :: v75 :: v76 :: v77 :: v78 :: v79 :: v80 :: v81 :: v82 :: v83 :: v84 :: v85 :: v86 :: v87 :: v88 :: v89 :: v90 :: v91 :: v92 :: v93 :: v94 :: v95 :: v96 :: v97 :: v98 :: v99 :: v100 :: v101 :: v102 :: v103 :: v104 :: v105 :: v106 :: v107 :: v108 :: v109 :: v110 :: v111 :: v112 :: v113 :: v114 :: v115 :: v116 :: v117 :: v118 :: v119 :: v120 :: v121 :: v122 :: v123 :: v124 :: v125 :: v126 :: v127 :: v128 :: v129 :: v130 :: v131 :: v132 :: v133 :: v134 :: v135 :: v136 :: v137 :: v138 :: v139 :: v140 :: v141 :: v142 :: v143 :: v144 :: v145 :: v146 :: v147 :: v148 :: v149 :: v150 :: v151 :: v152 :: v153 :: v154 :: v155 :: v156 :: v157 :: v158 :: v159 :: v160 :: v161 :: v162 :: v163 :: v164 :: v165 :: v166 :: v167 :: v168 :: v169 :: v170 :: v171 :: v172 :: v173 :: v174 :: v175 :: v176 :: v177 :: v178 :: v179 :: v180 :: v181 :: v182 :: v183 :: v184 :: v185 :: v186 :: v187 :: v188 :: v189 :: v190 :: v191 :: v192 :: v193 :: v194 :: v195 :: v196 :: v197 :: v198 :: v199 :: v200 :: v201 :: v202 :: v203 :: v204 :: v205 :: v206 :: v207 :: v208 :: v209 :: v210 :: v211 :: v212 :: v213 :: v214 :: v215 :: v216 :: v217 :: v218 :: v219 :: v220 :: v221 :: v222 :: v223 :: v224 :: v225 :: v226 :: v227 :: v228 :: v229 :: v230 :: v231 :: v232 :: v233 :: v234 :: v235 :: v236 :: v237 :: v238 :: v239 :: v240 :: v241 :: v242 :: v243 :: v244 :: v245 :: v246 :: v247 :: v248 :: v249 :: v250 :: v251 :: v252 :: v253 :: v254 :: v255 :: v256 :: v257 :: v258 :: v259 :: v260 :: v261 :: v262 :: v263 :: v264 :: v265 :: v266 :: v267 :: v268 :: v269 :: v270 :: v271 :: v272 :: v273 :: v274 :: v275 :: v276 :: v277 :: v278 :: v279 :: v280 :: v281 :: v282 :: v283 :: v284 :: v285 :: v286 :: v287 :: v288 :: []), []⟩ V := by
  have mixed : Try.prog.follows .mixedOrders = true := by kernel_rfl
  have HEX := hidP hexit
  have ho0 : (0 : Int) ≤ (o1 : Int) := by omega
  have ho1 : (o1 : Int) < (N : Int) := by omega
  have hi0 : (0 : Int) ≤ (i : Int) := by omega
  have hi1 : (i : Int) < (N : Int) := by omega
  have hN1 : decide ((o1 : Int) < (N : Int)) = true := decide_eq_true ho1
  have hN2 : decide (o1 < N) = true := decide_eq_true ho
  have d1 : decide (n < lo) = false := decide_eq_false g1
  have d1' : decide ((n : Int) < (lo : Int)) = false := decide_eq_false (by omega)
  have d2 : (lo == n) = true := by rw [g2]; exact beq_self_eq_true _
  have d2' : ((lo : Int) == (n : Int)) = true := by rw [g2]; exact beq_self_eq_true _
  have d3 : decide (o1 < i) = false := decide_eq_false g3
  have d3' : decide ((o1 : Int) < (i : Int)) = false := decide_eq_false (by omega)
  clear hexit g1 g2 g3 ho hi
  conv => arg 2; whnf
  go_big_quiet_o (fail)
  all_goals exact HEX.out _ _ _ _ _ _ _ _ _ _ _ _ _ _ _ _ _ _ _ _ _ _ _ _ _ _ _ _ _ _ _ _ _ _ _ _ (grown_drewN _ _)

end Go.Proofs.Ytgmljpkenipgjaa.J

/-
  pack: PackFits: who was laid earlier: a region as a declaration of its own (printed by tools/pk_r50.py).
-/
namespace Go.Proofs.Ytgmljpkenipgjaa.J
open Go.RowKit Go.Maps Go.Shelf Pk

attribute [local go_sem] Oper.semAt_some

set_option maxRecDepth 100000 in
set_option maxHeartbeats 8000000 in
theorem pl_r50D {K : Act → World → Prop} {V : World} {rb ro N c i o1 n lo : Nat} {a1 a2 : Option Addr} {c1 c2 : Nat}
    {v1 v2 v3 v4 v5 v6 v7 v8 v9 v10 v11 v12 v13 v14 v15 v16 v18 v19 v20 v21 v23 v24 v25 v26 v27 v28 v29 v30 v31 v32 v33 v34 v35 v36 v37 v38 v39 v40 v41 v42 v43 v44 v45 v46 v47 v48 v49 v50 v51 v52 v53 v54 v55 v56 v57 v58 v59 v60 v61 v62 v63 v64 v65 v66 v67 v68 v69 v70 v71 v72 v73 v74 v75 v76 v77 v78 v79 v80 v81 v82 v83 v84 v85 v86 v87 v88 v89 v90 v91 v92 v93 v94 v95 v96 v97 v98 v99 v100 v101 v102 v103 v104 v105 v106 v107 v108 v109 v110 v111 v112 v113 v114 v115 v116 v117 v118 v119 v120 v121 v122 v123 v124 v125 v126 v127 v128 v129 v130 v131 v132 v133 v134 v135 v136 v137 v138 v139 v140 v141 v142 v143 v144 v145 v146 v147 v148 v149 v150 v151 v152 v153 v154 v155 v156 v157 v158 v159 v160 v161 v162 v163 v164 v165 v166 v167 v168 v169 v170 v171 v172 v173 v174 v175 v176 v177 v178 v179 v180 v181 v182 v183 v184 v185 v186 v187 v188 v189 v190 v191 v192 v193 v194 v195 v196 v197 v198 v199 v200 v201 v202 v203 v204 v205 v206 v207 v208 v209 v210 v211 v212 v213 v214 v215 v216 v217 v218 v219 v220 v221 v222 v223 v224 v225 v226 v227 v228 v229 v230 v231 v232 v233 v234 v235 v236 v237 v238 v239 v240 v241 v242 v243 v244 v245 v246 v247 v248 v249 v250 v251 v252 v253 v254 v255 v256 v257 v258 v259 v260 v261 v262 v263 v264 v265 v266 v267 v268 v269 v270 v271 v272 v273 v274 v275 v276 v277 v278 v279 v280 v281 v282 v283 v284 v285 v286 v287 v288 : Value}
    (ho : o1 < N) (hi : i < N) (cr : V.cell? ⟨rb, ro + i, none⟩ = some (.slice a1 n c1)) (co : V.cell? ⟨rb, ro + o1, none⟩ = some (.slice a2 lo c2)) (g1 : ¬ n < lo) (g2 : ¬ lo = n)
    (hexit : ∀ (wz : World) (u246 u247 u248 u249 u250 u251 u252 u253 u254 u255 u256 u257 u258 u259 u260 u261 u262 u263 u264 u265 u266 u267 u268 u269 u270 u271 u272 u273 u274 u275 u276 u277 u278 u279 u280 : Value), V.grownBy wz none → K ⟨List.toArray (.slice (some ⟨rb, ro, none⟩) N c :: v1 :: v2 :: v3 :: v4 :: v5 :: v6 :: v7 :: v8 :: v9 :: v10 :: v11 :: v12 :: v13 :: v14 :: v15 :: v16 :: .int .i64 (i : Int) :: v18 :: .bool false :: v20 :: v21 :: .int .i64 (o1 : Int) :: v23 :: v24 :: v25 :: v26 :: v27 :: v28 :: v29 :: v30 :: v31 :: v32 :: v33 :: v34 :: v35 :: v36 :: v37 :: v38 :: v39 :: v40 :: v41 :: v42 :: v43 :: v44 :: v45 :: v46 :: v47 :: v48 :: v49 :: v50 :: v51 :: v52 :: v53 :: v54 :: v55 :: v56 :: v57 :: v58 :: v59 :: v60 :: v61 :: v62 :: v63 :: v64 :: v65 :: v66 :: v67 :: v68 :: v69 :: v70 :: v71 :: v72 :: v73 :: v74 :: v75 :: v76 :: v77 :: v78 :: v79 :: v80 :: v81 :: v82 :: v83 :: v84 :: v85 :: v86 :: v87 :: v88 :: v89 :: v90 :: v91 :: v92 :: v93 :: v94 :: v95 :: v96 :: v97 :: v98 :: v99 :: v100 :: v101 :: v102 :: v103 :: v104 :: v105 :: v106 :: v107 :: v108 :: v109 :: v110 :: v111 :: v112 :: v113 :: v114 :: v115 :: v116 :: v117 :: v118 :: v119 :: v120 :: v121 :: v122 :: v123 :: v124 :: v125 :: v126 :: v127 :: v128 :: v129 :: v130 :: v131 :: v132 :: v133 :: v134 :: v135 :: v136 :: v137 :: v138 :: v139 :: v140 :: v141 :: v142 :: v143 :: v144 :: v145 :: v146 :: v147 :: v148 :: v149 :: v150 :: v151 :: v152 :: v153 :: v154 :: v155 :: v156 :: v157 :: v158 :: v159 :: v160 :: v161 :: v162 :: v163 :: v164 :: v165 :: v166 :: v167 :: v168 :: v169 :: v170 :: v171 :: v172 :: v173 :: v174 :: v175 :: v176 :: v177 :: v178 :: v179 :: v180 :: v181 :: v182 :: v183 :: v184 :: v185 :: v186 :: v187 :: v188 :: v189 :: v190 :: v191 :: v192 :: v193 :: v194 :: v195 :: v196 :: v197 :: v198 :: v199 :: v200 :: v201 :: v202 :: v203 :: v204 :: v205 :: v206 :: v207 :: v208 :: v209 :: v210 :: v211 :: v212 :: v213 :: v214 :: v215 :: v216 :: v217 :: v218 :: v219 :: v220 :: v221 :: v222 :: v223 :: v224 :: v225 :: v226 :: v227 :: v228 :: v229 :: v230 :: v231 :: v232 :: v233 :: v234 :: v235 :: v236 :: v237 :: v238 :: v239 :: v240 :: v241 :: v242 :: v243 :: v244 :: v245 :: u246 :: u247 :: u248 :: u249 :: u250 :: u251 :: u252 :: u253 :: u254 :: u255 :: u256 :: u257 :: u258 :: u259 :: u260 :: u261 :: u262 :: u263 :: u264 :: u265 :: u266 :: u267 :: u268 :: u269 :: u270 :: u271 :: u272 :: u273 :: u274 :: u275 :: u276 :: u277 :: u278 :: u279 :: u280 :: v281 :: v282 :: v283 :: v284 :: v285 :: v286 :: v287 :: v288 :: []), []⟩ wz) :
    Code.wp Try.prog plR50 (OnEndJ K) ⟨List.toArray (.slice (some ⟨rb, ro, none⟩) N c :: v1 :: v2 :: v3 :: v4 :: v5 :: v6 :: v7 :: v8 :: v9 :: v10 :: v11 :: v12 :: v13 :: v14 :: v15 :: v16 :: .int .i64 (i : Int) :: v18 :: v19 :: v20 :: v21 :: .int .i64 (o1 : Int) :: v23 :: v24 :: v25 :: v26 :: v27 :: v28 :: v29 :: v30 :: v31 :: v32 :: v33 :: v34 :: v35 :: v36 :: v37 :: v38 :: v39 :: v40 :: v41 :: v42 :: v43 :: v44 :: v45 :: v46 :: v47 :: v48 :: v49 :: v50 :: v51 :: v52 :: v53 :: v54 :: v55 :: v56 :: v57 :: v58 :: v59 :: v60 :: v61 :: v62 :: v63 :: v64 :: v65 :: v66 :: v67 :: v68 :: v69 :: v70 :: v71 :: v72 :: v73 :: v74 :: v75 :: v76 :: v77 :: v78 :: v79 :: v80 :: v81 :: v82 :: v83 :: v84 :: v85 :: v86 :: v87 :: v88 :: v89 :: v90 :: v91 :: v92 :: v93 :: v94 :: v95 :: v96 :: v97 :: v98 :: v99 :: v100 :: v101 :: v102 :: v103 :: v104 :: v105 :: v106 :: v107 :: v108 :: v109 :: v110 :: v111 :: v112 :: v113 :: v114 :: v115 :: v116 :: v117 :: v118 :: v119 :: v120 :: v121 :: v122 :: v123 :: v124 :: v125 :: v126 :: v127 :: v128 :: v129 :: v130 :: v131 :: v132 :: v133 :: v134 :: v135 :: v136 :: v137 :: v138 :: v139 :: v140 :: v141 :: v142 :: v143 :: v144 :: v145 :: v146 :: v147 :: v148 :: v149 :: v150 :: v151 :: v152 :: v153 :: v154 :: v155 :: v156 :: v157 :: v158 :: v159 :: v160 :: v161 :: v162 :: v163 :: v164 :: v165 :: v166 :: v167 :: v168 :: v169 :: v170 :: v171 :: v172 :: v173 :: v174 :: v175 :: v176 :: v177 :: v178 :: v179 :: v180 :: v181 :: v182 :: v183 :: v184 :: v185 :: v186 :: v187 :: v188 :: v189 :: v190 :: v191 :: v192 :: v193 :: v194 :: v195 :: v196 :: v197 :: v198 :: v199 :: v200 :: v201 :: v202 :: v203 :: v204 :: v205 :: v206 :: v207 :: v208 :: v209 :: v210 :: v211 :: v212 :: v213 :: v214 :: v215 :: v216 :: v217 :: v218 :: v219 :: v220 :: v221 :: v222 :: v223 :: v224 :: v225 :: v226 :: v227 :: v228 :: v229 :: v230 :: v231 :: v232 :: v233 :: v234 :: v235 :: v236 :: v237 :: v238 :: v239 :: v240 :: v241 :: v242 :: v243 :: v244 :: v245 :: v246 :: v247 :: v248 :: v249 :: v250 :: v251 :: v252 :: v253 :: v254 :: v255 :: v256 :: v257 :: v258 :: v259 :: v260 :: v261 :: v262 :: v263 :: v264 :: v265 :: v266 :: v267 :: v268 :: v269 :: v270 :: v271 :: v272 :: v273 :: v274 :: v275 :: v276 :: v277 :: v278 :: v279 :: v280 :: v281 :: v282 :: v283 :: v284 :: v285 :: v286 :: v287 :: v288 :: []), []⟩ V := by
  have mixed : Try.prog.follows .mixedOrders = true := by kernel_rfl
  have HEX := hidP hexit
  have ho0 : (0 : Int) ≤ (o1 : Int) := by omega
  have ho1 : (o1 : Int) < (N : Int) := by omega
  have hi0 : (0 : Int) ≤ (i : Int) := by omega
  have hi1 : (i : Int) < (N : Int) := by omega
  have hN1 : decide ((o1 : Int) < (N : Int)) = true := decide_eq_true ho1
  have hN2 : decide (o1 < N) = true := decide_eq_true ho
  have d1 : decide (n < lo) = false := decide_eq_false g1
  have d1' : decide ((n : Int) < (lo : Int)) = false := decide_eq_false (by omega)
  have d2 : (lo == n) = false := beq_eq_false_iff_ne.2 g2
  have d2' : ((lo : Int) == (n : Int)) = false := beq_eq_false_iff_ne.2 (by omega)
  clear hexit g1 g2 ho hi
  conv => arg 2; whnf
  go_big_quiet_o (fail)
  all_goals exact HEX.out _ _ _ _ _ _ _ _ _ _ _ _ _ _ _ _ _ _ _ _ _ _ _ _ _ _ _ _ _ _ _ _ _ _ _ _ (grown_drewN _ _)

end Go.Proofs.Ytgmljpkenipgjaa.J

/-
  pack: PackFits: who was laid earlier: a region as a declaration of its own (printed by tools/pk_r50.py).
-/
namespace Go.Proofs.Ytgmljpkenipgjaa.J
open Go.RowKit Go.Maps Go.Shelf Pk

attribute [local go_sem] Oper.semAt_some

set_option maxRecDepth 100000 in
theorem pl_r50q {Q0 : Exit → Act → World → Prop} {V : World} {rb ro N c i o1 n lo : Nat} {a1 a2 : Option Addr} {c1 c2 : Nat}
    {v1 v2 v3 v4 v5 v6 v7 v8 v9 v10 v11 v12 v13 v14 v15 v16 v18 v19 v20 v21 v23 v24 v25 v26 v27 v28 v29 v30 v31 v32 v33 v34 v35 v36 v37 v38 v39 v40 v41 v42 v43 v44 v45 v46 v47 v48 v49 v50 v51 v52 v53 v54 v55 v56 v57 v58 v59 v60 v61 v62 v63 v64 v65 v66 v67 v68 v69 v70 v71 v72 v73 v74 v75 v76 v77 v78 v79 v80 v81 v82 v83 v84 v85 v86 v87 v88 v89 v90 v91 v92 v93 v94 v95 v96 v97 v98 v99 v100 v101 v102 v103 v104 v105 v106 v107 v108 v109 v110 v111 v112 v113 v114 v115 v116 v117 v118 v119 v120 v121 v122 v123 v124 v125 v126 v127 v128 v129 v130 v131 v132 v133 v134 v135 v136 v137 v138 v139 v140 v141 v142 v143 v144 v145 v146 v147 v148 v149 v150 v151 v152 v153 v154 v155 v156 v157 v158 v159 v160 v161 v162 v163 v164 v165 v166 v167 v168 v169 v170 v171 v172 v173 v174 v175 v176 v177 v178 v179 v180 v181 v182 v183 v184 v185 v186 v187 v188 v189 v190 v191 v192 v193 v194 v195 v196 v197 v198 v199 v200 v201 v202 v203 v204 v205 v206 v207 v208 v209 v210 v211 v212 v213 v214 v215 v216 v217 v218 v219 v220 v221 v222 v223 v224 v225 v226 v227 v228 v229 v230 v231 v232 v233 v234 v235 v236 v237 v238 v239 v240 v241 v242 v243 v244 v245 v246 v247 v248 v249 v250 v251 v252 v253 v254 v255 v256 v257 v258 v259 v260 v261 v262 v263 v264 v265 v266 v267 v268 v269 v270 v271 v272 v273 v274 v275 v276 v277 v278 v279 v280 v281 v282 v283 v284 v285 v286 v287 v288 : Value}
    (ho : o1 < N) (hi : i < N) (cr : V.cell? ⟨rb, ro + i, none⟩ = some (.slice a1 n c1)) (co : V.cell? ⟨rb, ro + o1, none⟩ = some (.slice a2 lo c2))
    (hexit : ∀ (wz : World) (r : Bool) (u246 u247 u248 u249 u250 u251 u252 u253 u254 u255 u256 u257 u258 u259 u260 u261 u262 u263 u264 u265 u266 u267 u268 u269 u270 u271 u272 u273 u274 u275 u276 u277 u278 u279 u280 : Value), (r = true ↔ n < lo ∨ (lo = n ∧ o1 < i)) → V.grownBy wz none → Q0 .normal ⟨List.toArray (.slice (some ⟨rb, ro, none⟩) N c :: v1 :: v2 :: v3 :: v4 :: v5 :: v6 :: v7 :: v8 :: v9 :: v10 :: v11 :: v12 :: v13 :: v14 :: v15 :: v16 :: .int .i64 (i : Int) :: v18 :: .bool r :: v20 :: v21 :: .int .i64 (o1 : Int) :: v23 :: v24 :: v25 :: v26 :: v27 :: v28 :: v29 :: v30 :: v31 :: v32 :: v33 :: v34 :: v35 :: v36 :: v37 :: v38 :: v39 :: v40 :: v41 :: v42 :: v43 :: v44 :: v45 :: v46 :: v47 :: v48 :: v49 :: v50 :: v51 :: v52 :: v53 :: v54 :: v55 :: v56 :: v57 :: v58 :: v59 :: v60 :: v61 :: v62 :: v63 :: v64 :: v65 :: v66 :: v67 :: v68 :: v69 :: v70 :: v71 :: v72 :: v73 :: v74 :: v75 :: v76 :: v77 :: v78 :: v79 :: v80 :: v81 :: v82 :: v83 :: v84 :: v85 :: v86 :: v87 :: v88 :: v89 :: v90 :: v91 :: v92 :: v93 :: v94 :: v95 :: v96 :: v97 :: v98 :: v99 :: v100 :: v101 :: v102 :: v103 :: v104 :: v105 :: v106 :: v107 :: v108 :: v109 :: v110 :: v111 :: v112 :: v113 :: v114 :: v115 :: v116 :: v117 :: v118 :: v119 :: v120 :: v121 :: v122 :: v123 :: v124 :: v125 :: v126 :: v127 :: v128 :: v129 :: v130 :: v131 :: v132 :: v133 :: v134 :: v135 :: v136 :: v137 :: v138 :: v139 :: v140 :: v141 :: v142 :: v143 :: v144 :: v145 :: v146 :: v147 :: v148 :: v149 :: v150 :: v151 :: v152 :: v153 :: v154 :: v155 :: v156 :: v157 :: v158 :: v159 :: v160 :: v161 :: v162 :: v163 :: v164 :: v165 :: v166 :: v167 :: v168 :: v169 :: v170 :: v171 :: v172 :: v173 :: v174 :: v175 :: v176 :: v177 :: v178 :: v179 :: v180 :: v181 :: v182 :: v183 :: v184 :: v185 :: v186 :: v187 :: v188 :: v189 :: v190 :: v191 :: v192 :: v193 :: v194 :: v195 :: v196 :: v197 :: v198 :: v199 :: v200 :: v201 :: v202 :: v203 :: v204 :: v205 :: v206 :: v207 :: v208 :: v209 :: v210 :: v211 :: v212 :: v213 :: v214 :: v215 :: v216 :: v217 :: v218 :: v219 :: v220 :: v221 :: v222 :: v223 :: v224 :: v225 :: v226 :: v227 :: v228 :: v229 :: v230 :: v231 :: v232 :: v233 :: v234 :: v235 :: v236 :: v237 :: v238 :: v239 :: v240 :: v241 :: v242 :: v243 :: v244 :: v245 :: u246 :: u247 :: u248 :: u249 :: u250 :: u251 :: u252 :: u253 :: u254 :: u255 :: u256 :: u257 :: u258 :: u259 :: u260 :: u261 :: u262 :: u263 :: u264 :: u265 :: u266 :: u267 :: u268 :: u269 :: u270 :: u271 :: u272 :: u273 :: u274 :: u275 :: u276 :: u277 :: u278 :: u279 :: u280 :: v281 :: v282 :: v283 :: v284 :: v285 :: v286 :: v287 :: v288 :: []), []⟩ wz) :
    Code.wp Try.prog plR50 Q0 ⟨List.toArray (.slice (some ⟨rb, ro, none⟩) N c :: v1 :: v2 :: v3 :: v4 :: v5 :: v6 :: v7 :: v8 :: v9 :: v10 :: v11 :: v12 :: v13 :: v14 :: v15 :: v16 :: .int .i64 (i : Int) :: v18 :: v19 :: v20 :: v21 :: .int .i64 (o1 : Int) :: v23 :: v24 :: v25 :: v26 :: v27 :: v28 :: v29 :: v30 :: v31 :: v32 :: v33 :: v34 :: v35 :: v36 :: v37 :: v38 :: v39 :: v40 :: v41 :: v42 :: v43 :: v44 :: v45 :: v46 :: v47 :: v48 :: v49 :: v50 :: v51 :: v52 :: v53 :: v54 :: v55 :: v56 :: v57 :: v58 :: v59 :: v60 :: v61 :: v62 :: v63 :: v64 :: v65 :: v66 :: v67 :: v68 :: v69 :: v70 :: v71 :: v72 :: v73 :: v74 :: v75 :: v76 :: v77 :: v78 :: v79 :: v80 :: v81 :: v82 :: v83 :: v84 :: v85 :: v86 :: v87 :: v88 :: v89 :: v90 :: v91 :: v92 :: v93 :: v94 :: v95 :: v96 :: v97 :: v98 :: v99 :: v100 :: v101 :: v102 :: v103 :: v104 :: v105 :: v106 :: v107 :: v108 :: v109 :: v110 :: v111 :: v112 :: v113 :: v114 :: v115 :: v116 :: v117 :: v118 :: v119 :: v120 :: v121 :: v122 :: v123 :: v124 :: v125 :: v126 :: v127 :: v128 :: v129 :: v130 :: v131 :: v132 :: v133 :: v134 :: v135 :: v136 :: v137 :: v138 :: v139 :: v140 :: v141 :: v142 :: v143 :: v144 :: v145 :: v146 :: v147 :: v148 :: v149 :: v150 :: v151 :: v152 :: v153 :: v154 :: v155 :: v156 :: v157 :: v158 :: v159 :: v160 :: v161 :: v162 :: v163 :: v164 :: v165 :: v166 :: v167 :: v168 :: v169 :: v170 :: v171 :: v172 :: v173 :: v174 :: v175 :: v176 :: v177 :: v178 :: v179 :: v180 :: v181 :: v182 :: v183 :: v184 :: v185 :: v186 :: v187 :: v188 :: v189 :: v190 :: v191 :: v192 :: v193 :: v194 :: v195 :: v196 :: v197 :: v198 :: v199 :: v200 :: v201 :: v202 :: v203 :: v204 :: v205 :: v206 :: v207 :: v208 :: v209 :: v210 :: v211 :: v212 :: v213 :: v214 :: v215 :: v216 :: v217 :: v218 :: v219 :: v220 :: v221 :: v222 :: v223 :: v224 :: v225 :: v226 :: v227 :: v228 :: v229 :: v230 :: v231 :: v232 :: v233 :: v234 :: v235 :: v236 :: v237 :: v238 :: v239 :: v240 :: v241 :: v242 :: v243 :: v244 :: v245 :: v246 :: v247 :: v248 :: v249 :: v250 :: v251 :: v252 :: v253 :: v254 :: v255 :: v256 :: v257 :: v258 :: v259 :: v260 :: v261 :: v262 :: v263 :: v264 :: v265 :: v266 :: v267 :: v268 :: v269 :: v270 :: v271 :: v272 :: v273 :: v274 :: v275 :: v276 :: v277 :: v278 :: v279 :: v280 :: v281 :: v282 :: v283 :: v284 :: v285 :: v286 :: v287 :: v288 :: []), []⟩ V := by
  have key : Code.wp Try.prog plR50 (OnEndJ fun a w => Q0 .normal a w) ⟨List.toArray (.slice (some ⟨rb, ro, none⟩) N c :: v1 :: v2 :: v3 :: v4 :: v5 :: v6 :: v7 :: v8 :: v9 :: v10 :: v11 :: v12 :: v13 :: v14 :: v15 :: v16 :: .int .i64 (i : Int) :: v18 :: v19 :: v20 :: v21 :: .int .i64 (o1 : Int) :: v23 :: v24 :: v25 :: v26 :: v27 :: v28 :: v29 :: v30 :: v31 :: v32 :: v33 :: v34 :: v35 :: v36 :: v37 :: v38 :: v39 :: v40 :: v41 :: v42 :: v43 :: v44 :: v45 :: v46 :: v47 :: v48 :: v49 :: v50 :: v51 :: v52 :: v53 :: v54 :: v55 :: v56 :: v57 :: v58 :: v59 :: v60 :: v61 :: v62 :: v63 :: v64 :: v65 :: v66 :: v67 :: v68 :: v69 :: v70 :: v71 :: v72 :: v73 :: v74 :: v75 :: v76 :: v77 :: v78 :: v79 :: v80 :: v81 :: v82 :: v83 :: v84 :: v85 :: v86 :: v87 :: v88 :: v89 :: v90 :: v91 :: v92 :: v93 :: v94 :: v95 :: v96 :: v97 :: v98 :: v99 :: v100 :: v101 :: v102 :: v103 :: v104 :: v105 :: v106 :: v107 :: v108 :: v109 :: v110 :: v111 :: v112 :: v113 :: v114 :: v115 :: v116 :: v117 :: v118 :: v119 :: v120 :: v121 :: v122 :: v123 :: v124 :: v125 :: v126 :: v127 :: v128 :: v129 :: v130 :: v131 :: v132 :: v133 :: v134 :: v135 :: v136 :: v137 :: v138 :: v139 :: v140 :: v141 :: v142 :: v143 :: v144 :: v145 :: v146 :: v147 :: v148 :: v149 :: v150 :: v151 :: v152 :: v153 :: v154 :: v155 :: v156 :: v157 :: v158 :: v159 :: v160 :: v161 :: v162 :: v163 :: v164 :: v165 :: v166 :: v167 :: v168 :: v169 :: v170 :: v171 :: v172 :: v173 :: v174 :: v175 :: v176 :: v177 :: v178 :: v179 :: v180 :: v181 :: v182 :: v183 :: v184 :: v185 :: v186 :: v187 :: v188 :: v189 :: v190 :: v191 :: v192 :: v193 :: v194 :: v195 :: v196 :: v197 :: v198 :: v199 :: v200 :: v201 :: v202 :: v203 :: v204 :: v205 :: v206 :: v207 :: v208 :: v209 :: v210 :: v211 :: v212 :: v213 :: v214 :: v215 :: v216 :: v217 :: v218 :: v219 :: v220 :: v221 :: v222 :: v223 :: v224 :: v225 :: v226 :: v227 :: v228 :: v229 :: v230 :: v231 :: v232 :: v233 :: v234 :: v235 :: v236 :: v237 :: v238 :: v239 :: v240 :: v241 :: v242 :: v243 :: v244 :: v245 :: v246 :: v247 :: v248 :: v249 :: v250 :: v251 :: v252 :: v253 :: v254 :: v255 :: v256 :: v257 :: v258 :: v259 :: v260 :: v261 :: v262 :: v263 :: v264 :: v265 :: v266 :: v267 :: v268 :: v269 :: v270 :: v271 :: v272 :: v273 :: v274 :: v275 :: v276 :: v277 :: v278 :: v279 :: v280 :: v281 :: v282 :: v283 :: v284 :: v285 :: v286 :: v287 :: v288 :: []), []⟩ V := by
    by_cases g1 : n < lo
    · exact pl_r50A ho hi cr co g1 fun wz u246 u247 u248 u249 u250 u251 u252 u253 u254 u255 u256 u257 u258 u259 u260 u261 u262 u263 u264 u265 u266 u267 u268 u269 u270 u271 u272 u273 u274 u275 u276 u277 u278 u279 u280 h => hexit wz true u246 u247 u248 u249 u250 u251 u252 u253 u254 u255 u256 u257 u258 u259 u260 u261 u262 u263 u264 u265 u266 u267 u268 u269 u270 u271 u272 u273 u274 u275 u276 u277 u278 u279 u280 (by simp [g1]) h
    · by_cases g2 : lo = n
      · by_cases g3 : o1 < i
        · exact pl_r50B ho hi cr co g1 g2 g3 fun wz u246 u247 u248 u249 u250 u251 u252 u253 u254 u255 u256 u257 u258 u259 u260 u261 u262 u263 u264 u265 u266 u267 u268 u269 u270 u271 u272 u273 u274 u275 u276 u277 u278 u279 u280 h => hexit wz true u246 u247 u248 u249 u250 u251 u252 u253 u254 u255 u256 u257 u258 u259 u260 u261 u262 u263 u264 u265 u266 u267 u268 u269 u270 u271 u272 u273 u274 u275 u276 u277 u278 u279 u280 (by simp [g2, g3]) h
        · exact pl_r50C ho hi cr co g1 g2 g3 fun wz u246 u247 u248 u249 u250 u251 u252 u253 u254 u255 u256 u257 u258 u259 u260 u261 u262 u263 u264 u265 u266 u267 u268 u269 u270 u271 u272 u273 u274 u275 u276 u277 u278 u279 u280 h => hexit wz false u246 u247 u248 u249 u250 u251 u252 u253 u254 u255 u256 u257 u258 u259 u260 u261 u262 u263 u264 u265 u266 u267 u268 u269 u270 u271 u272 u273 u274 u275 u276 u277 u278 u279 u280 (by simp [g2, g3]) h
      · exact pl_r50D ho hi cr co g1 g2 fun wz u246 u247 u248 u249 u250 u251 u252 u253 u254 u255 u256 u257 u258 u259 u260 u261 u262 u263 u264 u265 u266 u267 u268 u269 u270 u271 u272 u273 u274 u275 u276 u277 u278 u279 u280 h => hexit wz false u246 u247 u248 u249 u250 u251 u252 u253 u254 u255 u256 u257 u258 u259 u260 u261 u262 u263 u264 u265 u266 u267 u268 u269 u270 u271 u272 u273 u274 u275 u276 u277 u278 u279 u280 (by simp [g1, g2]) h
  exact wp_mono key fun e a w h => by cases e <;> first | exact h | exact h.elim

end Go.Proofs.Ytgmljpkenipgjaa.J

/-
  pack: PackFits: somebody who was laid earlier is in the way: a loop as a declaration of its own (printed by tools/pk_f19.py).
-/
namespace Go.Proofs.Ytgmljpkenipgjaa.J
open Go.RowKit Go.Maps Go.Shelf Pk

attribute [local go_sem] Oper.semAt_some

noncomputable def plF19 : Code := ((Try.f8.body.map loopsJ).getD []).getD 6 .skip

set_option maxRecDepth 100000 in
set_option maxHeartbeats 16000000 in
theorem pl_f19 {Q0 : Exit → Act → World → Prop} {Z V : World} {rb ro rbx N c i d m c2 k0 o0 : Nat} {a2 : Option Addr} {R : Nat → List It} {la : Nat → Option Addr} {lc : Nat → Nat} {ow : List Int}
    {v1 v2 v4 v5 v6 v7 v8 v9 v10 v11 v12 v13 v14 v15 v16 v21 v22 v23 v24 v25 v26 v27 v28 v29 v30 v31 v32 v33 v34 v35 v36 v37 v38 v39 v40 v41 v42 v43 v44 v45 v46 v47 v48 v49 v50 v51 v52 v53 v54 v55 v56 v57 v58 v59 v60 v61 v62 v63 v64 v65 v66 v67 v68 v69 v70 v71 v72 v73 v74 v75 v76 v77 v78 v79 v80 v81 v82 v83 v84 v85 v86 v87 v88 v89 v90 v91 v92 v93 v94 v95 v96 v97 v98 v99 v100 v101 v102 v103 v104 v105 v106 v107 v108 v109 v110 v111 v112 v113 v114 v115 v116 v117 v118 v119 v120 v121 v122 v123 v124 v125 v126 v127 v128 v129 v130 v131 v132 v133 v134 v135 v136 v137 v138 v139 v140 v141 v142 v143 v144 v145 v146 v147 v148 v149 v150 v151 v152 v153 v154 v155 v156 v157 v158 v159 v160 v161 v162 v163 v164 v165 v166 v167 v168 v169 v170 v171 v172 v173 v174 v175 v176 v177 v178 v179 v180 v181 v182 v183 v184 v185 v186 v187 v188 v189 v190 v191 v192 v193 v194 v195 v196 v197 v198 v199 v200 v201 v202 v203 v204 v205 v206 v207 v208 v209 v210 v211 v212 v213 v214 v215 v216 v217 v218 v219 v220 v221 v222 v223 v224 v225 v226 v227 v228 v229 v230 v231 v232 v233 v234 v235 v236 v237 v238 v239 v240 v241 v242 v243 v244 v245 v246 v247 v248 v249 v250 v251 v252 v253 v254 v255 v256 v257 v258 v259 v260 v261 v262 v263 v264 v265 v266 v267 v268 v269 v270 v271 v272 v273 v274 v275 v276 v277 v278 v279 v280 v281 v282 v283 v284 v285 v286 v287 v288 : Value}
    (hi : i < N) (hd : d ≤ 1048576)
    (hbx : ∀ X, Z.grownBy X none → X.cell? ⟨rbx, 2, none⟩ = some (.slice a2 m c2)) (hint : ∀ X, Z.grownBy X none → IntsAt X a2 ow)
    (hro : ∀ X, Z.grownBy X none → ∀ j, j < N → X.cell? ⟨rb, ro + j, none⟩ = some (.slice (la j) (R j).length (lc j))) (hit : ∀ X, Z.grownBy X none → ItsAt X (la i) (R i))
    (hrow : ∀ x ∈ R i, 0 ≤ x.1 ∧ x.1 < 256) (hlen : ∀ j, j < N → (R j).length ≤ 256) (hml : m = ow.length) (hown : ∀ q, q < ow.length → 0 ≤ ow.getD q 0 → ∃ o' : Nat, o' < N ∧ ow.getD q 0 = (o' : Int))
    (hk0 : k0 < (R i).length) (hat : d + ((R i).getD k0 (0, 0)).1.toNat < ow.length ∧ ow.getD (d + ((R i).getD k0 (0, 0)).1.toNat) 0 = (o0 : Int) ∧ Bef R o0 i) (hV : Z.grownBy V none)
    (hexit : ∀ (wz : World) (u20 u21 u22 u205 u206 u207 u208 u209 u210 u211 u212 u213 u214 u215 u216 u217 u218 u219 u220 u221 u222 u223 u224 u225 u226 u227 u228 u229 u230 u231 u232 u233 u234 u235 u236 u237 u238 u239 u240 u241 u242 u243 u244 u245 u246 u247 u248 u249 u250 u251 u252 u253 u254 u255 u256 u257 u258 u259 u260 u261 u262 u263 u264 u265 u266 u267 u268 u269 u270 u271 u272 u273 u274 u275 u276 u277 u278 u279 u280 : Value), Z.grownBy wz none → Q0 (.exit 12) ⟨List.toArray (.slice (some ⟨rb, ro, none⟩) N c :: v1 :: v2 :: .pointer (some ⟨rbx, 0, none⟩) :: v4 :: v5 :: v6 :: v7 :: v8 :: v9 :: v10 :: v11 :: v12 :: v13 :: v14 :: v15 :: v16 :: .int .i64 (i : Int) :: .int .i64 (d : Int) :: .bool true :: u20 :: u21 :: u22 :: v23 :: v24 :: v25 :: v26 :: v27 :: v28 :: v29 :: v30 :: v31 :: v32 :: v33 :: v34 :: v35 :: v36 :: v37 :: v38 :: v39 :: v40 :: v41 :: v42 :: v43 :: v44 :: v45 :: v46 :: v47 :: v48 :: v49 :: v50 :: v51 :: v52 :: v53 :: v54 :: v55 :: v56 :: v57 :: v58 :: v59 :: v60 :: v61 :: v62 :: v63 :: v64 :: v65 :: v66 :: v67 :: v68 :: v69 :: v70 :: v71 :: v72 :: v73 :: v74 :: v75 :: v76 :: v77 :: v78 :: v79 :: v80 :: v81 :: v82 :: v83 :: v84 :: v85 :: v86 :: v87 :: v88 :: v89 :: v90 :: v91 :: v92 :: v93 :: v94 :: v95 :: v96 :: v97 :: v98 :: v99 :: v100 :: v101 :: v102 :: v103 :: v104 :: v105 :: v106 :: v107 :: v108 :: v109 :: v110 :: v111 :: v112 :: v113 :: v114 :: v115 :: v116 :: v117 :: v118 :: v119 :: v120 :: v121 :: v122 :: v123 :: v124 :: v125 :: v126 :: v127 :: v128 :: v129 :: v130 :: v131 :: v132 :: v133 :: v134 :: v135 :: v136 :: v137 :: v138 :: v139 :: v140 :: v141 :: v142 :: v143 :: v144 :: v145 :: v146 :: v147 :: v148 :: v149 :: v150 :: v151 :: v152 :: v153 :: v154 :: v155 :: v156 :: v157 :: v158 :: v159 :: v160 :: v161 :: v162 :: v163 :: v164 :: v165 :: v166 :: v167 :: v168 :: v169 :: v170 :: v171 :: v172 :: v173 :: v174 :: v175 :: v176 :: v177 :: v178 :: v179 :: v180 :: v181 :: v182 :: v183 :: v184 :: v185 :: v186 :: v187 :: v188 :: v189 :: v190 :: v191 :: v192 :: v193 :: v194 :: v195 :: v196 :: v197 :: v198 :: v199 :: v200 :: v201 :: v202 :: v203 :: v204 :: u205 :: u206 :: u207 :: u208 :: u209 :: u210 :: u211 :: u212 :: u213 :: u214 :: u215 :: u216 :: u217 :: u218 :: u219 :: u220 :: u221 :: u222 :: u223 :: u224 :: u225 :: u226 :: u227 :: u228 :: u229 :: u230 :: u231 :: u232 :: u233 :: u234 :: u235 :: u236 :: u237 :: u238 :: u239 :: u240 :: u241 :: u242 :: u243 :: u244 :: u245 :: u246 :: u247 :: u248 :: u249 :: u250 :: u251 :: u252 :: u253 :: u254 :: u255 :: u256 :: u257 :: u258 :: u259 :: u260 :: u261 :: u262 :: u263 :: u264 :: u265 :: u266 :: u267 :: u268 :: u269 :: u270 :: u271 :: u272 :: u273 :: u274 :: u275 :: u276 :: u277 :: u278 :: u279 :: u280 :: v281 :: v282 :: v283 :: v284 :: v285 :: v286 :: v287 :: v288 :: []), []⟩ wz) :
    Code.wp Try.prog plF19 Q0 ⟨List.toArray (.slice (some ⟨rb, ro, none⟩) N c :: v1 :: v2 :: .pointer (some ⟨rbx, 0, none⟩) :: v4 :: v5 :: v6 :: v7 :: v8 :: v9 :: v10 :: v11 :: v12 :: v13 :: v14 :: v15 :: v16 :: .int .i64 (i : Int) :: .int .i64 (d : Int) :: .bool false :: .int .i64 0 :: v21 :: v22 :: v23 :: v24 :: v25 :: v26 :: v27 :: v28 :: v29 :: v30 :: v31 :: v32 :: v33 :: v34 :: v35 :: v36 :: v37 :: v38 :: v39 :: v40 :: v41 :: v42 :: v43 :: v44 :: v45 :: v46 :: v47 :: v48 :: v49 :: v50 :: v51 :: v52 :: v53 :: v54 :: v55 :: v56 :: v57 :: v58 :: v59 :: v60 :: v61 :: v62 :: v63 :: v64 :: v65 :: v66 :: v67 :: v68 :: v69 :: v70 :: v71 :: v72 :: v73 :: v74 :: v75 :: v76 :: v77 :: v78 :: v79 :: v80 :: v81 :: v82 :: v83 :: v84 :: v85 :: v86 :: v87 :: v88 :: v89 :: v90 :: v91 :: v92 :: v93 :: v94 :: v95 :: v96 :: v97 :: v98 :: v99 :: v100 :: v101 :: v102 :: v103 :: v104 :: v105 :: v106 :: v107 :: v108 :: v109 :: v110 :: v111 :: v112 :: v113 :: v114 :: v115 :: v116 :: v117 :: v118 :: v119 :: v120 :: v121 :: v122 :: v123 :: v124 :: v125 :: v126 :: v127 :: v128 :: v129 :: v130 :: v131 :: v132 :: v133 :: v134 :: v135 :: v136 :: v137 :: v138 :: v139 :: v140 :: v141 :: v142 :: v143 :: v144 :: v145 :: v146 :: v147 :: v148 :: v149 :: v150 :: v151 :: v152 :: v153 :: v154 :: v155 :: v156 :: v157 :: v158 :: v159 :: v160 :: v161 :: v162 :: v163 :: v164 :: v165 :: v166 :: v167 :: v168 :: v169 :: v170 :: v171 :: v172 :: v173 :: v174 :: v175 :: v176 :: v177 :: v178 :: v179 :: v180 :: v181 :: v182 :: v183 :: v184 :: v185 :: v186 :: v187 :: v188 :: v189 :: v190 :: v191 :: v192 :: v193 :: v194 :: v195 :: v196 :: v197 :: v198 :: v199 :: v200 :: v201 :: v202 :: v203 :: v204 :: v205 :: v206 :: v207 :: v208 :: v209 :: v210 :: v211 :: v212 :: v213 :: v214 :: v215 :: v216 :: v217 :: v218 :: v219 :: v220 :: v221 :: v222 :: v223 :: v224 :: v225 :: v226 :: v227 :: v228 :: v229 :: v230 :: v231 :: v232 :: v233 :: v234 :: v235 :: v236 :: v237 :: v238 :: v239 :: v240 :: v241 :: v242 :: v243 :: v244 :: v245 :: v246 :: v247 :: v248 :: v249 :: v250 :: v251 :: v252 :: v253 :: v254 :: v255 :: v256 :: v257 :: v258 :: v259 :: v260 :: v261 :: v262 :: v263 :: v264 :: v265 :: v266 :: v267 :: v268 :: v269 :: v270 :: v271 :: v272 :: v273 :: v274 :: v275 :: v276 :: v277 :: v278 :: v279 :: v280 :: v281 :: v282 :: v283 :: v284 :: v285 :: v286 :: v287 :: v288 :: []), []⟩ V := by
  have HG := hidP hV
  have HBX := hidP hbx
  have HIN := hidP hint
  have HRO := hidP hro
  have HIT := hidP hit
  have HROW := hidP hrow
  have HML : Hid (m = ow.length) := hml
  have HOWN := hidP hown
  have HK0 := hidP hat
  have HEX := hidP hexit
  have hid2 : (i : Int) < (N : Int) := by omega
  have hi0' : (0 : Int) ≤ (i : Int) := by omega
  have hin : i < N := hi
  obtain ⟨n, hn⟩ : ∃ v, v = (R i).length := ⟨_, rfl⟩
  have HNN : Hid (n = (R i).length) := hn
  have hn256 : n ≤ 256 := by rw [hn]; exact hlen i hi
  have hk0m : k0 < n := by rw [hn]; exact hk0
  have HLR := hidP hlen
  have HRI : Hid (∀ X, Z.grownBy X none → X.cell? ⟨rb, ro + i, none⟩ = some (.slice (la i) n (lc i))) := fun X hX => by rw [hn]; exact hro X hX i hi
  clear hbx hint hro hit hrow hown hat hexit hV hn hk0 hml hlen
  conv => arg 2; whnf
  go_loopg [19, 20] (n + 1) (fun gk v19 v20 wr => ∃ (k : Nat) (wy : Bool), k ≤ n ∧ gk = n + 1 - k ∧ v19 = .bool wy ∧ v20 = .int .i64 k ∧ (wy = false → k ≤ k0) ∧ Z.grownBy wr none)
  case atStart => exact ⟨0, false, Nat.zero_le _, rfl, rfl, rfl, fun _ => Nat.zero_le _, HG.out⟩
  case round =>
    clear HG
    obtain ⟨k, wy, hk, hgk, rfl, rfl, hwk, hg⟩ := hrel
    have HGK : Hid (gk = n + 1 - k) := hgk
    have HG := hidP hg
    have cr := HRI.out wr hg
    have p2 := HBX.out wr hg
    clear hgk
    cases wy with
    | true =>
      clear hg hwk
      by_cases hkn : k < n
      · have hkd : decide (k < n) = true := decide_eq_true hkn
        go_wp2_with fail
        exact HEX.out _ _ _ _ _ _ _ _ _ _ _ _ _ _ _ _ _ _ _ _ _ _ _ _ _ _ _ _ _ _ _ _ _ _ _ _ _ _ _ _ _ _ _ _ _ _ _ _ _ _ _ _ _ _ _ _ _ _ _ _ _ _ _ _ _ _ _ _ _ _ _ _ _ _ _ _ _ _ _ _ HG.out
      · have hkd : decide (k < n) = false := decide_eq_false hkn
        go_wp2_with fail
        exact HEX.out _ _ _ _ _ _ _ _ _ _ _ _ _ _ _ _ _ _ _ _ _ _ _ _ _ _ _ _ _ _ _ _ _ _ _ _ _ _ _ _ _ _ _ _ _ _ _ _ _ _ _ _ _ _ _ _ _ _ _ _ _ _ _ _ _ _ _ _ _ _ _ _ _ _ _ _ _ _ _ _ HG.out
    | false =>
      have hkk := hwk rfl
      have hkn : k < n := by omega
      have hkd : decide (k < n) = true := decide_eq_true hkn
      have hk0' : (0 : Int) ≤ (k : Int) := by omega
      have hk1 : (k : Int) < (n : Int) := by omega
      have hkl : k < (R i).length := by rw [← HNN.out]; exact hkn
      obtain ⟨lb, lo, hla, t0, -⟩ := its_get (HIT.out wr hg) hkl
      obtain ⟨lci, hlci⟩ : ∃ v, v = lc i := ⟨_, rfl⟩
      rw [hla, ← hlci] at cr
      have hpr := HROW.out _ (getD_mem_ed hkl)
      obtain ⟨x, hx⟩ : ∃ x, x = ((R i).getD k (0, 0)).1 := ⟨_, rfl⟩
      have HXX : Hid (x = ((R i).getD k (0, 0)).1) := hx
      rw [← hx] at t0 hpr
      obtain ⟨p, rfl⟩ := Int.eq_ofNat_of_zero_le hpr.1
      have hp : p < 256 := by omega
      obtain ⟨q, hq⟩ : ∃ q, q = d + p := ⟨_, rfl⟩
      have HQ : Hid (q = d + p) := hq
      have hwr : IntKind.i64.wrap ((d : Int) + (p : Int)) = (q : Int) := by rw [IntKind.wrap_i64]; omega
      have HKN : Hid (¬ (q < m ∧ 0 ≤ ow.getD q 0) → k + 1 ≤ k0) := fun h => by
        by_cases e : k = k0
        · exfalso
          subst e
          obtain ⟨h1, h2, _⟩ := HK0.out
          rw [← HXX.out] at h1 h2
          have e2 : d + ((p : Nat) : Int).toNat = q := by rw [hq]; omega
          rw [e2] at h1 h2
          exact h ⟨by rw [HML.out]; exact h1, by rw [h2]; omega⟩
        · omega
      have HKB : Hid (∀ o' : Nat, ow.getD q 0 = o' → ¬ Bef R o' i → k + 1 ≤ k0) := fun o' ho' h => by
        by_cases e : k = k0
        · exfalso
          subst e
          obtain ⟨h1, h2, h3⟩ := HK0.out
          rw [← HXX.out] at h1 h2
          have e2 : d + ((p : Nat) : Int).toNat = q := by rw [hq]; omega
          rw [e2] at h1 h2
          have : o' = o0 := by omega
          subst this
          exact h h3
        · omega
      have hq0 : (0 : Int) ≤ (q : Int) := by omega
      clear hwk hla hlci hx hpr hq
      by_cases hqm : q < m
      · have hqd : decide (q < m) = true := decide_eq_true hqm
        have hq1 : (q : Int) < (m : Int) := by omega
        have hql : q < ow.length := by rw [← HML.out]; exact hqm
        obtain ⟨ob, oo, rfl, co⟩ := ints_get (HIN.out wr hg) hql
        have hown := HOWN.out q hql
        obtain ⟨ov, hov⟩ : ∃ v, v = ow.getD q 0 := ⟨_, rfl⟩
        rw [← hov] at co hown HKN HKB
        by_cases h0 : 0 ≤ ov
        · have hd0 : decide (0 ≤ ov) = true := decide_eq_true h0
          obtain ⟨o', ho'N, ho'⟩ := hown h0
          subst ho'
          have hoN : decide ((o' : Int) < (N : Int)) = true := decide_eq_true (by omega)
          have hoN' : decide (o' < N) = true := decide_eq_true ho'N
          have ho0' : (0 : Int) ≤ (o' : Int) := by omega
          have ho1' : (o' : Int) < (N : Int) := by omega
          have cro := HRO.out wr hg o' ho'N
          obtain ⟨lo', hlo'⟩ : ∃ v, v = (R o').length := ⟨_, rfl⟩
          rw [← hlo'] at cro
          have HBO : Hid (¬ Bef R o' i → k + 1 ≤ k0) := HKB.out o' rfl
          have HLO : Hid (lo' = (R o').length) := hlo'
          clear hg hov hown hlo'
          have hsw : o' < i ∨ True := .inr trivial
          conv in (Code.region 50 _ _) => change plR50
          go_wp2_with fail
          refine pl_r50q ho'N hin cr cro ?_
          intro wz r z246 z247 z248 z249 z250 z251 z252 z253 z254 z255 z256 z257 z258 z259 z260 z261 z262 z263 z264 z265 z266 z267 z268 z269 z270 z271 z272 z273 z274 z275 z276 z277 z278 z279 z280 hr hgz
          have HRR := hidP hr
          have HGZ : Hid (Z.grownBy wz none) := grown_trans HG.out hgz
          clear hr hgz hsw
          go_wp2_with fail
          go_roundg (n + 1 - (k + 1))
          case measure => have := HGK.out; omega
          case rel =>
            refine ⟨k + 1, r, by omega, rfl, rfl, by go_num, fun hf => HBO.out fun h => ?_, HGZ.out⟩
            have h1 := HLO.out
            have h2 := HNN.out
            have h3 : r = true := HRR.out.2 (by unfold Bef at h; omega)
            rw [hf] at h3
            cases h3
        · have hd0 : decide (0 ≤ ov) = false := decide_eq_false h0
          have HK1 : Hid (k + 1 ≤ k0) := HKN.out fun h => h0 h.2
          clear hg hov hown h0
          go_wp2_with fail
          go_roundg (n + 1 - (k + 1))
          case measure => have := HGK.out; omega
          case rel => exact ⟨k + 1, false, by omega, rfl, rfl, by go_num, fun _ => HK1.out, HG.out⟩
      · have hqd : decide (q < m) = false := decide_eq_false hqm
        have hq1 : ¬ (q : Int) < (m : Int) := by omega
        have HK1 : Hid (k + 1 ≤ k0) := HKN.out fun h => hqm h.1
        clear hg
        go_wp2_with fail
        go_roundg (n + 1 - (k + 1))
        case measure => have := HGK.out; omega
        case rel => exact ⟨k + 1, false, by omega, rfl, rfl, by go_num, fun _ => HK1.out, HG.out⟩

end Go.Proofs.Ytgmljpkenipgjaa.J

/-
  pack: the law that laid rows fit, walked.
-/
namespace Go.Proofs.Ytgmljpkenipgjaa.J
open Go.RowKit Go.Maps Go.Shelf Pk

attribute [local go_sem] Oper.semAt_some

set_option maxRecDepth 100000 in
set_option maxHeartbeats 16000000 in
theorem fits_core (a : Option Addr) (N c : Nat) (R : Nat → List It) (la : Nat → Option Addr) (lc : Nat → Nat) (w : World) (hR : RsAt w a N R la lc) (hnil : ∀ i, i < N → la i = none → (R i).length = 0 ∧ lc i = 0) (hN : N ≤ 1048576) (hl : ∀ i, i < N → (R i).length ≤ 1048576) :
    Calls Try.prog 8 #[.slice a N c] w fun e y => e = .returned (.bool true) ∧ w.grownBy y none := by
  have mixed : Try.prog.follows .mixedOrders = true := by kernel_rfl
  have HR : Hid (∀ X, w.grownBy X none → RsAt X a N R la lc) := fun X hX => hR.kept hX
  have HLN := hidP (lentRows_any w N a c R la lc hR hnil hN hl)
  have HAW := hidP aw_ok
  have HLM : Hid (∀ X ka kc ua uc, RsAt X ka N R ua uc → Calls Try.prog 10 #[.slice ka N kc] X fun e y => LayTold N R X e y) := fun X ka kc ua uc hX => layM_any ka N kc R ua uc X hX (by omega) (fun i hi => by have := hl i hi; omega)
  obtain ⟨i0, hi0, hz0, hz1, hz2⟩ := info_parts infoBoolP
  clear hR hnil hl
  go_enter Try.func8, Try.ntmps8
  go_wp2_with fail
  refine Calls.mono HLN.out ?_
  rintro e y1 ⟨ka, kc, ua, uc, rfl, hP1, hg1⟩
  have HG1 := hidP hg1
  have HC1 := hidP (HLM.out y1 ka kc ua uc hP1.rs.1)
  clear hP1 hg1 HLN
  go_wp2_with fail
  refine Calls.mono HC1.out ?_
  rintro e y2 (⟨-, rfl, hg2⟩ | ⟨hM, va0, vc0, rfl, hT2, hg2⟩)
  · have HG2 : Hid (w.grownBy (y2.alloc (.cells #[.slice none 0 0, .slice none 0 0, .slice none 0 0] 26)) none) := grown_trans (grown_trans HG1.out hg2) (World.grownBy_alloc _ _ none)
    clear hg2 HC1 HLM
    go_wp2_with fail
    refine Calls.mono (HAW.out _) ?_
    rintro e y3 ⟨rfl, hg3⟩
    have HG3 : Hid (w.grownBy y3 none) := grown_trans HG2.out hg3
    clear hg3
    go_wp2_with fail
    go_ret
    exact ⟨rfl, HG3.out⟩
  have hF := fitM hM
  have hRow := hM.2
  have hN2 : N ≤ 256 := hM.1
  have hint := hT2.rws
  obtain ⟨bs, hbs⟩ : ∃ v, v = (lay R N).bs := ⟨_, rfl⟩
  obtain ⟨va, hva⟩ : ∃ v, v = (lay R N).va := ⟨_, rfl⟩
  obtain ⟨ow, how⟩ : ∃ v, v = (lay R N).ow := ⟨_, rfl⟩
  have hint2 : RwsAt y2 (va0 0) (va0 1) (va0 2) bs va ow := by rw [hbs, hva, how]; exact hint
  rw [← hbs, ← hva, ← how] at hF ⊢
  clear hint hT2 hM hbs hva how HC1 HLM
  rw [hF.bl, hF.vl]
  obtain ⟨m, hm⟩ : ∃ v, v = ow.length := ⟨_, rfl⟩
  obtain ⟨a0, ha0⟩ : ∃ v, v = va0 0 := ⟨_, rfl⟩
  obtain ⟨a1, ha1⟩ : ∃ v, v = va0 1 := ⟨_, rfl⟩
  obtain ⟨a2, ha2⟩ : ∃ v, v = va0 2 := ⟨_, rfl⟩
  obtain ⟨c0, hc0⟩ : ∃ v, v = vc0 0 := ⟨_, rfl⟩
  obtain ⟨c1, hc1⟩ : ∃ v, v = vc0 1 := ⟨_, rfl⟩
  obtain ⟨c2, hc2⟩ : ∃ v, v = vc0 2 := ⟨_, rfl⟩
  rw [← ha0, ← ha1, ← ha2] at hint2
  rw [← hm, ← ha0, ← ha1, ← ha2, ← hc0, ← hc1, ← hc2]
  clear ha0 ha1 ha2 hc0 hc1 hc2
  obtain ⟨Z, hZ⟩ : ∃ Z, Z = y2.alloc (.cells #[.slice a0 N c0, .slice a1 m c1, .slice a2 m c2] 26) := ⟨_, rfl⟩
  have hgz : y2.grownBy Z none := by rw [hZ]; exact World.grownBy_alloc _ _ none
  have HWZ : Hid (w.grownBy Z none) := grown_trans (grown_trans HG1.out hg2) hgz
  obtain ⟨rbx, hrbx⟩ : ∃ v, v = y2.heap.size := ⟨_, rfl⟩
  have HBX : Hid (∀ X, Z.grownBy X none → X.cell? ⟨rbx, 0, none⟩ = some (.slice a0 N c0) ∧ X.cell? ⟨rbx, 1, none⟩ = some (.slice a1 m c1) ∧ X.cell? ⟨rbx, 2, none⟩ = some (.slice a2 m c2)) := fun X hX => by
    have hb : X.heap[rbx]? = some (.cells #[.slice a0 N c0, .slice a1 m c1, .slice a2 m c2] 26 (0, 0)) := box_kept (by rw [hZ, hrbx]; exact heap_alloc_last y2 _) hX
    exact ⟨by rw [cell_of_row _ _ _ _ _ _ hb]; rfl, by rw [cell_of_row _ _ _ _ _ _ hb]; rfl, by rw [cell_of_row _ _ _ _ _ _ hb]; rfl⟩
  have HIN : Hid (∀ X, Z.grownBy X none → RwsAt X a0 a1 a2 bs va ow) := fun X hX => hint2.kept (grown_trans hgz hX)
  have HF := hidP hF
  have HROW := hidP hRow
  have HML : Hid (m = ow.length) := hm
  have hm2 : m ≤ 1048576 := by rw [hm]; exact hF.ol
  have HAT : Hid (∀ X (i p : Int), Z.grownBy X none → Calls Try.prog 16 #[.agg #[.slice a0 N c0, .slice a1 m c1, .slice a2 m c2], .int .i64 i, .int .i64 p] X fun e y => e = .returned (.tuple #[.int .i64 (atF bs va ow i p).1, .bool (atF bs va ow i p).2]) ∧ X.grownBy y none) := fun X i p hX => by
    have h := pkAt_any a0 a1 a2 c0 c1 c2 bs va ow i p X (HIN.out X hX).1 (HIN.out X hX).2.1 (HIN.out X hX).2.2 hF.bsr (by rw [hF.vl]; omega) (by omega)
    rw [hF.bl, hF.vl, ← hm] at h
    exact h
  have HRS : Hid (∀ X, Z.grownBy X none → RsAt X a N R la lc) := fun X hX => HR.out X (grown_trans HWZ.out hX)
  have HLR : Hid (∀ i, i < N → (R i).length ≤ 256) := fun i hi => (hRow i hi).1
  clear hF hRow hint2 hg2 hgz HR HG1 hm
  go_upto_region 4 with fail
  rw [← hZ, ← hrbx]
  clear hZ hrbx
  go_cut [81] from 50 (fun v wx => v = .bool false ∧ wx = Z)
  case first =>
    obtain ⟨p0, p1, p2⟩ := HBX.out Z (grown_refl _ _)
    by_cases hm0 : m = 0
    · subst hm0
      go_wp2_with fail
      go_meet
      exact ⟨rfl, rfl⟩
    · obtain ⟨m1, hm1⟩ : ∃ m1, m = m1 + 1 := ⟨m - 1, by omega⟩
      have hd : decide (0 < m) = true := decide_eq_true (by omega)
      have hd2 : decide ((0 : Int) < (m : Int)) = true := decide_eq_true (by omega)
      have hwr : IntKind.i64.wrap ((m : Int) - 1) = (m1 : Int) := by rw [IntKind.wrap_i64]; omega
      obtain ⟨ob, oo, rfl, co⟩ := ints_get (HIN.out Z (grown_refl _ _)).2.2 (k := m1) (by rw [← HML.out]; omega)
      have hlast := HF.out.last (by rw [← HML.out]; omega)
      rw [← HML.out, show m - 1 = m1 by omega] at hlast
      obtain ⟨lv, hlv⟩ : ∃ v, v = ow.getD m1 0 := ⟨_, rfl⟩
      rw [← hlv] at co hlast
      have hk0 : (0 : Int) ≤ (m1 : Int) := by omega
      have hk1 : (m1 : Int) < (m : Int) := by omega
      have hd3 : decide (lv < 0) = false := decide_eq_false (by omega)
      clear hlv hm1 hlast hm0
      go_wp2_with fail
      go_meet
      exact ⟨rfl, rfl⟩
  case rest =>
  obtain ⟨rfl, hw⟩ := hcut
  rw [hw]
  clear hw
  go_wp2_with fail
  go_loopg [5, 6] N (fun gk v5 v6 wr => ∃ i ec : Nat, i ≤ N ∧ gk = N - i ∧ v5 = .int .i64 ec ∧ v6 = .int .i64 i ∧ Hid (ec = sumL R i) ∧ Z.grownBy wr none)
  case atStart => exact ⟨0, 0, Nat.zero_le _, rfl, rfl, rfl, rfl, grown_refl _ _⟩
  case round =>
    obtain ⟨i, ec, hi, hgi, rfl, rfl, HEC, hg⟩ := hrel
    have HGI : Hid (gk = N - i) := hgi
    have HG := hidP hg
    clear hgi
    by_cases hin : i < N
    · have hid : decide (i < N) = true := decide_eq_true hin
      have hid2 : (i : Int) < (N : Int) := by omega
      have hi0' : (0 : Int) ≤ (i : Int) := by omega
      have hec : ec ≤ 65536 := by
        have h1 : ∀ j, j ≤ N → sumL R j ≤ j * 256 := fun j => by
          induction j with
          | zero => exact fun _ => Nat.zero_le _
          | succ j ih =>
            intro hj
            have h2 := ih (by omega)
            have h3 := HLR.out j (by omega)
            show sumL R j + (R j).length ≤ _
            omega
        have h2 := h1 i (by omega)
        have h3 := HEC.out
        have h4 : i * 256 ≤ 256 * 256 := Nat.mul_le_mul_right _ (by omega)
        omega
      obtain ⟨hb, hhb⟩ : ∃ v, v = wr.heap.size := ⟨_, rfl⟩
      have HHB : Hid (Z.heap.size ≤ hb) := by rw [hhb]; exact hg.size
      go_wp2_with (at_make; refine wpList_make_full _ rfl _ _ 57 rfl wr.heap.size 4 i0 (.bool false) 1 Try.underlying57 hi0 hz0 hz1 .i64 .i64 _ _ 258 rfl rfl (by simp) (by simp) (by rw [hz2]; omega) (by unfold maxLen; omega) (by simp) ?_)
      intro w3 hown hgrow
      rw [← hhb] at hown ⊢
      have hval : ValAt w3 hb 258 4 (fun _ => .bool false) := made_rowK (B := hb) rfl (by simpa [Value.cells, hhb] using hown)
      have HV0 : Hid (ValAt w3 hb 258 4 (fun p => .bool ((((R i).take 0).map (·.1)).contains (p : Int)))) := hval.ext fun p _ => by simp
      have HG0 : Hid (Z.grownBy w3 none) := grown_trans hg hgrow
      clear hown hgrow hval hg hhb
      obtain ⟨n, hn⟩ : ∃ v, v = (R i).length := ⟨_, rfl⟩
      have HNN : Hid (n = (R i).length) := hn
      have hn256 : n ≤ 256 := by rw [hn]; exact HLR.out i hin
      have HRI : Hid (∀ X, Z.grownBy X none → ∃ b o, a = some ⟨b, o, none⟩ ∧ X.cell? ⟨b, o + i, none⟩ = some (.slice (la i) n (lc i))) := fun X hX => by
        rw [hn]
        exact rs_get (HRS.out X hX) hin
      clear hn
      go_wp2_with fail
      go_loopg [5, 8] n (fun gk v5 v8 wr => ∃ k ek : Nat, k ≤ n ∧ gk = n - k ∧ v5 = .int .i64 ek ∧ v8 = .int .i64 k ∧ Hid (ek = ec + k) ∧ ValAt wr hb 258 4 (fun p => .bool ((((R i).take k).map (·.1)).contains (p : Int))) ∧ Z.grownBy wr none)
      case atStart => exact ⟨0, ec, Nat.zero_le _, rfl, rfl, rfl, rfl, HV0.out, HG0.out⟩
      case round =>
        clear HV0 HG0 HG
        obtain ⟨k, ek, hk, hgk, rfl, rfl, HEK, hv, hg⟩ := hrel
        have HGK : Hid (gk = n - k) := hgk
        have HV : Hid (ValAt wr hb 258 4 (fun p => .bool ((((R i).take k).map (·.1)).contains (p : Int)))) := hv
        have HG := hidP hg
        obtain ⟨rb, ro, rfl, cr⟩ := HRI.out wr hg
        clear hgk
        by_cases hkn : k < n
        · have hkd : decide (k < n) = true := decide_eq_true hkn
          have hek : ek ≤ 70000 := by have := HEK.out; omega
          have hk0 : (0 : Int) ≤ (k : Int) := by omega
          have hk1 : (k : Int) < (n : Int) := by omega
          have hkl : k < (R i).length := by rw [← HNN.out]; exact hkn
          obtain ⟨lb, lo, hla, t0, t1⟩ := its_get ((HRS.out wr hg).2 i hin) hkl
          obtain ⟨lci, hlci⟩ : ∃ v, v = lc i := ⟨_, rfl⟩
          rw [hla, ← hlci] at cr
          have hmem := getD_mem_ed hkl
          have hpr := (HROW.out i hin).2.1 _ hmem
          have htd := HF.out.told i hin _ hmem
          have hstep := (RowTo.step hkl).1 (RowTo.pre ((RowTo.all (R i)).2 (HROW.out i hin).2) (by omega : k + 1 ≤ (R i).length))
          obtain ⟨e, he⟩ : ∃ e, e = (R i).getD k (0, 0) := ⟨_, rfl⟩
          have HEE : Hid (e = (R i).getD k (0, 0)) := he
          rw [← he] at t0 t1 hpr htd hstep
          obtain ⟨x, tv⟩ := e
          obtain ⟨p, rfl⟩ := Int.eq_ofNat_of_zero_le hpr.1
          have hp : p < 256 := by have := hpr.2; simp only [] at this; omega
          have hp0 : (0 : Int) ≤ (p : Int) := by omega
          have hp1 : (p : Int) < (258 : Nat) := by omega
          have hpd0 : decide ((p : Int) < 0) = false := decide_eq_false (by omega)
          have hpd1 : decide ((256 : Int) ≤ (p : Int)) = false := decide_eq_false (by omega)
          have hpd1' : decide (256 ≤ p) = false := decide_eq_false (by omega)
          have hnm : (((R i).take k).map (·.1)).contains (p : Int) = false := by
            cases hc : (((R i).take k).map (·.1)).contains (p : Int) with
            | false => rfl
            | true => exact absurd (by simpa using hc) hstep.2.2
          have c2 : ∀ o', (wr.alloc o').cell? ⟨hb, p, none⟩ = some (.bool false) := fun o' => by
            rw [← hnm]; exact (ValAt.kept HV.out (World.grownBy_alloc _ o' none)).cell p (by omega)
          have f2 : ∀ o', (wr.alloc o').frozen? ⟨hb, p, none⟩ = false := fun o' => (ValAt.kept HV.out (World.grownBy_alloc _ o' none)).free p
          obtain ⟨W1, hW1⟩ : ∃ W, W = wr.alloc (.cells #[.int .i64 (p : Int), .int .i64 tv] 60) := ⟨_, rfl⟩
          obtain ⟨W2, hW2⟩ : ∃ W, W = W1.setCell ⟨hb, p, none⟩ (.bool true) := ⟨_, rfl⟩
          have hg1 : Z.grownBy W1 none := by rw [hW1]; exact grown_trans hg (World.grownBy_alloc _ _ none)
          have hg2 : Z.grownBy W2 none := by rw [hW2]; exact grown_new hg1 (grown_setCell _ _ _) HHB.out
          have hv1 : ValAt W1 hb 258 4 (fun p => .bool ((((R i).take k).map (·.1)).contains (p : Int))) := by rw [hW1]; exact ValAt.kept HV.out (World.grownBy_alloc _ _ none)
          obtain ⟨xb, hxb⟩ : ∃ v, v = wr.heap.size := ⟨_, rfl⟩
          have hxh : xb ≠ hb := by
            have := hv.lt
            omega
          have hx1 : W1.heap[xb]? = some (.cells #[.int .i64 (p : Int), .int .i64 tv] 60 (0, 0)) := by rw [hW1, hxb]; exact heap_alloc_last wr _
          have hx2 : W2.heap[xb]? = some (.cells #[.int .i64 (p : Int), .int .i64 tv] 60 (0, 0)) := by
            rw [hW2, heap_setCell_other _ _ _ _ (by show xb ≠ hb; exact hxh)]; exact hx1
          have HV2 : Hid (ValAt W2 hb 258 4 (fun q => .bool ((((R i).take (k + 1)).map (·.1)).contains (q : Int)))) := by
            show ValAt _ _ _ _ _
            rw [hW2]
            refine ValAt.ext (ValAt.set hv1 p _) fun q hq => ?_
            rw [take_snoc hkl, List.map_append, List.contains_append]
            unfold J.put
            rw [List.map_cons, List.map_nil, ← HEE.out]
            by_cases e : q = p
            · subst e; simp
            · rw [if_neg e]
              have e3 : ([(p : Int)] : List Int).contains (q : Int) = false := by simp; omega
              rw [e3, Bool.or_false]
          obtain ⟨p0, p1, p2⟩ := HBX.out W2 hg2
          have x20 : W2.cell? ⟨xb, 0, none⟩ = some (.int .i64 (p : Int)) := by rw [cell_of_row _ _ _ _ _ _ hx2]; rfl
          have HX2 : Hid (∀ X, W2.grownBy X none → X.cell? ⟨xb, 1, none⟩ = some (.int .i64 tv)) := fun X hX => hX.cell (by rw [cell_of_row _ _ _ _ _ _ hx2]; rfl) (by simp)
          have HC2 := hidP (HAT.out W2 i p hg2)
          rw [htd] at HC2
          have HG2 := hidP hg2
          have e3 : (tv != tv) = false := bne_self_eq_false _
          rw [hW2, hW1] at p0 p1 p2 x20
          rw [hxb] at x20
          clear hla hlci hmem hpr htd hstep he hnm hg1 hg2 hv1 hx1 hx2 hxh hv hg
          go_wp2_with fail
          rw [← hW1, ← hW2, ← hxb]
          clear hW1 hW2 hxb p0 p1 p2 x20 c2 f2
          refine Calls.mono HC2.out ?_
          rintro e y ⟨rfl, hy⟩
          have x21 := HX2.out y hy
          have HVY : Hid (ValAt y hb 258 4 (fun q => .bool ((((R i).take (k + 1)).map (·.1)).contains (q : Int)))) := ValAt.kept HV2.out hy
          have HGY : Hid (Z.grownBy y none) := grown_trans HG2.out hy
          clear hy HC2
          go_wp2_with fail
          go_roundg (n - (k + 1))
          case measure => have := HGK.out; omega
          case rel => exact ⟨k + 1, ek + 1, by omega, rfl, by go_num, by go_num, by have := HEK.out; show ek + 1 = ec + (k + 1); omega, HVY.out, HGY.out⟩
        · have hkd : decide (k < n) = false := decide_eq_false hkn
          have hke : (R i).take k = R i := by rw [List.take_of_length_le (by have := HNN.out; omega)]
          have HVA : Hid (ValAt wr hb 258 4 (fun p => .bool (((R i).map (·.1)).contains (p : Int)))) := by
            have h := hv
            rw [hke] at h
            exact h
          have HEN : Hid (ek = sumL R (i + 1)) := by
            show ek = sumL R i + (R i).length
            have h1 := HEK.out
            have h2 := HEC.out
            have h3 := HNN.out
            omega
          clear hke hv hg HV
          go_wp2_with fail
          go_loopg [12] 258 (fun gk v12 wr => ∃ (t : Nat) (z : Int), t ≤ 258 ∧ gk = 258 - t ∧ v12 = .int .i64 z ∧ Hid (z = (t : Int) - 1) ∧ ValAt wr hb 258 4 (fun p => .bool (((R i).map (·.1)).contains (p : Int))) ∧ Z.grownBy wr none)
          case atStart => exact ⟨0, -1, Nat.zero_le _, rfl, rfl, rfl, HVA.out, HG.out⟩
          case round =>
            clear HVA HG
            obtain ⟨t, z, ht, hgt, rfl, HZT, hv, hg⟩ := hrel
            have HGT : Hid (gk = 258 - t) := hgt
            have HV : Hid (ValAt wr hb 258 4 (fun p => .bool (((R i).map (·.1)).contains (p : Int)))) := hv
            have HG := hidP hg
            obtain ⟨p0, p1, p2⟩ := HBX.out wr hg
            clear hgt
            by_cases ht8 : t < 258
            · have hz1 : z < 257 := by have := HZT.out; omega
              have hz2' : -1 ≤ z := by have := HZT.out; omega
              have hzd : decide (z < 257) = true := decide_eq_true hz1
              by_cases hz0' : 0 ≤ z
              · obtain ⟨q, rfl⟩ := Int.eq_ofNat_of_zero_le hz0'
                have hq258 : q < 258 := by omega
                have hqd : decide ((0 : Int) ≤ (q : Int)) = true := decide_eq_true hz0'
                have hq1 : (q : Int) < (258 : Nat) := by omega
                have c2 := hv.cell q hq258
                cases hmk : ((R i).map (·.1)).contains (q : Int) with
                | true =>
                  rw [hmk] at c2
                  clear hv hg hmk
                  go_wp2_with fail
                  go_roundg (258 - (t + 1))
                  case measure => have := HGT.out; omega
                  case rel => exact ⟨t + 1, (q : Int) + 1, by omega, rfl, by go_num, by have := HZT.out; show (q : Int) + 1 = ((t + 1 : Nat) : Int) - 1; omega, HV.out, HG.out⟩
                | false =>
                  rw [hmk] at c2
                  have hno := HF.out.not i hin (q : Int) (fun e he h2 => by
                    have : ((R i).map (·.1)).contains (q : Int) = true := by
                      rw [← h2]
                      simp
                      exact ⟨_, he⟩
                    rw [hmk] at this; cases this)
                  have HC := hidP (HAT.out wr i (q : Int) hg)
                  rw [hno] at HC
                  clear hv hg hmk hno
                  go_wp2_with fail
                  refine Calls.mono HC.out ?_
                  rintro e y ⟨rfl, hy⟩
                  have HVY : Hid (ValAt y hb 258 4 (fun p => .bool (((R i).map (·.1)).contains (p : Int)))) := ValAt.kept HV.out hy
                  have HGY : Hid (Z.grownBy y none) := grown_trans HG.out hy
                  clear hy HC
                  go_wp2_with fail
                  go_roundg (258 - (t + 1))
                  case measure => have := HGT.out; omega
                  case rel => exact ⟨t + 1, (q : Int) + 1, by omega, rfl, by go_num, by have := HZT.out; show (q : Int) + 1 = ((t + 1 : Nat) : Int) - 1; omega, HVY.out, HGY.out⟩
              · have hqd : decide ((0 : Int) ≤ z) = false := decide_eq_false hz0'
                have hno := HF.out.not i hin z (fun e he h2 => by
                  have := ((HROW.out i hin).2.1 e he).1
                  omega)
                have HC := hidP (HAT.out wr i z hg)
                rw [hno] at HC
                clear hv hg hno
                go_wp2_with fail
                refine Calls.mono HC.out ?_
                rintro e y ⟨rfl, hy⟩
                have HVY : Hid (ValAt y hb 258 4 (fun p => .bool (((R i).map (·.1)).contains (p : Int)))) := ValAt.kept HV.out hy
                have HGY : Hid (Z.grownBy y none) := grown_trans HG.out hy
                clear hy HC
                go_wp2_with fail
                go_roundg (258 - (t + 1))
                case measure => have := HGT.out; omega
                case rel => exact ⟨t + 1, z + 1, by omega, rfl, by go_num, by have := HZT.out; show z + 1 = ((t + 1 : Nat) : Int) - 1; omega, HVY.out, HGY.out⟩
            · have hz1 : ¬ z < 257 := by have := HZT.out; omega
              have hzd : decide (z < 257) = false := decide_eq_false hz1
              clear hv hg
              go_wp2_with fail
              go_roundg (N - (i + 1))
              case measure => have := HGI.out; omega
              case rel => exact ⟨i + 1, ek, by omega, rfl, rfl, by go_num, HEN.out, HG.out⟩
    · have hid : decide (i < N) = false := decide_eq_false hin
      have hie : i = N := by omega
      have HEN : Hid (ec = sumL R N) := by have := HEC.out; rw [hie] at this; exact this
      clear hg hie HEC HGI
      go_wp2_with fail
      go_loopg [15, 16] m (fun gk v15 v16 wr => ∃ k oc : Nat, k ≤ m ∧ gk = m - k ∧ v15 = .int .i64 oc ∧ v16 = .int .i64 k ∧ Hid (oc = cntO (fun q => ow.getD q (-1)) k) ∧ Z.grownBy wr none)
      case atStart => exact ⟨0, 0, Nat.zero_le _, rfl, rfl, rfl, rfl, HG.out⟩
      case round =>
        clear HG
        obtain ⟨k, oc, hk, hgk, rfl, rfl, HOC, hg⟩ := hrel
        have HGK : Hid (gk = m - k) := hgk
        have HG := hidP hg
        obtain ⟨p0, p1, p2⟩ := HBX.out wr hg
        have hoc : oc ≤ 1048576 := by have h1 := HOC.out; have h2 := cntO_le (fun q => ow.getD q (-1)) k; omega
        clear hgk
        by_cases hkm : k < m
        · have hkd : decide (k < m) = true := decide_eq_true hkm
          have hk0 : (0 : Int) ≤ (k : Int) := by omega
          have hk1 : (k : Int) < (m : Int) := by omega
          have hkl : k < ow.length := by rw [← HML.out]; exact hkm
          obtain ⟨ob, oo, rfl, co⟩ := ints_get (HIN.out wr hg).2.2 hkl
          obtain ⟨vb, vo, rfl, cv⟩ := ints_get (HIN.out wr hg).2.1 (k := k) (by rw [HF.out.vl]; exact hkl)
          have hnx : cntO (fun q => ow.getD q (-1)) (k + 1) = oc + if 0 ≤ ow.getD k (-1) then 1 else 0 := by
            show cntO _ k + _ = _
            rw [HOC.out]
          rw [getD_in (-1) 0 hkl] at hnx
          have hneg := HF.out.neg k hkl
          obtain ⟨ov, hov⟩ : ∃ v, v = ow.getD k 0 := ⟨_, rfl⟩
          rw [← hov] at co hnx hneg
          by_cases h0 : 0 ≤ ov
          · have hd : decide (0 ≤ ov) = true := decide_eq_true h0
            have HNX : Hid (oc + 1 = cntO (fun q => ow.getD q (-1)) (k + 1)) := by
              show _ = _
              rw [hnx, if_pos h0]
            clear hg hnx hneg hov h0 cv
            go_wp2_with fail
            go_roundg (m - (k + 1))
            case measure => have := HGK.out; omega
            case rel => exact ⟨k + 1, oc + 1, by omega, rfl, by go_num, by go_num, HNX.out, HG.out⟩
          · have hd : decide (0 ≤ ov) = false := decide_eq_false h0
            have HNX : Hid (oc = cntO (fun q => ow.getD q (-1)) (k + 1)) := by
              show _ = _
              rw [hnx, if_neg h0, Nat.add_zero]
            rw [hneg (by omega)] at cv
            have e0 : ((0 : Int) != 0) = false := rfl
            clear hg hnx hneg hov h0
            go_wp2_with fail
            go_roundg (m - (k + 1))
            case measure => have := HGK.out; omega
            case rel => exact ⟨k + 1, oc, by omega, rfl, rfl, by go_num, HNX.out, HG.out⟩
        · have hkd : decide (k < m) = false := decide_eq_false hkm
          have HOE : Hid (oc = ec) := by
            show oc = ec
            have hke : k = m := by omega
            have h1 := HOC.out
            rw [hke, HML.out, HF.out.cnt] at h1
            rw [h1, HEN.out]
          clear hg p0 p1 hkm HOC HGK
          go_wp2_with fail
          clear p2 hkd
          go_loopg [17] N (fun gk v17 wr => ∃ i : Nat, i ≤ N ∧ gk = N - i ∧ v17 = .int .i64 i ∧ Z.grownBy wr none)
          case atStart => exact ⟨0, Nat.zero_le _, rfl, rfl, HG.out⟩
          case round =>
            clear HG
            obtain ⟨i, hi, hgi, rfl, hg⟩ := hrel
            have HGI : Hid (gk = N - i) := hgi
            have HG := hidP hg
            clear hgi
            by_cases hin : i < N
            · have hid : decide (i < N) = true := decide_eq_true hin
              have hid2 : (i : Int) < (N : Int) := by omega
              have hi0' : (0 : Int) ≤ (i : Int) := by omega
              obtain ⟨B, hB, hBm⟩ := HF.out.bsn i hin
              have hway := HF.out.way i hin
              rw [hB] at hway
              have HWY := hidP hway
              obtain ⟨bb, bo, rfl, cb⟩ := ints_get (HIN.out Z (grown_refl _ _)).1 (k := i) (by rw [HF.out.bl]; exact hin)
              rw [hB] at cb
              have HCB : Hid (∀ X, Z.grownBy X none → X.cell? ⟨bb, bo + i, none⟩ = some (.int .i64 (B : Int))) := fun X hX => hX.cell cb (by simp)
              have hB26 : B ≤ 1048576 := by have := HML.out; omega
              obtain ⟨n, hn⟩ : ∃ v, v = (R i).length := ⟨_, rfl⟩
              have HNN : Hid (n = (R i).length) := hn
              have hn256 : n ≤ 256 := by rw [hn]; exact HLR.out i hin
              obtain ⟨rb, ro, rfl, cr⟩ := rs_get (HRS.out Z (grown_refl _ _)) hin
              have HRI : Hid (∀ X, Z.grownBy X none → X.cell? ⟨rb, ro + i, none⟩ = some (.slice (la i) n (lc i))) := fun X hX => by
                rw [hn]; exact hX.cell cr (by simp)
              have HRO : Hid (∀ X, Z.grownBy X none → ∀ j, j < N → X.cell? ⟨rb, ro + j, none⟩ = some (.slice (la j) (R j).length (lc j))) := fun X hX j hj => by
                obtain ⟨b2, o2, e2, c2⟩ := rs_get (HRS.out X hX) hj
                simp only [Option.some.injEq, Addr.mk.injEq, and_true] at e2
                obtain ⟨rfl, rfl⟩ := e2
                exact c2
              clear hB hBm hway cb hn cr hg
              go_wp2_with fail
              go_loopg [18] B (fun gk v18 wr => ∃ d : Nat, d ≤ B ∧ gk = B - d ∧ v18 = .int .i64 d ∧ Z.grownBy wr none)
              case atStart => exact ⟨0, Nat.zero_le _, rfl, rfl, HG.out⟩
              case round =>
                clear HG
                obtain ⟨d, hd, hgd, rfl, hg⟩ := hrel
                have HGD : Hid (gk = B - d) := hgd
                have HG := hidP hg
                obtain ⟨p0, p1, p2⟩ := HBX.out wr hg
                have cb := HCB.out wr hg
                clear hgd p1
                by_cases hdB : d < B
                · have hdd : decide (d < B) = true := decide_eq_true hdB
                  obtain ⟨k0, hk0n, hat0, o0, ho0, hbef0⟩ := HWY.out d (by omega)
                  have HK0 : Hid (d + ((R i).getD k0 (0, 0)).1.toNat < ow.length ∧ ow.getD (d + ((R i).getD k0 (0, 0)).1.toNat) 0 = o0 ∧ Bef R o0 i) := ⟨hat0, ho0, hbef0⟩
                  have hk0m : k0 < n := by rw [HNN.out]; exact hk0n
                  clear hg hk0n hat0 ho0 hbef0
                  conv in (Code.loop _) => change plF19
                  go_wp2_with fail
                  clear p0 p2 cb
                  refine pl_f19 (m := m) (c2 := c2) (a2 := a2) (R := R) (la := la) (lc := lc) (ow := ow) (k0 := k0) (o0 := o0) hin (by omega) (fun X hX => (HBX.out X hX).2.2) (fun X hX => (HIN.out X hX).2.2) HRO.out (fun X hX => (HRS.out X hX).2 i hin) (HROW.out i hin).2.1 HLR.out HML.out HF.out.own (by rw [← HNN.out]; exact hk0m) HK0.out HG.out ?_
                  intro wz z20 z21 z22 z205 z206 z207 z208 z209 z210 z211 z212 z213 z214 z215 z216 z217 z218 z219 z220 z221 z222 z223 z224 z225 z226 z227 z228 z229 z230 z231 z232 z233 z234 z235 z236 z237 z238 z239 z240 z241 z242 z243 z244 z245 z246 z247 z248 z249 z250 z251 z252 z253 z254 z255 z256 z257 z258 z259 z260 z261 z262 z263 z264 z265 z266 z267 z268 z269 z270 z271 z272 z273 z274 z275 z276 z277 z278 z279 z280 hgz
                  have HGZ := hidP hgz
                  clear hgz
                  go_wp2_with fail
                  go_roundg (B - (d + 1))
                  case measure => have := HGD.out; omega
                  case rel => exact ⟨d + 1, by omega, rfl, by go_num, HGZ.out⟩
                · have hdd : decide (d < B) = false := decide_eq_false hdB
                  clear hg
                  go_wp2_with fail
                  go_roundg (N - (i + 1))
                  case measure => have := HGI.out; omega
                  case rel => exact ⟨i + 1, by omega, rfl, by go_num, HG.out⟩
            · have hid : decide (i < N) = false := decide_eq_false hin
              have e0 : ((oc : Int) == (ec : Int)) = true := by rw [HOE.out]; exact beq_self_eq_true _
              have e0' : (oc == ec) = true := by rw [HOE.out]; exact beq_self_eq_true _
              clear hg
              go_wp2_with fail
              refine Calls.mono (HAW.out _) ?_
              rintro e y ⟨rfl, hy⟩
              have HY : Hid (w.grownBy y none) := grown_trans (grown_trans HWZ.out HG.out) hy
              clear hy
              go_wp2_with fail
              go_ret
              exact ⟨rfl, HY.out⟩

end Go.Proofs.Ytgmljpkenipgjaa.J
