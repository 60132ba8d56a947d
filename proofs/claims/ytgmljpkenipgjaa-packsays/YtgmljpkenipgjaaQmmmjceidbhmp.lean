import Derived.Test.YtgmljpkenipgjaaQjhhgffdnbcol
import Derived.Test.YtgmljpkenipgjaaQgjimidgjjnjb
import Derived.Deep.DeepBigQuietO
import Derived.Test.YtgmljpkenipgjaaQjcihegahgnlb

/-
  pack: PackSays: the actions of a state: a loop as a declaration of its own (printed by tools/pk_says2.py).
-/
namespace Go.Proofs.Ytgmljpkenipgjaa.J
open Go.RowKit Go.Maps Go.Shelf Pk

attribute [local go_sem] Oper.semAt_some

noncomputable def plS2 : Code := ((Try.f7.body.map loopsJ).getD []).getD 1 .skip
theorem some_red {l : List It} {t : Nat} (h : t < l.length) (b : Bool) (hb : b = true ↔ ∃ e ∈ l.take t, e.1 = 2) : ((b || (l.getD t (0, 0)).1 == 2) = true) ↔ ∃ e ∈ l.take (t + 1), e.1 = 2 := by
  rw [Bool.or_eq_true, hb, beq_iff_eq, List.take_succ_eq_append_getElem h]
  have e1 : l.getD t (0, 0) = l[t] := by rw [List.getD_eq_getElem?_getD, List.getElem?_eq_getElem h]; rfl
  rw [e1]
  constructor
  · rintro (⟨e, he, h2⟩ | h2)
    · exact ⟨e, List.mem_append_left _ he, h2⟩
    · exact ⟨_, List.mem_append_right _ (by simp), h2⟩
  · rintro ⟨e, he, h2⟩
    rcases List.mem_append.1 he with he | he
    · exact .inl ⟨e, he, h2⟩
    · simp only [List.mem_singleton] at he
      rw [he] at h2
      exact .inr h2

set_option maxRecDepth 100000 in
set_option maxHeartbeats 16000000 in
theorem pl_s2 {Q0 : Exit → Act → World → Prop} {Z V : World} {db pb eb eo N dc c q ra ro ln lc : Nat} {la : Option Addr} {af : Nat → Option Addr} {cf n : Nat → Nat} {m : Int} {l : List It} {AF : Nat → Int × Int}
    {v0 v2 v4 v8 v9 v10 v11 v12 v13 v14 v15 v16 v17 v18 v19 v20 v21 v22 v23 v24 v25 v26 v27 v28 v29 v30 v31 v32 v33 v34 v35 v36 v37 v38 v39 v40 v41 v42 v43 v44 v45 v46 v47 v48 v49 v50 v51 v52 v53 v54 v55 v56 v57 v58 v59 v60 v61 v62 v63 v64 v65 v66 v67 v68 v69 v70 v71 v72 v73 v74 v75 v76 v77 v78 v79 v80 v81 v82 v83 v84 v85 v86 v87 v88 v89 v90 v91 v92 v93 v94 v95 v96 v97 v98 v99 v100 v101 v102 v103 v104 v105 v106 v107 v108 v109 v110 v111 v112 v113 v114 v115 v116 v117 v118 v119 v120 v121 v122 v123 v124 v125 v126 v127 v128 v129 v130 v131 v132 v133 v134 v135 v136 v137 v138 v139 v140 v141 v142 v143 v144 v145 v146 v147 v148 v149 v150 v151 v152 v153 v154 v155 v156 v157 v158 v159 v160 v161 v162 v163 v164 v165 v166 v167 v168 v169 v170 v171 v172 v173 v174 v175 v176 v177 v178 v179 v180 v181 v182 v183 v184 v185 v186 v187 v188 v189 v190 v191 v192 v193 v194 v195 v196 v197 v198 v199 v200 v201 v202 v203 v204 v205 v206 v207 v208 v209 v210 v211 v212 v213 v214 v215 v216 : Value}
    (hq : q < N) (hln : ln = l.length) (hm : m = -1 ∨ 1 ≤ m) (hl65 : ln ≤ 65)
    (hp : ∀ X, Z.grownBy X none → X.cell? ⟨pb, 0, none⟩ = some (.slice (some ⟨eb, eo, none⟩) N dc) ∧ X.cell? ⟨pb, 1, none⟩ = some (.slice (af 1) (n 1) (cf 1)) ∧ X.cell? ⟨pb, 2, none⟩ = some (.slice (af 2) (n 2) (cf 2)) ∧ X.cell? ⟨pb, 3, none⟩ = some (.slice (af 3) (n 3) (cf 3)) ∧ X.cell? ⟨pb, 4, none⟩ = some (.slice (af 4) (n 4) (cf 4)) ∧ X.cell? ⟨pb, 5, none⟩ = some (.slice (af 5) (n 5) (cf 5)) ∧ X.cell? ⟨pb, 6, none⟩ = some (.slice (af 6) (n 6) (cf 6)) ∧ X.cell? ⟨pb, 7, none⟩ = some (.slice (af 7) (n 7) (cf 7)))
    (hd : ∀ X, Z.grownBy X none → X.cell? ⟨db, 0, none⟩ = some (.slice (some ⟨ra, ro, none⟩) N c) ∧ X.cell? ⟨ra, ro + q, none⟩ = some (.slice la ln lc) ∧ X.cell? ⟨eb, eo + q, none⟩ = some (.int .i64 m))
    (hit : ∀ X, Z.grownBy X none → ItsAt X la l) (hV : Z.grownBy V none)
    (hA : ∀ X (t : Nat), t < ln → Z.grownBy X none → Calls Try.prog 23 #[.agg #[.slice (some ⟨eb, eo, none⟩) N dc, .slice (af 1) (n 1) (cf 1), .slice (af 2) (n 2) (cf 2), .slice (af 3) (n 3) (cf 3), .slice (af 4) (n 4) (cf 4), .slice (af 5) (n 5) (cf 5), .slice (af 6) (n 6) (cf 6), .slice (af 7) (n 7) (cf 7)], .int .i64 (q : Int), .int .i64 (t : Int)] X fun e y => e = .returned (.agg #[.int .i64 (AF t).1, .int .i64 (AF t).2]) ∧ X.grownBy y none)
    (hAF : ∀ t, t < ln → AF t = if (l.getD t (0, 0)).1 ≠ 0 then l.getD t (0, 0) else dfl m)
    (hexit : ∀ (wz : World) (r : Bool) (u2 u7 u8 u9 u54 u55 u56 u57 u58 u59 u60 u61 u62 u63 u64 u65 u66 u67 u68 u69 u70 u71 u72 u73 u74 u75 u76 u77 u78 u79 u80 u81 u82 u83 u84 u85 u86 u87 u88 u89 u90 u91 u92 u93 u94 u95 u96 u97 u98 u99 u100 u101 u102 u103 u104 u105 u106 u107 u108 u109 u110 u111 u112 u113 u114 u115 u116 u117 u118 u119 u120 u121 u122 u123 u124 u125 u126 u127 : Value), (r = true ↔ ∃ e ∈ l, e.1 = 2) → Z.grownBy wz none → Q0 (.exit 2) ⟨List.toArray (v0 :: .pointer (some ⟨db, 0, none⟩) :: u2 :: .pointer (some ⟨pb, 0, none⟩) :: v4 :: .int .i64 (q : Int) :: .bool r :: u7 :: u8 :: u9 :: v10 :: v11 :: v12 :: v13 :: v14 :: v15 :: v16 :: v17 :: v18 :: v19 :: v20 :: v21 :: v22 :: v23 :: v24 :: v25 :: v26 :: v27 :: v28 :: v29 :: v30 :: v31 :: v32 :: v33 :: v34 :: v35 :: v36 :: v37 :: v38 :: v39 :: v40 :: v41 :: v42 :: v43 :: v44 :: v45 :: v46 :: v47 :: v48 :: v49 :: v50 :: v51 :: v52 :: v53 :: u54 :: u55 :: u56 :: u57 :: u58 :: u59 :: u60 :: u61 :: u62 :: u63 :: u64 :: u65 :: u66 :: u67 :: u68 :: u69 :: u70 :: u71 :: u72 :: u73 :: u74 :: u75 :: u76 :: u77 :: u78 :: u79 :: u80 :: u81 :: u82 :: u83 :: u84 :: u85 :: u86 :: u87 :: u88 :: u89 :: u90 :: u91 :: u92 :: u93 :: u94 :: u95 :: u96 :: u97 :: u98 :: u99 :: u100 :: u101 :: u102 :: u103 :: u104 :: u105 :: u106 :: u107 :: u108 :: u109 :: u110 :: u111 :: u112 :: u113 :: u114 :: u115 :: u116 :: u117 :: u118 :: u119 :: u120 :: u121 :: u122 :: u123 :: u124 :: u125 :: u126 :: u127 :: v128 :: v129 :: v130 :: v131 :: v132 :: v133 :: v134 :: v135 :: v136 :: v137 :: v138 :: v139 :: v140 :: v141 :: v142 :: v143 :: v144 :: v145 :: v146 :: v147 :: v148 :: v149 :: v150 :: v151 :: v152 :: v153 :: v154 :: v155 :: v156 :: v157 :: v158 :: v159 :: v160 :: v161 :: v162 :: v163 :: v164 :: v165 :: v166 :: v167 :: v168 :: v169 :: v170 :: v171 :: v172 :: v173 :: v174 :: v175 :: v176 :: v177 :: v178 :: v179 :: v180 :: v181 :: v182 :: v183 :: v184 :: v185 :: v186 :: v187 :: v188 :: v189 :: v190 :: v191 :: v192 :: v193 :: v194 :: v195 :: v196 :: v197 :: v198 :: v199 :: v200 :: v201 :: v202 :: v203 :: v204 :: v205 :: v206 :: v207 :: v208 :: v209 :: v210 :: v211 :: v212 :: v213 :: v214 :: v215 :: v216 :: []), []⟩ wz) :
    Code.wp Try.prog plS2 Q0 ⟨List.toArray (v0 :: .pointer (some ⟨db, 0, none⟩) :: v2 :: .pointer (some ⟨pb, 0, none⟩) :: v4 :: .int .i64 (q : Int) :: .bool false :: .int .i64 0 :: v8 :: v9 :: v10 :: v11 :: v12 :: v13 :: v14 :: v15 :: v16 :: v17 :: v18 :: v19 :: v20 :: v21 :: v22 :: v23 :: v24 :: v25 :: v26 :: v27 :: v28 :: v29 :: v30 :: v31 :: v32 :: v33 :: v34 :: v35 :: v36 :: v37 :: v38 :: v39 :: v40 :: v41 :: v42 :: v43 :: v44 :: v45 :: v46 :: v47 :: v48 :: v49 :: v50 :: v51 :: v52 :: v53 :: v54 :: v55 :: v56 :: v57 :: v58 :: v59 :: v60 :: v61 :: v62 :: v63 :: v64 :: v65 :: v66 :: v67 :: v68 :: v69 :: v70 :: v71 :: v72 :: v73 :: v74 :: v75 :: v76 :: v77 :: v78 :: v79 :: v80 :: v81 :: v82 :: v83 :: v84 :: v85 :: v86 :: v87 :: v88 :: v89 :: v90 :: v91 :: v92 :: v93 :: v94 :: v95 :: v96 :: v97 :: v98 :: v99 :: v100 :: v101 :: v102 :: v103 :: v104 :: v105 :: v106 :: v107 :: v108 :: v109 :: v110 :: v111 :: v112 :: v113 :: v114 :: v115 :: v116 :: v117 :: v118 :: v119 :: v120 :: v121 :: v122 :: v123 :: v124 :: v125 :: v126 :: v127 :: v128 :: v129 :: v130 :: v131 :: v132 :: v133 :: v134 :: v135 :: v136 :: v137 :: v138 :: v139 :: v140 :: v141 :: v142 :: v143 :: v144 :: v145 :: v146 :: v147 :: v148 :: v149 :: v150 :: v151 :: v152 :: v153 :: v154 :: v155 :: v156 :: v157 :: v158 :: v159 :: v160 :: v161 :: v162 :: v163 :: v164 :: v165 :: v166 :: v167 :: v168 :: v169 :: v170 :: v171 :: v172 :: v173 :: v174 :: v175 :: v176 :: v177 :: v178 :: v179 :: v180 :: v181 :: v182 :: v183 :: v184 :: v185 :: v186 :: v187 :: v188 :: v189 :: v190 :: v191 :: v192 :: v193 :: v194 :: v195 :: v196 :: v197 :: v198 :: v199 :: v200 :: v201 :: v202 :: v203 :: v204 :: v205 :: v206 :: v207 :: v208 :: v209 :: v210 :: v211 :: v212 :: v213 :: v214 :: v215 :: v216 :: []), []⟩ V := by
  have mixed : Try.prog.follows .mixedOrders = true := by kernel_rfl
  have hgu := guard_action
  have HP := hidP hp
  have HD := hidP hd
  have HIT := hidP hit
  have HA := hidP hA
  have HAF := hidP hAF
  have HEX := hidP hexit
  have HLN := hidP hln
  have HV := hidP hV
  have hq0 : (0 : Int) ≤ (q : Int) := by omega
  have hq1 : (q : Int) < (N : Int) := by omega
  clear hp hd hit hA hAF hexit hln hV
  conv => arg 2; whnf
  go_loopg [6, 7] ln (fun gk v6 v7 wr => ∃ (t : Nat) (sm : Bool), t ≤ ln ∧ gk = ln - t ∧ v6 = .bool sm ∧ v7 = .int .i64 t ∧ Hid (sm = true ↔ ∃ e ∈ l.take t, e.1 = 2) ∧ Z.grownBy wr none)
  case atStart => exact ⟨0, false, Nat.zero_le _, rfl, rfl, rfl, by show _ ↔ _; simp, HV.out⟩
  case round =>
    clear HV
    obtain ⟨t, sm, ht, hgt, rfl, rfl, HSM, hg⟩ := hrel
    have HGT : Hid (gk = ln - t) := hgt
    have HG := hidP hg
    obtain ⟨c0, c1, c2⟩ := HD.out wr hg
    clear hgt c2
    by_cases htn : t < ln
    case neg =>
      have htd : decide (t < ln) = false := decide_eq_false htn
      have htk : l.take t = l := List.take_of_length_le (by have := HLN.out; omega)
      rw [htk] at HSM
      clear hg htk
      go_wp2_with fail
      exact HEX.out _ sm _ _ _ _ _ _ _ _ _ _ _ _ _ _ _ _ _ _ _ _ _ _ _ _ _ _ _ _ _ _ _ _ _ _ _ _ _ _ _ _ _ _ _ _ _ _ _ _ _ _ _ _ _ _ _ _ _ _ _ _ _ _ _ _ _ _ _ _ _ _ _ _ _ _ _ _ _ _ HSM.out HG.out
    have htd : decide (t < ln) = true := decide_eq_true htn
    have ht0 : (0 : Int) ≤ (t : Int) := by omega
    have ht1 : (t : Int) < (ln : Int) := by omega
    have htl : t < l.length := by have := HLN.out; omega
    obtain ⟨lb, lo, rfl, t0, t1⟩ := its_get (HIT.out wr hg) htl
    have HSN := hidP (some_red htl sm HSM.out)
    have hres := HAF.out t htn
    obtain ⟨e, he⟩ : ∃ e, e = l.getD t (0, 0) := ⟨_, rfl⟩
    rw [← he] at t0 t1 hres HSN
    obtain ⟨kind, tv⟩ := e
    simp only [] at t0 t1 hres HSN
    clear he hg htl
    by_cases k0 : kind = 0
    · subst k0
      by_cases m0 : 0 < m
      · have md1 : decide (m < 0) = false := decide_eq_false (by omega)
        have em : (m != m) = false := bne_self_eq_false _
        cases sm with
        | true =>
          have hE2 : ∀ Y : World, (binOp .neq 52 (.agg #[.int .i64 2, .int .i64 m]) (.agg #[.int .i64 0, .int .i64 0])).run Try.prog Y = .ok (.bool true) Y := fun Y => by have h := neq_action 2 m 0 0 Y; simpa using h
          have HSR : Hid (true = true ↔ ∃ e ∈ l.take (t + 1), e.1 = 2) := by have h := HSN.out; have e9 : (true || (0 : Int) == 2) = true := (by rfl); rw [e9] at h; exact h
          have HRES : Hid (AF t = (2, m)) := by show _ = _; rw [hres]; rw [if_neg (by simp)]; unfold dfl; rw [if_pos m0]
          have HC := fun (Y : World) (hY : Z.grownBy Y none) => HA.out Y t htn hY
          rw [HRES.out] at HC
          have HCC := hidP (HC _ (grown_trans HG.out (World.grownBy_alloc wr (.cells #[.int .i64 0, .int .i64 tv] 52) none)))
          have hE1 : ∀ Y : World, (binOp .neq 52 (.agg #[.int .i64 0, .int .i64 tv]) (.agg #[.int .i64 0, .int .i64 tv])).run Try.prog Y = .ok (.bool false) Y := fun Y => by have h := neq_action 0 tv 0 tv Y; simpa using h
          obtain ⟨p0, p1, p2, p3, p4, p5, p6, p7⟩ := HP.out _ (grown_trans HG.out (World.grownBy_alloc wr (.cells #[.int .i64 0, .int .i64 tv] 52) none))
          clear hres HC m0
          go_wp2_with fail
          refine Calls.mono HCC.out ?_
          rintro e y ⟨rfl, hy⟩
          have HY : Hid (Z.grownBy y none) := grown_trans (grown_trans HG.out (World.grownBy_alloc _ _ none)) hy
          have hk8 := box_kept (box_kept (heap_alloc_last wr (.cells #[.int .i64 0, .int .i64 tv] 52)) hy) (World.grownBy_alloc y (.cells #[.int .i64 2, .int .i64 m] 52) none)
          have x0 : (y.alloc (.cells #[.int .i64 2, .int .i64 m] 52)).cell? ⟨wr.heap.size, 0, none⟩ = some (.int .i64 0) := by rw [cell_of_row _ _ _ _ _ _ hk8]; rfl
          have x1 : (y.alloc (.cells #[.int .i64 2, .int .i64 m] 52)).cell? ⟨wr.heap.size, 1, none⟩ = some (.int .i64 tv) := by rw [cell_of_row _ _ _ _ _ _ hk8]; rfl
          have hdd := HD.out _ (grown_trans HY.out (World.grownBy_alloc y (.cells #[.int .i64 2, .int .i64 m] 52) none))
          have hpp := (HP.out _ (grown_trans HY.out (World.grownBy_alloc y (.cells #[.int .i64 2, .int .i64 m] 52) none))).1
          have hdm := hdd.2.2
          have HW := hidP (grown_trans HY.out (World.grownBy_alloc y (.cells #[.int .i64 2, .int .i64 m] 52) none))
          clear hy HCC hk8 hdd c0 c1 t0 t1 p0 p1 p2 p3 p4 p5 p6 p7
          go_wp2_with fail
          go_big_quiet_o (fail)
          go_wp2_with fail
          go_big_quiet_o (fail)
          go_wp2_with fail
          go_roundg (ln - (t + 1))
          case measure => have := HGT.out; omega
          case rel => exact ⟨t + 1, true, by omega, rfl, rfl, by go_num, (by have h := HSR.out; show _ ↔ _; simpa using h), grown_trans HW.out (by first | exact grown_drewN _ _ | exact grown_trans (grown_drewN _ _) (grown_drewN _ _))⟩
        | false =>
          have hE2 : ∀ Y : World, (binOp .neq 52 (.agg #[.int .i64 2, .int .i64 m]) (.agg #[.int .i64 0, .int .i64 0])).run Try.prog Y = .ok (.bool true) Y := fun Y => by have h := neq_action 2 m 0 0 Y; simpa using h
          have HSR : Hid (false = true ↔ ∃ e ∈ l.take (t + 1), e.1 = 2) := by have h := HSN.out; have e9 : (false || (0 : Int) == 2) = false := (by rfl); rw [e9] at h; exact h
          have HRES : Hid (AF t = (2, m)) := by show _ = _; rw [hres]; rw [if_neg (by simp)]; unfold dfl; rw [if_pos m0]
          have HC := fun (Y : World) (hY : Z.grownBy Y none) => HA.out Y t htn hY
          rw [HRES.out] at HC
          have HCC := hidP (HC _ (grown_trans HG.out (World.grownBy_alloc wr (.cells #[.int .i64 0, .int .i64 tv] 52) none)))
          have hE1 : ∀ Y : World, (binOp .neq 52 (.agg #[.int .i64 0, .int .i64 tv]) (.agg #[.int .i64 0, .int .i64 tv])).run Try.prog Y = .ok (.bool false) Y := fun Y => by have h := neq_action 0 tv 0 tv Y; simpa using h
          obtain ⟨p0, p1, p2, p3, p4, p5, p6, p7⟩ := HP.out _ (grown_trans HG.out (World.grownBy_alloc wr (.cells #[.int .i64 0, .int .i64 tv] 52) none))
          clear hres HC m0
          go_wp2_with fail
          refine Calls.mono HCC.out ?_
          rintro e y ⟨rfl, hy⟩
          have HY : Hid (Z.grownBy y none) := grown_trans (grown_trans HG.out (World.grownBy_alloc _ _ none)) hy
          have hk8 := box_kept (box_kept (heap_alloc_last wr (.cells #[.int .i64 0, .int .i64 tv] 52)) hy) (World.grownBy_alloc y (.cells #[.int .i64 2, .int .i64 m] 52) none)
          have x0 : (y.alloc (.cells #[.int .i64 2, .int .i64 m] 52)).cell? ⟨wr.heap.size, 0, none⟩ = some (.int .i64 0) := by rw [cell_of_row _ _ _ _ _ _ hk8]; rfl
          have x1 : (y.alloc (.cells #[.int .i64 2, .int .i64 m] 52)).cell? ⟨wr.heap.size, 1, none⟩ = some (.int .i64 tv) := by rw [cell_of_row _ _ _ _ _ _ hk8]; rfl
          have hdd := HD.out _ (grown_trans HY.out (World.grownBy_alloc y (.cells #[.int .i64 2, .int .i64 m] 52) none))
          have hpp := (HP.out _ (grown_trans HY.out (World.grownBy_alloc y (.cells #[.int .i64 2, .int .i64 m] 52) none))).1
          have hdm := hdd.2.2
          have HW := hidP (grown_trans HY.out (World.grownBy_alloc y (.cells #[.int .i64 2, .int .i64 m] 52) none))
          clear hy HCC hk8 hdd c0 c1 t0 t1 p0 p1 p2 p3 p4 p5 p6 p7
          go_wp2_with fail
          go_big_quiet_o (fail)
          go_wp2_with fail
          go_big_quiet_o (fail)
          go_wp2_with fail
          go_roundg (ln - (t + 1))
          case measure => have := HGT.out; omega
          case rel => exact ⟨t + 1, false, by omega, rfl, rfl, by go_num, (by have h := HSR.out; show _ ↔ _; simpa using h), grown_trans HW.out (by first | exact grown_drewN _ _ | exact grown_trans (grown_drewN _ _) (grown_drewN _ _))⟩
      · have md1 : decide (m < 0) = true := decide_eq_true (by omega)
        cases sm with
        | true =>
          have hE2 : ∀ Y : World, (binOp .neq 52 (.agg #[.int .i64 0, .int .i64 0]) (.agg #[.int .i64 0, .int .i64 0])).run Try.prog Y = .ok (.bool false) Y := fun Y => by have h := neq_action 0 0 0 0 Y; simpa using h
          have HSR : Hid (true = true ↔ ∃ e ∈ l.take (t + 1), e.1 = 2) := by have h := HSN.out; have e9 : (true || (0 : Int) == 2) = true := (by rfl); rw [e9] at h; exact h
          have HRES : Hid (AF t = (0, 0)) := by show _ = _; rw [hres]; rw [if_neg (by simp)]; unfold dfl; rw [if_neg m0]
          have HC := fun (Y : World) (hY : Z.grownBy Y none) => HA.out Y t htn hY
          rw [HRES.out] at HC
          have HCC := hidP (HC _ (grown_trans HG.out (World.grownBy_alloc wr (.cells #[.int .i64 0, .int .i64 tv] 52) none)))
          have hE1 : ∀ Y : World, (binOp .neq 52 (.agg #[.int .i64 0, .int .i64 tv]) (.agg #[.int .i64 0, .int .i64 tv])).run Try.prog Y = .ok (.bool false) Y := fun Y => by have h := neq_action 0 tv 0 tv Y; simpa using h
          obtain ⟨p0, p1, p2, p3, p4, p5, p6, p7⟩ := HP.out _ (grown_trans HG.out (World.grownBy_alloc wr (.cells #[.int .i64 0, .int .i64 tv] 52) none))
          clear hres HC m0
          go_wp2_with fail
          refine Calls.mono HCC.out ?_
          rintro e y ⟨rfl, hy⟩
          have HY : Hid (Z.grownBy y none) := grown_trans (grown_trans HG.out (World.grownBy_alloc _ _ none)) hy
          have hk8 := box_kept (box_kept (heap_alloc_last wr (.cells #[.int .i64 0, .int .i64 tv] 52)) hy) (World.grownBy_alloc y (.cells #[.int .i64 0, .int .i64 0] 52) none)
          have x0 : (y.alloc (.cells #[.int .i64 0, .int .i64 0] 52)).cell? ⟨wr.heap.size, 0, none⟩ = some (.int .i64 0) := by rw [cell_of_row _ _ _ _ _ _ hk8]; rfl
          have x1 : (y.alloc (.cells #[.int .i64 0, .int .i64 0] 52)).cell? ⟨wr.heap.size, 1, none⟩ = some (.int .i64 tv) := by rw [cell_of_row _ _ _ _ _ _ hk8]; rfl
          have hdd := HD.out _ (grown_trans HY.out (World.grownBy_alloc y (.cells #[.int .i64 0, .int .i64 0] 52) none))
          have hpp := (HP.out _ (grown_trans HY.out (World.grownBy_alloc y (.cells #[.int .i64 0, .int .i64 0] 52) none))).1
          have hdm := hdd.2.2
          have HW := hidP (grown_trans HY.out (World.grownBy_alloc y (.cells #[.int .i64 0, .int .i64 0] 52) none))
          clear hy HCC hk8 hdd c0 c1 t0 t1 p0 p1 p2 p3 p4 p5 p6 p7
          go_wp2_with fail
          go_big_quiet_o (fail)
          go_wp2_with fail
          go_big_quiet_o (fail)
          go_wp2_with fail
          go_roundg (ln - (t + 1))
          case measure => have := HGT.out; omega
          case rel => exact ⟨t + 1, true, by omega, rfl, rfl, by go_num, (by have h := HSR.out; show _ ↔ _; simpa using h), grown_trans HW.out (by first | exact grown_drewN _ _ | exact grown_trans (grown_drewN _ _) (grown_drewN _ _))⟩
        | false =>
          have hE2 : ∀ Y : World, (binOp .neq 52 (.agg #[.int .i64 0, .int .i64 0]) (.agg #[.int .i64 0, .int .i64 0])).run Try.prog Y = .ok (.bool false) Y := fun Y => by have h := neq_action 0 0 0 0 Y; simpa using h
          have HSR : Hid (false = true ↔ ∃ e ∈ l.take (t + 1), e.1 = 2) := by have h := HSN.out; have e9 : (false || (0 : Int) == 2) = false := (by rfl); rw [e9] at h; exact h
          have HRES : Hid (AF t = (0, 0)) := by show _ = _; rw [hres]; rw [if_neg (by simp)]; unfold dfl; rw [if_neg m0]
          have HC := fun (Y : World) (hY : Z.grownBy Y none) => HA.out Y t htn hY
          rw [HRES.out] at HC
          have HCC := hidP (HC _ (grown_trans HG.out (World.grownBy_alloc wr (.cells #[.int .i64 0, .int .i64 tv] 52) none)))
          have hE1 : ∀ Y : World, (binOp .neq 52 (.agg #[.int .i64 0, .int .i64 tv]) (.agg #[.int .i64 0, .int .i64 tv])).run Try.prog Y = .ok (.bool false) Y := fun Y => by have h := neq_action 0 tv 0 tv Y; simpa using h
          obtain ⟨p0, p1, p2, p3, p4, p5, p6, p7⟩ := HP.out _ (grown_trans HG.out (World.grownBy_alloc wr (.cells #[.int .i64 0, .int .i64 tv] 52) none))
          clear hres HC m0
          go_wp2_with fail
          refine Calls.mono HCC.out ?_
          rintro e y ⟨rfl, hy⟩
          have HY : Hid (Z.grownBy y none) := grown_trans (grown_trans HG.out (World.grownBy_alloc _ _ none)) hy
          have hk8 := box_kept (box_kept (heap_alloc_last wr (.cells #[.int .i64 0, .int .i64 tv] 52)) hy) (World.grownBy_alloc y (.cells #[.int .i64 0, .int .i64 0] 52) none)
          have x0 : (y.alloc (.cells #[.int .i64 0, .int .i64 0] 52)).cell? ⟨wr.heap.size, 0, none⟩ = some (.int .i64 0) := by rw [cell_of_row _ _ _ _ _ _ hk8]; rfl
          have x1 : (y.alloc (.cells #[.int .i64 0, .int .i64 0] 52)).cell? ⟨wr.heap.size, 1, none⟩ = some (.int .i64 tv) := by rw [cell_of_row _ _ _ _ _ _ hk8]; rfl
          have hdd := HD.out _ (grown_trans HY.out (World.grownBy_alloc y (.cells #[.int .i64 0, .int .i64 0] 52) none))
          have hpp := (HP.out _ (grown_trans HY.out (World.grownBy_alloc y (.cells #[.int .i64 0, .int .i64 0] 52) none))).1
          have hdm := hdd.2.2
          have HW := hidP (grown_trans HY.out (World.grownBy_alloc y (.cells #[.int .i64 0, .int .i64 0] 52) none))
          clear hy HCC hk8 hdd c0 c1 t0 t1 p0 p1 p2 p3 p4 p5 p6 p7
          go_wp2_with fail
          go_big_quiet_o (fail)
          go_wp2_with fail
          go_big_quiet_o (fail)
          go_wp2_with fail
          go_roundg (ln - (t + 1))
          case measure => have := HGT.out; omega
          case rel => exact ⟨t + 1, false, by omega, rfl, rfl, by go_num, (by have h := HSR.out; show _ ↔ _; simpa using h), grown_trans HW.out (by first | exact grown_drewN _ _ | exact grown_trans (grown_drewN _ _) (grown_drewN _ _))⟩
    · by_cases k2 : kind = 2
      · subst k2
        cases sm with
        | true =>
          have HSR : Hid (true = true ↔ ∃ e ∈ l.take (t + 1), e.1 = 2) := by have h := HSN.out; have e9 : (true || (2 : Int) == 2) = true := (by rfl); rw [e9] at h; exact h
          have HRES : Hid (AF t = (2, tv)) := by show _ = _; rw [hres]; rw [if_pos (by decide)]
          have HC := fun (Y : World) (hY : Z.grownBy Y none) => HA.out Y t htn hY
          rw [HRES.out] at HC
          have HCC := hidP (HC _ (grown_trans HG.out (World.grownBy_alloc wr (.cells #[.int .i64 2, .int .i64 tv] 52) none)))
          have hE1 : ∀ Y : World, (binOp .neq 52 (.agg #[.int .i64 2, .int .i64 tv]) (.agg #[.int .i64 2, .int .i64 tv])).run Try.prog Y = .ok (.bool false) Y := fun Y => by have h := neq_action 2 tv 2 tv Y; simpa using h
          obtain ⟨p0, p1, p2, p3, p4, p5, p6, p7⟩ := HP.out _ (grown_trans HG.out (World.grownBy_alloc wr (.cells #[.int .i64 2, .int .i64 tv] 52) none))
          clear hres HC k0
          go_wp2_with fail
          refine Calls.mono HCC.out ?_
          rintro e y ⟨rfl, hy⟩
          have HY : Hid (Z.grownBy y none) := grown_trans (grown_trans HG.out (World.grownBy_alloc _ _ none)) hy
          have hk8 := box_kept (box_kept (heap_alloc_last wr (.cells #[.int .i64 2, .int .i64 tv] 52)) hy) (World.grownBy_alloc y (.cells #[.int .i64 2, .int .i64 tv] 52) none)
          have x0 : (y.alloc (.cells #[.int .i64 2, .int .i64 tv] 52)).cell? ⟨wr.heap.size, 0, none⟩ = some (.int .i64 2) := by rw [cell_of_row _ _ _ _ _ _ hk8]; rfl
          have x1 : (y.alloc (.cells #[.int .i64 2, .int .i64 tv] 52)).cell? ⟨wr.heap.size, 1, none⟩ = some (.int .i64 tv) := by rw [cell_of_row _ _ _ _ _ _ hk8]; rfl
          have hdd := HD.out _ (grown_trans HY.out (World.grownBy_alloc y (.cells #[.int .i64 2, .int .i64 tv] 52) none))
          have hpp := (HP.out _ (grown_trans HY.out (World.grownBy_alloc y (.cells #[.int .i64 2, .int .i64 tv] 52) none))).1
          have hdm := hdd.2.2
          have HW := hidP (grown_trans HY.out (World.grownBy_alloc y (.cells #[.int .i64 2, .int .i64 tv] 52) none))
          clear hy HCC hk8 hdd c0 c1 t0 t1 p0 p1 p2 p3 p4 p5 p6 p7
          go_wp2_with fail
          go_big_quiet_o (fail)
          go_wp2_with fail
          go_big_quiet_o (fail)
          go_wp2_with fail
          go_roundg (ln - (t + 1))
          case measure => have := HGT.out; omega
          case rel => exact ⟨t + 1, true, by omega, rfl, rfl, by go_num, (by have h := HSR.out; show _ ↔ _; simpa using h), grown_trans HW.out (by first | exact grown_drewN _ _ | exact grown_trans (grown_drewN _ _) (grown_drewN _ _))⟩
        | false =>
          have HSR : Hid (true = true ↔ ∃ e ∈ l.take (t + 1), e.1 = 2) := by have h := HSN.out; have e9 : (false || (2 : Int) == 2) = true := (by rfl); rw [e9] at h; exact h
          have HRES : Hid (AF t = (2, tv)) := by show _ = _; rw [hres]; rw [if_pos (by decide)]
          have HC := fun (Y : World) (hY : Z.grownBy Y none) => HA.out Y t htn hY
          rw [HRES.out] at HC
          have HCC := hidP (HC _ (grown_trans HG.out (World.grownBy_alloc wr (.cells #[.int .i64 2, .int .i64 tv] 52) none)))
          have hE1 : ∀ Y : World, (binOp .neq 52 (.agg #[.int .i64 2, .int .i64 tv]) (.agg #[.int .i64 2, .int .i64 tv])).run Try.prog Y = .ok (.bool false) Y := fun Y => by have h := neq_action 2 tv 2 tv Y; simpa using h
          obtain ⟨p0, p1, p2, p3, p4, p5, p6, p7⟩ := HP.out _ (grown_trans HG.out (World.grownBy_alloc wr (.cells #[.int .i64 2, .int .i64 tv] 52) none))
          clear hres HC k0
          go_wp2_with fail
          refine Calls.mono HCC.out ?_
          rintro e y ⟨rfl, hy⟩
          have HY : Hid (Z.grownBy y none) := grown_trans (grown_trans HG.out (World.grownBy_alloc _ _ none)) hy
          have hk8 := box_kept (box_kept (heap_alloc_last wr (.cells #[.int .i64 2, .int .i64 tv] 52)) hy) (World.grownBy_alloc y (.cells #[.int .i64 2, .int .i64 tv] 52) none)
          have x0 : (y.alloc (.cells #[.int .i64 2, .int .i64 tv] 52)).cell? ⟨wr.heap.size, 0, none⟩ = some (.int .i64 2) := by rw [cell_of_row _ _ _ _ _ _ hk8]; rfl
          have x1 : (y.alloc (.cells #[.int .i64 2, .int .i64 tv] 52)).cell? ⟨wr.heap.size, 1, none⟩ = some (.int .i64 tv) := by rw [cell_of_row _ _ _ _ _ _ hk8]; rfl
          have hdd := HD.out _ (grown_trans HY.out (World.grownBy_alloc y (.cells #[.int .i64 2, .int .i64 tv] 52) none))
          have hpp := (HP.out _ (grown_trans HY.out (World.grownBy_alloc y (.cells #[.int .i64 2, .int .i64 tv] 52) none))).1
          have hdm := hdd.2.2
          have HW := hidP (grown_trans HY.out (World.grownBy_alloc y (.cells #[.int .i64 2, .int .i64 tv] 52) none))
          clear hy HCC hk8 hdd c0 c1 t0 t1 p0 p1 p2 p3 p4 p5 p6 p7
          go_wp2_with fail
          go_big_quiet_o (fail)
          go_wp2_with fail
          go_big_quiet_o (fail)
          go_wp2_with fail
          go_roundg (ln - (t + 1))
          case measure => have := HGT.out; omega
          case rel => exact ⟨t + 1, true, by omega, rfl, rfl, by go_num, (by have h := HSR.out; show _ ↔ _; simpa using h), grown_trans HW.out (by first | exact grown_drewN _ _ | exact grown_trans (grown_drewN _ _) (grown_drewN _ _))⟩
      · have f0 : (kind == 0) = false := beq_eq_false_iff_ne.2 k0
        have f0' : (kind != 0) = true := by rw [bne_iff_ne]; exact k0
        have f2 : (kind == 2) = false := beq_eq_false_iff_ne.2 k2
        cases sm with
        | true =>
          have HSR : Hid (true = true ↔ ∃ e ∈ l.take (t + 1), e.1 = 2) := by have h := HSN.out; have e9 : (true || kind == 2) = true := (by rfl); rw [e9] at h; exact h
          have HRES : Hid (AF t = (kind, tv)) := by show _ = _; rw [hres]; rw [if_pos k0]
          have HC := fun (Y : World) (hY : Z.grownBy Y none) => HA.out Y t htn hY
          rw [HRES.out] at HC
          have HCC := hidP (HC _ (grown_trans HG.out (World.grownBy_alloc wr (.cells #[.int .i64 kind, .int .i64 tv] 52) none)))
          have hE1 : ∀ Y : World, (binOp .neq 52 (.agg #[.int .i64 kind, .int .i64 tv]) (.agg #[.int .i64 kind, .int .i64 tv])).run Try.prog Y = .ok (.bool false) Y := fun Y => by have h := neq_action kind tv kind tv Y; simpa using h
          obtain ⟨p0, p1, p2, p3, p4, p5, p6, p7⟩ := HP.out _ (grown_trans HG.out (World.grownBy_alloc wr (.cells #[.int .i64 kind, .int .i64 tv] 52) none))
          clear hres HC k0 k2
          go_wp2_with fail
          refine Calls.mono HCC.out ?_
          rintro e y ⟨rfl, hy⟩
          have HY : Hid (Z.grownBy y none) := grown_trans (grown_trans HG.out (World.grownBy_alloc _ _ none)) hy
          have hk8 := box_kept (box_kept (heap_alloc_last wr (.cells #[.int .i64 kind, .int .i64 tv] 52)) hy) (World.grownBy_alloc y (.cells #[.int .i64 kind, .int .i64 tv] 52) none)
          have x0 : (y.alloc (.cells #[.int .i64 kind, .int .i64 tv] 52)).cell? ⟨wr.heap.size, 0, none⟩ = some (.int .i64 kind) := by rw [cell_of_row _ _ _ _ _ _ hk8]; rfl
          have x1 : (y.alloc (.cells #[.int .i64 kind, .int .i64 tv] 52)).cell? ⟨wr.heap.size, 1, none⟩ = some (.int .i64 tv) := by rw [cell_of_row _ _ _ _ _ _ hk8]; rfl
          have hdd := HD.out _ (grown_trans HY.out (World.grownBy_alloc y (.cells #[.int .i64 kind, .int .i64 tv] 52) none))
          have hpp := (HP.out _ (grown_trans HY.out (World.grownBy_alloc y (.cells #[.int .i64 kind, .int .i64 tv] 52) none))).1
          have hdm := hdd.2.2
          have HW := hidP (grown_trans HY.out (World.grownBy_alloc y (.cells #[.int .i64 kind, .int .i64 tv] 52) none))
          clear hy HCC hk8 hdd c0 c1 t0 t1 p0 p1 p2 p3 p4 p5 p6 p7
          go_wp2_with fail
          go_big_quiet_o (fail)
          go_wp2_with fail
          go_big_quiet_o (fail)
          go_wp2_with fail
          go_roundg (ln - (t + 1))
          case measure => have := HGT.out; omega
          case rel => exact ⟨t + 1, true, by omega, rfl, rfl, by go_num, (by have h := HSR.out; show _ ↔ _; simpa using h), grown_trans HW.out (by first | exact grown_drewN _ _ | exact grown_trans (grown_drewN _ _) (grown_drewN _ _))⟩
        | false =>
          have HSR : Hid (false = true ↔ ∃ e ∈ l.take (t + 1), e.1 = 2) := by have h := HSN.out; have e9 : (false || kind == 2) = false := (by rw [Bool.false_or]; exact beq_eq_false_iff_ne.2 k2); rw [e9] at h; exact h
          have HRES : Hid (AF t = (kind, tv)) := by show _ = _; rw [hres]; rw [if_pos k0]
          have HC := fun (Y : World) (hY : Z.grownBy Y none) => HA.out Y t htn hY
          rw [HRES.out] at HC
          have HCC := hidP (HC _ (grown_trans HG.out (World.grownBy_alloc wr (.cells #[.int .i64 kind, .int .i64 tv] 52) none)))
          have hE1 : ∀ Y : World, (binOp .neq 52 (.agg #[.int .i64 kind, .int .i64 tv]) (.agg #[.int .i64 kind, .int .i64 tv])).run Try.prog Y = .ok (.bool false) Y := fun Y => by have h := neq_action kind tv kind tv Y; simpa using h
          obtain ⟨p0, p1, p2, p3, p4, p5, p6, p7⟩ := HP.out _ (grown_trans HG.out (World.grownBy_alloc wr (.cells #[.int .i64 kind, .int .i64 tv] 52) none))
          clear hres HC k0 k2
          go_wp2_with fail
          refine Calls.mono HCC.out ?_
          rintro e y ⟨rfl, hy⟩
          have HY : Hid (Z.grownBy y none) := grown_trans (grown_trans HG.out (World.grownBy_alloc _ _ none)) hy
          have hk8 := box_kept (box_kept (heap_alloc_last wr (.cells #[.int .i64 kind, .int .i64 tv] 52)) hy) (World.grownBy_alloc y (.cells #[.int .i64 kind, .int .i64 tv] 52) none)
          have x0 : (y.alloc (.cells #[.int .i64 kind, .int .i64 tv] 52)).cell? ⟨wr.heap.size, 0, none⟩ = some (.int .i64 kind) := by rw [cell_of_row _ _ _ _ _ _ hk8]; rfl
          have x1 : (y.alloc (.cells #[.int .i64 kind, .int .i64 tv] 52)).cell? ⟨wr.heap.size, 1, none⟩ = some (.int .i64 tv) := by rw [cell_of_row _ _ _ _ _ _ hk8]; rfl
          have hdd := HD.out _ (grown_trans HY.out (World.grownBy_alloc y (.cells #[.int .i64 kind, .int .i64 tv] 52) none))
          have hpp := (HP.out _ (grown_trans HY.out (World.grownBy_alloc y (.cells #[.int .i64 kind, .int .i64 tv] 52) none))).1
          have hdm := hdd.2.2
          have HW := hidP (grown_trans HY.out (World.grownBy_alloc y (.cells #[.int .i64 kind, .int .i64 tv] 52) none))
          clear hy HCC hk8 hdd c0 c1 t0 t1 p0 p1 p2 p3 p4 p5 p6 p7
          go_wp2_with fail
          go_big_quiet_o (fail)
          go_wp2_with fail
          go_big_quiet_o (fail)
          go_wp2_with fail
          go_roundg (ln - (t + 1))
          case measure => have := HGT.out; omega
          case rel => exact ⟨t + 1, false, by omega, rfl, rfl, by go_num, (by have h := HSR.out; show _ ↔ _; simpa using h), grown_trans HW.out (by first | exact grown_drewN _ _ | exact grown_trans (grown_drewN _ _) (grown_drewN _ _))⟩

end Go.Proofs.Ytgmljpkenipgjaa.J

/-
  pack: the law PackSays, walked (printed by tools/pk_sayc.py).
-/
namespace Go.Proofs.Ytgmljpkenipgjaa.J
open Go.RowKit Go.Maps Go.Shelf Pk

attribute [local go_sem] Oper.semAt_some

set_option maxRecDepth 100000 in
set_option maxHeartbeats 16000000 in
theorem says_core (a g : Option Addr) (N M c d : Nat) (R : Nat → List It) (Q : Nat → List Int) (la lg : Nat → Option Addr) (lc ld : Nat → Nat) (w : World) (hR : RsAt w a N R la lc) (hQ : RiAt w g M Q lg ld) (hnR : ∀ i, i < N → la i = none → (R i).length = 0 ∧ lc i = 0) (hnQ : ∀ i, i < M → lg i = none → (Q i).length = 0 ∧ ld i = 0) (hN : N ≤ 5864062014634) (hM : M ≤ 5864062014634) (hl : ∀ i, i < N → (R i).length ≤ 8796093021952) (hl2 : ∀ i, i < M → (Q i).length ≤ 17592186044416) :
    Calls Try.prog 7 #[.agg #[.slice a N c, .slice g M d]] w fun e y => e = .returned (.bool true) ∧ w.grownBy y none := by
  have mixed : Try.prog.follows .mixedOrders = true := by kernel_rfl
  have hgu := guard_action
  have hlw : ∀ i, i < N → (R i).length ≤ 17592186044416 := fun i hi => by have := hl i hi; omega
  have HAW := hidP aw_ok
  obtain ⟨r, hr⟩ : ∃ r : Bool, r = true ↔ MayT N M R Q := by
    by_cases h : MayT N M R Q
    · exact ⟨true, by simp [h]⟩
    · exact ⟨false, by simp [h]⟩
  have HRR := hidP hr
  obtain ⟨L, hL⟩ : ∃ L, L = pL N M R Q := ⟨_, rfl⟩
  have HLE : Hid (L = pL N M R Q) := hL
  obtain ⟨ev, hev⟩ : ∃ v, v = pE N M R Q := ⟨_, rfl⟩
  have HEV : Hid (ev = pE N M R Q) := hev
  have HLL : Hid (∀ j, j < 8 → (L j).length ≤ 1048576) := by rw [hL]; exact pL_len N M R Q
  obtain ⟨n, hn⟩ : ∃ n : Nat → Nat, n = fun j => (L j).length := ⟨_, rfl⟩
  have HN : Hid (∀ j, (L j).length = n j) := fun j => by rw [hn]
  have HPK : Hid (∀ X ka kc ga gc ua uc va vc, RsAt X ka N R ua uc → RiAt X ga M Q va vc → Calls Try.prog 19 #[.agg #[.slice ka N kc, .slice ga M gc]] X fun e y => ∃ (af : Nat → Option Addr) (cf : Nat → Nat) (m1 b2 m2 : Nat), e = .returned (.tuple #[.agg #[.slice (af 0) (n 0) (cf 0), .slice (af 1) (n 1) (cf 1), .slice (af 2) (n 2) (cf 2), .slice (af 3) (n 3) (cf 3), .slice (af 4) (n 4) (cf 4), .slice (af 5) (n 5) (cf 5), .slice (af 6) (n 6) (cf 6), .slice (af 7) (n 7) (cf 7)], .int .i64 ev]) ∧ PmAt y X.heap.size y.heap.size L af cf m1 b2 m2 ∧ X.grownBy y none) := fun X ka kc ga gc ua uc va vc h1 h2 => by
    rw [hn, hL, hev]
    exact (packM_any ka ga N M kc gc R Q ua va uc vc X h1 h2 (by omega) (by omega) hlw hl2).mono fun e y h => pm_uni h
  have HMY : Hid (∀ X, w.grownBy X none → Calls Try.prog 27 #[.agg #[.slice a N c, .slice g M d]] X fun e y => e = .returned (.bool r) ∧ X.grownBy y none) := fun X hX => rpMay_any a g N M c d R Q la lg lc ld X (hR.kept hX) (hQ.kept hX) (by omega) (by omega) hlw hl2 r hr
  have HRS : Hid (∀ X, w.grownBy X none → RsAt X a N R la lc ∧ RiAt X g M Q lg ld) := fun X hX => ⟨hR.kept hX, hQ.kept hX⟩
  obtain ⟨X0, hX0⟩ : ∃ X, X = w.alloc (.cells #[.slice a N c, .slice g M d] 42) := ⟨_, rfl⟩
  have hg0 : w.grownBy X0 none := by rw [hX0]; exact World.grownBy_alloc _ _ none
  have HG0 := hidP hg0
  have hb0 : X0.heap[w.heap.size]? = some (.cells #[.slice a N c, .slice g M d] 42 (0, 0)) := by rw [hX0]; exact heap_alloc_last w _
  have HB0 := hidP hb0
  have HDN := hidP (dense_any a g N M c d R Q la lg lc ld X0 (hR.kept hg0) (hQ.kept hg0) hnR hnQ hN hM hl hl2)
  obtain ⟨db, hdb⟩ : ∃ v, v = w.heap.size := ⟨_, rfl⟩
  have d0 : X0.cell? ⟨w.heap.size, 0, none⟩ = some (.slice a N c) := by rw [cell_of_row _ _ _ _ _ _ hb0]; rfl
  have d1 : X0.cell? ⟨w.heap.size, 1, none⟩ = some (.slice g M d) := by rw [cell_of_row _ _ _ _ _ _ hb0]; rfl
  rw [hX0] at d0 d1
  clear hR hQ hnR hnQ hN hM hl hl2 hlw hL hev hn hg0 hb0 hr
  go_enter Try.func7, Try.ntmps7
  go_wp2_with fail
  rw [← hX0, ← hdb]
  rw [← hdb] at HB0
  clear hX0 d0 d1 hdb
  refine Calls.mono HDN.out ?_
  rintro e y1 ⟨ka, kc, ga, gc, ua, uc, va, vc, rfl, hr1, hq1, hg1⟩
  have HG1 : Hid (w.grownBy y1 none) := grown_trans HG0.out hg1
  have HB1 := hidP (box_kept HB0.out hg1)
  have HPK1 := hidP (HPK.out y1 ka kc ga gc ua uc va vc hr1 hq1)
  clear HDN hr1 hq1 hg1 HPK
  go_wp2_with fail
  refine Calls.mono HPK1.out ?_
  rintro e y2 ⟨af, cf, m1, b2, m2, rfl, hm2, hg2⟩
  have HG2 : Hid (w.grownBy y2 none) := grown_trans HG1.out hg2
  have HI2 := hidP hm2.ints
  have HB2 := hidP (box_kept HB1.out hg2)
  clear hm2 hg2 HPK1
  cases r with
  | false =>
    have hno : ¬ MayT N M R Q := fun h => absurd (HRR.out.2 h) (by decide)
    have e0 : (ev == 1) = true := by rw [HEV.out]; unfold pE; rw [if_neg hno]; rfl
    obtain ⟨Z2, hZ2⟩ : ∃ Z, Z = y2.alloc (.cells #[.slice (af 0) (n 0) (cf 0), .slice (af 1) (n 1) (cf 1), .slice (af 2) (n 2) (cf 2), .slice (af 3) (n 3) (cf 3), .slice (af 4) (n 4) (cf 4), .slice (af 5) (n 5) (cf 5), .slice (af 6) (n 6) (cf 6), .slice (af 7) (n 7) (cf 7)] 45) := ⟨_, rfl⟩
    have HZ2 : Hid (w.grownBy Z2 none) := by show w.grownBy Z2 none; rw [hZ2]; exact grown_trans HG2.out (World.grownBy_alloc _ _ none)
    have hb := box_kept HB2.out (World.grownBy_alloc y2 (.cells #[.slice (af 0) (n 0) (cf 0), .slice (af 1) (n 1) (cf 1), .slice (af 2) (n 2) (cf 2), .slice (af 3) (n 3) (cf 3), .slice (af 4) (n 4) (cf 4), .slice (af 5) (n 5) (cf 5), .slice (af 6) (n 6) (cf 6), .slice (af 7) (n 7) (cf 7)] 45) none)
    have d0 : (y2.alloc (.cells #[.slice (af 0) (n 0) (cf 0), .slice (af 1) (n 1) (cf 1), .slice (af 2) (n 2) (cf 2), .slice (af 3) (n 3) (cf 3), .slice (af 4) (n 4) (cf 4), .slice (af 5) (n 5) (cf 5), .slice (af 6) (n 6) (cf 6), .slice (af 7) (n 7) (cf 7)] 45)).cell? ⟨db, 0, none⟩ = some (.slice a N c) := by rw [cell_of_row _ _ _ _ _ _ hb]; rfl
    have d1 : (y2.alloc (.cells #[.slice (af 0) (n 0) (cf 0), .slice (af 1) (n 1) (cf 1), .slice (af 2) (n 2) (cf 2), .slice (af 3) (n 3) (cf 3), .slice (af 4) (n 4) (cf 4), .slice (af 5) (n 5) (cf 5), .slice (af 6) (n 6) (cf 6), .slice (af 7) (n 7) (cf 7)] 45)).cell? ⟨db, 1, none⟩ = some (.slice g M d) := by rw [cell_of_row _ _ _ _ _ _ hb]; rfl
    have HM2 := hidP (HMY.out Z2 HZ2.out)
    clear hno hb
    go_wp2_with fail
    rw [← hZ2]
    clear hZ2 d0 d1
    refine Calls.mono HM2.out ?_
    rintro e y3 ⟨rfl, hg3⟩
    have HG3 : Hid (w.grownBy y3 none) := grown_trans HZ2.out hg3
    clear hg3 HM2
    go_wp2_with fail
    refine Calls.mono (HAW.out y3) ?_
    rintro e y4 ⟨rfl, hg4⟩
    have HG4 : Hid (w.grownBy y4 none) := grown_trans HG3.out hg4
    clear hg4
    go_wp2_with fail
    go_ret
    exact ⟨rfl, HG4.out⟩
  | true =>
    have hm := HRR.out.1 rfl
    have HMT := hidP hm
    have hev0 : ev = 0 := by rw [HEV.out]; unfold pE; rw [if_pos hm]
    have hLE : L = fun j => if j = 0 then defL R N else if j < 4 then lyS (lay (fun i => rowA (R i)) N) (j - 1) else if j = 4 then tgtL Q N (Q 0).length else lyS (lay (fun i => colA Q N i) (Q 0).length) (j - 5) := by rw [HLE.out]; unfold pL; rw [if_pos hm]
    obtain ⟨h1, rfl, ⟨⟨h20, h21, h22, h23⟩, h24⟩, ⟨⟨h30, h31, h32, h33⟩, h34⟩⟩ := hm
    simp only [] at h21 h22 h23 h31 h32 h33
    have hl0 : L 0 = defL R M := by rw [hLE]; rfl
    have hl1 : L 1 = (lay (fun i => rowA (R i)) M).bs := by rw [hLE]; rfl
    have hl2 : L 2 = (lay (fun i => rowA (R i)) M).va := by rw [hLE]; rfl
    have hl3 : L 3 = (lay (fun i => rowA (R i)) M).ow := by rw [hLE]; rfl
    have hl4 : L 4 = tgtL Q M (Q 0).length := by rw [hLE]; rfl
    have hl5 : L 5 = (lay (fun i => colA Q M i) (Q 0).length).bs := by rw [hLE]; rfl
    have hl6 : L 6 = (lay (fun i => colA Q M i) (Q 0).length).va := by rw [hLE]; rfl
    have hl7 : L 7 = (lay (fun i => colA Q M i) (Q 0).length).ow := by rw [hLE]; rfl
    have hn0 : n 0 = M := by rw [← HN.out 0, hl0, defL_len]
    obtain ⟨T, hT⟩ : ∃ T, T = (Q 0).length := ⟨_, rfl⟩
    have hn4 : n 4 = T := by rw [← HN.out 4, hl4, tgtL_len, hT]
    -- what the packed table says
    obtain ⟨AF, hAF⟩ : ∃ f : Int → Int → Int × Int, f = fun s t => actF (L 0) (L 1) (L 2) (L 3) s t := ⟨_, rfl⟩
    obtain ⟨GF, hGF⟩ : ∃ f : Int → Int → Int, f = fun s t => gotoF (L 4) (L 5) (L 6) (L 7) s t := ⟨_, rfl⟩
    have HAct : Hid (∀ q t : Nat, q < M → t < (R q).length → AF q t = if ((R q).getD t (0, 0)).1 ≠ 0 then (R q).getD t (0, 0) else dfl (mostF (redL (R q)))) := fun q t hq ht => by
      rw [hAF, hl0, hl1, hl2, hl3]
      exact say_act HMT.out hq ht
    have HFar : Hid (∀ (q : Nat) (p : Int), q < M → (p < 0 ∨ ((R q).length : Int) ≤ p) → AF q p = dfl (mostF (redL (R q)))) := fun q p hq hp => by
      rw [hAF, hl0, hl1, hl2, hl3]
      exact say_far HMT.out hq hp
    have HOut : Hid (∀ (q p : Int), (q < 0 ∨ (M : Int) ≤ q) → AF q p = (0, 0)) := fun q p hq => by
      rw [hAF, hl0, hl1, hl2, hl3]
      exact say_out HMT.out hq p
    have HGo : Hid (∀ q j : Nat, q < M → j < (Q q).length → 0 ≤ (Q q).getD j 0 → GF q j = (Q q).getD j 0) := fun q j hq hj hv => by
      rw [hGF, hl4, hl5, hl6, hl7]
      exact goto_say HMT.out hq hj hv
    have HGn : Hid (∀ (q p : Int), (p < 0 ∨ (T : Int) ≤ p) → GF q p = -1) := fun q p hp => by
      rw [hGF, hl4, hl5, hl6, hl7]
      exact goto_out HMT.out (by rw [← hT]; exact hp)
    have hvr : ∀ x ∈ L 2, -9223372036854775808 ≤ x ∧ x ≤ 9223372036854775807 := fun x hx => by
      rw [hl2] at hx
      rcases va_in HMT.out.rows x hx with h | ⟨i, hi, e, he, h⟩
      · omega
      · obtain ⟨t, ht, _, rfl⟩ := rowT_mem he
        have h5 := h24 i hi _ (getD_memE ht)
        unfold StandOk at h5
        rw [h]
        show -9223372036854775808 ≤ codeF _ _ ∧ codeF _ _ ≤ _
        unfold codeF
        split
        · omega
        · split
          · omega
          · split <;> omega
    have hbr : ∀ x ∈ L 1, -9223372036854775808 ≤ x ∧ x ≤ 9223372036854775807 := by rw [hl1]; exact (fitM HMT.out.rows).bsr
    have hgr : ∀ x ∈ L 5, -9223372036854775808 ≤ x ∧ x ≤ 9223372036854775807 := by rw [hl5]; exact (fitM HMT.out.cols).bsr
    have hI := HI2.out
    obtain ⟨eb, eo, hae, hde⟩ : ∃ eb eo, af 0 = some ⟨eb, eo, none⟩ ∧ ∀ q, q < M → y2.cell? ⟨eb, eo + q, none⟩ = some (.int .i64 (mostF (redL (R q)))) := by
      rcases hI 0 (by decide) with h | ⟨b, o, e, h⟩
      · have h5 : (L 0).length = M := by rw [hl0, defL_len]
        rw [h] at h5
        simp at h5
        omega
      · refine ⟨b, o, e, fun q hq => ?_⟩
        have h6 := h q (by rw [hl0, defL_len]; exact hq)
        rw [hl0, defL_at R hq] at h6
        exact h6
    have HAC : Hid (∀ X (s t : Int), y2.grownBy X none → Calls Try.prog 23 #[.agg #[.slice (some ⟨eb, eo, none⟩) M (cf 0), .slice (af 1) (n 1) (cf 1), .slice (af 2) (n 2) (cf 2), .slice (af 3) (n 3) (cf 3), .slice (af 4) (n 4) (cf 4), .slice (af 5) (n 5) (cf 5), .slice (af 6) (n 6) (cf 6), .slice (af 7) (n 7) (cf 7)], .int .i64 s, .int .i64 t] X fun e y => e = .returned (.agg #[.int .i64 (AF s t).1, .int .i64 (AF s t).2]) ∧ X.grownBy y none) := fun X s t hX => by
      have k : ∀ j, j < 8 → IntsAt X (af j) (L j) := fun j hj => (hI j hj).kept hX
      have h6 := pkAction_any (af 0) (af 1) (af 2) (af 3) (af 4) (af 5) (af 6) (af 7) (cf 0) (cf 1) (cf 2) (cf 3) (cf 4) (cf 5) (cf 6) (cf 7) (L 0) (L 1) (L 2) (L 3) (L 4) (L 5) (L 6) (L 7) X s t (k 0 (by decide)) (k 1 (by decide)) (k 2 (by decide)) (k 3 (by decide)) (by have := HLL.out 2 (by decide); omega) (by have := HLL.out 3 (by decide); omega) hvr hbr
      simp only [HN.out] at h6
      rw [hae, hn0] at h6
      rw [hAF]
      exact h6
    have HGC : Hid (∀ X (s t : Int), y2.grownBy X none → Calls Try.prog 24 #[.agg #[.slice (some ⟨eb, eo, none⟩) M (cf 0), .slice (af 1) (n 1) (cf 1), .slice (af 2) (n 2) (cf 2), .slice (af 3) (n 3) (cf 3), .slice (af 4) (n 4) (cf 4), .slice (af 5) (n 5) (cf 5), .slice (af 6) (n 6) (cf 6), .slice (af 7) (n 7) (cf 7)], .int .i64 s, .int .i64 t] X fun e y => e = .returned (.int .i64 (GF s t)) ∧ X.grownBy y none) := fun X s t hX => by
      have k : ∀ j, j < 8 → IntsAt X (af j) (L j) := fun j hj => (hI j hj).kept hX
      have h6 := pkGoto_any (af 0) (af 1) (af 2) (af 3) (af 4) (af 5) (af 6) (af 7) (cf 0) (cf 1) (cf 2) (cf 3) (cf 4) (cf 5) (cf 6) (cf 7) (L 0) (L 1) (L 2) (L 3) (L 4) (L 5) (L 6) (L 7) X s t (k 4 (by decide)) (k 5 (by decide)) (k 6 (by decide)) (k 7 (by decide)) (by have := HLL.out 6 (by decide); omega) (by have := HLL.out 7 (by decide); omega) hgr
      simp only [HN.out] at h6
      rw [hae, hn0] at h6
      rw [hGF]
      exact h6
    have HDE : Hid (∀ X, y2.grownBy X none → ∀ q, q < M → X.cell? ⟨eb, eo + q, none⟩ = some (.int .i64 (mostF (redL (R q))))) := fun X hX q hq => hX.cell (hde q hq) (by simp)
    have H23 := hidP h23
    have H33 := hidP h33
    have H24 := hidP h24
    have HR65 : Hid ((R 0).length ≤ 65) := h22
    have HTE : Hid (T = (Q 0).length) := hT
    have HT65 : Hid (T ≤ 65) := by rw [hT]; exact h32
    have HM0 : Hid (0 < M ∧ M ≤ 256) := ⟨h20, h1⟩
    obtain ⟨dc, hdc⟩ : ∃ v, v = cf 0 := ⟨_, rfl⟩
    rw [hae, hn0, hev0, ← hdc]
    rw [← hdc] at HAC HGC
    obtain ⟨Z, hZ⟩ : ∃ Z, Z = y2.alloc (.cells #[.slice (some ⟨eb, eo, none⟩) M dc, .slice (af 1) (n 1) (cf 1), .slice (af 2) (n 2) (cf 2), .slice (af 3) (n 3) (cf 3), .slice (af 4) (n 4) (cf 4), .slice (af 5) (n 5) (cf 5), .slice (af 6) (n 6) (cf 6), .slice (af 7) (n 7) (cf 7)] 45) := ⟨_, rfl⟩
    have hyz : y2.grownBy Z none := by rw [hZ]; exact World.grownBy_alloc _ _ none
    have HYZ := hidP hyz
    obtain ⟨pb, hpb⟩ : ∃ v, v = y2.heap.size := ⟨_, rfl⟩
    have hpbx : Z.heap[pb]? = some (.cells #[.slice (some ⟨eb, eo, none⟩) M dc, .slice (af 1) (n 1) (cf 1), .slice (af 2) (n 2) (cf 2), .slice (af 3) (n 3) (cf 3), .slice (af 4) (n 4) (cf 4), .slice (af 5) (n 5) (cf 5), .slice (af 6) (n 6) (cf 6), .slice (af 7) (n 7) (cf 7)] 45 (0, 0)) := by rw [hZ, hpb]; exact heap_alloc_last y2 _
    have HP : Hid (∀ X, Z.grownBy X none → X.cell? ⟨pb, 0, none⟩ = some (.slice (some ⟨eb, eo, none⟩) M dc) ∧ X.cell? ⟨pb, 1, none⟩ = some (.slice (af 1) (n 1) (cf 1)) ∧ X.cell? ⟨pb, 2, none⟩ = some (.slice (af 2) (n 2) (cf 2)) ∧ X.cell? ⟨pb, 3, none⟩ = some (.slice (af 3) (n 3) (cf 3)) ∧ X.cell? ⟨pb, 4, none⟩ = some (.slice (af 4) (n 4) (cf 4)) ∧ X.cell? ⟨pb, 5, none⟩ = some (.slice (af 5) (n 5) (cf 5)) ∧ X.cell? ⟨pb, 6, none⟩ = some (.slice (af 6) (n 6) (cf 6)) ∧ X.cell? ⟨pb, 7, none⟩ = some (.slice (af 7) (n 7) (cf 7))) := fun X hX => by
      have h := box_kept hpbx hX
      exact ⟨by rw [cell_of_row _ _ _ _ _ _ h]; rfl, by rw [cell_of_row _ _ _ _ _ _ h]; rfl, by rw [cell_of_row _ _ _ _ _ _ h]; rfl, by rw [cell_of_row _ _ _ _ _ _ h]; rfl, by rw [cell_of_row _ _ _ _ _ _ h]; rfl, by rw [cell_of_row _ _ _ _ _ _ h]; rfl, by rw [cell_of_row _ _ _ _ _ _ h]; rfl, by rw [cell_of_row _ _ _ _ _ _ h]; rfl⟩
    have hdbx := box_kept HB2.out hyz
    have HD : Hid (∀ X, Z.grownBy X none → X.cell? ⟨db, 0, none⟩ = some (.slice a M c) ∧ X.cell? ⟨db, 1, none⟩ = some (.slice g M d)) := fun X hX => by
      have h := box_kept hdbx hX
      exact ⟨by rw [cell_of_row _ _ _ _ _ _ h]; rfl, by rw [cell_of_row _ _ _ _ _ _ h]; rfl⟩
    have HWZ : Hid (w.grownBy Z none) := grown_trans HG2.out hyz
    obtain ⟨ra, ro, rfl, hra⟩ : ∃ ra ro, a = some ⟨ra, ro, none⟩ ∧ ∀ i, i < M → Z.cell? ⟨ra, ro + i, none⟩ = some (.slice (la i) (R i).length (lc i)) := by
      rcases (HRS.out Z HWZ.out).1.1 with h | h
      · omega
      · exact h
    obtain ⟨rg, og, rfl, hrg⟩ : ∃ rg og, g = some ⟨rg, og, none⟩ ∧ ∀ i, i < M → Z.cell? ⟨rg, og + i, none⟩ = some (.slice (lg i) (Q i).length (ld i)) := by
      rcases (HRS.out Z HWZ.out).2.1 with h | h
      · omega
      · exact h
    have HRA : Hid (∀ X, Z.grownBy X none → ∀ i, i < M → X.cell? ⟨ra, ro + i, none⟩ = some (.slice (la i) (R i).length (lc i))) := fun X hX i hi => hX.cell (hra i hi) (by simp)
    have HRG : Hid (∀ X, Z.grownBy X none → ∀ i, i < M → X.cell? ⟨rg, og + i, none⟩ = some (.slice (lg i) T (ld i))) := fun X hX i hi => by
      have e : (Q i).length = T := by rw [hT]; exact h33 i hi
      rw [← e]
      exact hX.cell (hrg i hi) (by simp)
    have HMZ := hidP (HMY.out Z HWZ.out)
    have hMp : 0 < M := h20
    have HN4 := hidP hn4
    obtain ⟨d0, d1⟩ := HD.out Z (grown_refl _ _)
    rw [hZ] at d0 d1
    clear h1 h20 h21 h22 h23 h24 h30 h31 h32 h33 h34 hev0 hLE hl0 hl1 hl2 hl3 hl4 hl5 hl6 hl7 hAF hGF hvr hbr hgr hI hae hde hyz hpbx hdbx hra hrg hT hdc hn0 hn4
    go_wp2_with fail
    rw [← hZ, ← hpb]
    clear hZ hpb d0 d1
    refine Calls.mono HMZ.out ?_
    rintro e y3 ⟨rfl, hg3⟩
    have HG3 : Hid (Z.grownBy y3 none) := hg3
    obtain ⟨p0, p1, p2, p3, p4, p5, p6, p7⟩ := HP.out y3 hg3
    obtain ⟨d0, d1⟩ := HD.out y3 hg3
    have c0 := HRG.out y3 hg3 0 hMp
    rw [Nat.add_zero] at c0
    have hMi : (0 : Int) < (M : Int) := by omega
    have e0 : ((0 : Int) != 0) = false := rfl
    have e1 : (M != M) = false := bne_self_eq_false _
    have e1' : ((M : Int) != (M : Int)) = false := bne_self_eq_false _
    have e2 : (T != T) = false := bne_self_eq_false _
    have e2' : ((T : Int) != (T : Int)) = false := bne_self_eq_false _
    rw [HN4.out] at p4
    clear hg3 HMZ
    go_wp2_with fail
    go_big_quiet_o (fail)
    go_wp2_with fail
    clear p0 p1 p2 p3 p4 p5 p6 p7 d0 d1 c0 e0 e1 e1' e2 e2'
    go_loopg [5] M (fun gk v5 wr => ∃ q : Nat, q ≤ M ∧ gk = M - q ∧ v5 = .int .i64 q ∧ Z.grownBy wr none)
    case atStart => exact ⟨0, Nat.zero_le _, rfl, rfl, grown_trans HG3.out (by first | exact grown_drewN _ _ | exact grown_refl _ _)⟩
    case round =>
      clear HG3
      obtain ⟨q, hq, hgq, rfl, hg⟩ := hrel
      have HGQ : Hid (gk = M - q) := hgq
      have HG := hidP hg
      obtain ⟨d0, d1⟩ := HD.out wr hg
      clear hgq
      by_cases hqM : q < M
      case neg =>
        have hqd : decide (q < M) = false := decide_eq_false hqM
        obtain ⟨p0, p1, p2, p3, p4, p5, p6, p7⟩ := HP.out wr hg
        have HA1 := hidP (HAC.out wr M 0 (grown_trans HYZ.out hg))
        have ho1 := HOut.out (M : Int) 0 (.inr (by omega))
        rw [ho1] at HA1
        have HA2 : Hid (∀ X, Z.grownBy X none → Calls Try.prog 23 #[.agg #[.slice (some ⟨eb, eo, none⟩) M dc, .slice (af 1) (n 1) (cf 1), .slice (af 2) (n 2) (cf 2), .slice (af 3) (n 3) (cf 3), .slice (af 4) (n 4) (cf 4), .slice (af 5) (n 5) (cf 5), .slice (af 6) (n 6) (cf 6), .slice (af 7) (n 7) (cf 7)], .int .i64 (-1), .int .i64 0] X fun e y => e = .returned (.agg #[.int .i64 0, .int .i64 0]) ∧ X.grownBy y none) := fun X hX => by
          have h7 := HAC.out X (-1) 0 (grown_trans HYZ.out hX)
          rw [HOut.out (-1) 0 (.inl (by omega))] at h7
          exact h7
        have hE : ∀ Y : World, (binOp .eql 52 (.agg #[.int .i64 0, .int .i64 0]) (.agg #[.int .i64 0, .int .i64 0])).run Try.prog Y = .ok (.bool true) Y := fun Y => by have h := eq_action 0 0 0 0 Y; simpa using h
        clear hg ho1
        go_wp2_with fail
        refine Calls.mono HA1.out ?_
        rintro e y4 ⟨rfl, hg4⟩
        have HG4 : Hid (Z.grownBy y4 none) := grown_trans HG.out hg4
        have HC4 := hidP (HA2.out y4 HG4.out)
        clear p0 p1 p2 p3 p4 p5 p6 p7
        obtain ⟨p0, p1, p2, p3, p4, p5, p6, p7⟩ := HP.out y4 HG4.out
        clear hg4 HA1 HA2
        go_wp2_with fail
        refine Calls.mono HC4.out ?_
        rintro e y5 ⟨rfl, hg5⟩
        have HG5 : Hid (Z.grownBy y5 none) := grown_trans HG4.out hg5
        clear hg5 HC4 p0 p1 p2 p3 p4 p5 p6 p7
        go_wp2_with fail
        refine Calls.mono (HAW.out y5) ?_
        rintro e y6 ⟨rfl, hg6⟩
        have HG6 : Hid (w.grownBy y6 none) := grown_trans HWZ.out (grown_trans HG5.out hg6)
        clear hg6
        go_wp2_with fail
        go_ret
        exact ⟨rfl, HG6.out⟩
      have hqd : decide (q < M) = true := decide_eq_true hqM
      have hq0 : (0 : Int) ≤ (q : Int) := by omega
      have hq1 : (q : Int) < (M : Int) := by omega
      -- what stands in this round
      obtain ⟨l, hl⟩ : ∃ l, l = R q := ⟨_, rfl⟩
      have HLE2 : Hid (l = R q) := hl
      obtain ⟨ln, hln⟩ : ∃ v, v = l.length := ⟨_, rfl⟩
      have HLN : Hid (ln = l.length) := hln
      have hl65 : ln ≤ 65 := by rw [hln, hl]; have h1 := H23.out q hqM; have h2 := HR65.out; omega
      obtain ⟨m, hmm⟩ : ∃ m, m = mostF (redL (R q)) := ⟨_, rfl⟩
      have HMM : Hid (m = mostF (redL (R q))) := hmm
      have hmr := most_red (H24.out q hqM)
      rw [← hmm, ← hl] at hmr
      have HMR := hidP hmr
      have hm1 : m = -1 ∨ 1 ≤ m := by rcases hmr with h | h <;> omega
      have HDR : Hid (∀ X, Z.grownBy X none → X.cell? ⟨db, 0, none⟩ = some (.slice (some ⟨ra, ro, none⟩) M c) ∧ X.cell? ⟨ra, ro + q, none⟩ = some (.slice (la q) ln (lc q)) ∧ X.cell? ⟨eb, eo + q, none⟩ = some (.int .i64 m)) := fun X hX => ⟨(HD.out X hX).1, by rw [hln, hl]; exact HRA.out X hX q hqM, by rw [hmm]; exact HDE.out X (grown_trans HYZ.out hX) q hqM⟩
      have HIT : Hid (∀ X, Z.grownBy X none → ItsAt X (la q) l) := fun X hX => by rw [hl]; exact (HRS.out X (grown_trans HWZ.out hX)).1.2 q hqM
      have HDG : Hid (∀ X, Z.grownBy X none → X.cell? ⟨db, 1, none⟩ = some (.slice (some ⟨rg, og, none⟩) M d) ∧ X.cell? ⟨rg, og + q, none⟩ = some (.slice (lg q) T (ld q))) := fun X hX => ⟨(HD.out X hX).2, HRG.out X hX q hqM⟩
      have HIG : Hid (∀ X, Z.grownBy X none → IntsAt X (lg q) (Q q)) := fun X hX => (HRS.out X (grown_trans HWZ.out hX)).2.2 q hqM
      clear hl hln hmm hmr
      conv in (Code.loop (Code.seq (Code.seq (Code.region 11 _ _) _) _)) => change plS2
      conv in (Code.region 22 _ _) => change plS22
      conv in (Code.region 29 _ _) => change plS29
      have hM256 := HM0.out.2
      have hT65 := HT65.out
      clear hg
      go_wp2_with fail
      clear d0 d1
      refine pl_s2 (Z := Z) (la := la q) (lc := lc q) (l := l) (m := m) (AF := fun t => AF q t) hqM HLN.out hm1 hl65 HP.out HDR.out HIT.out HG.out (fun X t ht hX => HAC.out X q t (grown_trans HYZ.out hX)) (fun t ht => by have h1 := HAct.out q t hqM (by rw [← HLE2.out, ← HLN.out]; exact ht); rw [← HMM.out, ← HLE2.out] at h1; exact h1) ?_
      intro X1 sm z2 z7 z8 z9 z54 z55 z56 z57 z58 z59 z60 z61 z62 z63 z64 z65 z66 z67 z68 z69 z70 z71 z72 z73 z74 z75 z76 z77 z78 z79 z80 z81 z82 z83 z84 z85 z86 z87 z88 z89 z90 z91 z92 z93 z94 z95 z96 z97 z98 z99 z100 z101 z102 z103 z104 z105 z106 z107 z108 z109 z110 z111 z112 z113 z114 z115 z116 z117 z118 z119 z120 z121 z122 z123 z124 z125 z126 z127 hsm hg1
      have HG1 := hidP hg1
      have hsd : decide (0 < m) = sm := by
        rcases HMR.out with ⟨h1, h2⟩ | ⟨h1, h2⟩
        · have h3 : sm = false := by
            cases sm with
            | false => rfl
            | true => obtain ⟨e, he, h4⟩ := hsm.1 rfl; exact absurd h4 (h2 e he)
          rw [h3]
          exact decide_eq_false (by omega)
        · rw [hsm.2 h2]
          exact decide_eq_true (by omega)
      have HSD := hidP hsd
      clear hsm hg1 hsd
      go_wp2_with fail
      refine pl_s22q (m := m) (k1 := (dfl m).1) (t1 := (dfl m).2) hqM (fun X hX => HP.out X (grown_trans HG1.out hX)) (fun X hX => HDR.out X (grown_trans HG1.out hX)) HSD.out (fun X z hz hX => ?_) ?_
      · have h1 := HAC.out X q z (grown_trans HYZ.out (grown_trans HG1.out hX))
        rw [HFar.out q z hqM (by rw [← HLE2.out, ← HLN.out]; omega), ← HMM.out] at h1
        exact h1
      intro X2 z128 z129 z130 z131 z132 z133 z134 z135 z136 z137 z138 z139 z140 z141 z142 z143 z144 z145 z146 z147 z148 z149 hg2
      have HG2' : Hid (Z.grownBy X2 none) := grown_trans HG1.out hg2
      clear hg2
      go_wp2_with fail
      go_loopg [10] T (fun gk v10 wr => ∃ j : Nat, j ≤ T ∧ gk = T - j ∧ v10 = .int .i64 j ∧ Z.grownBy wr none)
      case atStart => exact ⟨0, Nat.zero_le _, rfl, rfl, HG2'.out⟩
      case round =>
        clear HG2'
        obtain ⟨j, hj, hgj, rfl, hg⟩ := hrel
        have HGJ : Hid (gk = T - j) := hgj
        have HGX := hidP hg
        obtain ⟨c0, c1⟩ := HDG.out wr hg
        clear hgj
        by_cases hjT : j < T
        · have hjd : decide (j < T) = true := decide_eq_true hjT
          have hj0 : (0 : Int) ≤ (j : Int) := by omega
          have hj1 : (j : Int) < (T : Int) := by omega
          have hjl : j < (Q q).length := by rw [H33.out q hqM, ← HTE.out]; exact hjT
          obtain ⟨lb, lo, hlg, t0⟩ := ints_get (HIG.out wr hg) hjl
          have HT0 : Hid (∀ X, wr.grownBy X none → (X.cell? ⟨db, 1, none⟩ = some (.slice (some ⟨rg, og, none⟩) M d) ∧ X.cell? ⟨rg, og + q, none⟩ = some (.slice (some ⟨lb, lo, none⟩) T (ld q)) ∧ X.cell? ⟨lb, lo + j, none⟩ = some (.int .i64 ((Q q).getD j 0)))) := fun X hX => ⟨hX.cell c0 (by simp), by have h := hX.cell c1 (by simp); rw [hlg] at h; exact h, hX.cell t0 (by simp)⟩
          obtain ⟨tz, htz⟩ : ∃ v, v = (Q q).getD j 0 := ⟨_, rfl⟩
          have HTZ : Hid (tz = (Q q).getD j 0) := htz
          rw [← htz] at HT0
          clear hg hlg t0 htz
          by_cases hz : 0 ≤ tz
          · conv in (Code.region 27 _ _) => change plS27
            go_wp2_with fail
            clear c0 c1
            refine pl_s27q (m := tz) hqM hjT (fun X hX => HP.out X (grown_trans HGX.out hX)) HT0.out (fun X hX => ?_) hz ?_
            · have h1 := HGC.out X q j (grown_trans HYZ.out (grown_trans HGX.out hX))
              rw [HGo.out q j hqM (by rw [H33.out q hqM, ← HTE.out]; exact hjT) (by rw [← HTZ.out]; exact hz), ← HTZ.out] at h1
              exact h1
            intro X3 z161 z162 z163 z164 z165 z166 z167 z168 z169 z170 z171 z172 z173 z174 z175 z176 z177 z178 z179 z180 z181 z182 z183 hg3
            have HG3' : Hid (Z.grownBy X3 none) := grown_trans HGX.out hg3
            clear hg3
            go_wp2_with fail
            go_roundg (T - (j + 1))
            case measure => have := HGJ.out; omega
            case rel => exact ⟨j + 1, by omega, rfl, by go_num, HG3'.out⟩
          · have hzd : decide (0 ≤ tz) = false := decide_eq_false hz
            obtain ⟨b0, b1, b2⟩ := HT0.out wr (grown_refl _ _)
            clear hz c0 c1
            go_wp2_with fail
            go_big_quiet_o (fail)
            go_wp2_with fail
            go_roundg (T - (j + 1))
            case measure => have := HGJ.out; omega
            case rel => exact ⟨j + 1, by omega, rfl, by go_num, grown_trans HGX.out (grown_drewN _ _)⟩
        · have hjd : decide (j < T) = false := decide_eq_false hjT
          clear hg
          go_wp2_with fail
          clear c0 c1
          refine pl_s29q (ra := rg) (ro := og) (c := d) (la := lg q) (lc := ld q) (ln := T) hqM (fun X hX => HP.out X (grown_trans HGX.out hX)) (fun X hX => HDG.out X (grown_trans HGX.out hX)) (fun X z hz hX => ?_) ?_
          · have h1 := HGC.out X q z (grown_trans HYZ.out (grown_trans HGX.out hX))
            rw [HGn.out q z (by omega)] at h1
            exact h1
          intro X4 z185 z186 z187 z188 z189 z190 z191 z192 z193 z194 z195 z196 z197 z198 z199 hg4
          have HG4' : Hid (Z.grownBy X4 none) := grown_trans HGX.out hg4
          clear hg4
          go_wp2_with fail
          go_roundg (M - (q + 1))
          case measure => have := HGQ.out; omega
          case rel => exact ⟨q + 1, by omega, rfl, by go_num, HG4'.out⟩

end Go.Proofs.Ytgmljpkenipgjaa.J
