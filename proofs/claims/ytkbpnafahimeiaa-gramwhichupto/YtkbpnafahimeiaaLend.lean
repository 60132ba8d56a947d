/-
  lend, walked.
-/
import Derived.Test.YtkbpnafahimeiaaLendR
import Derived.Deep.RegionHeld3
namespace Go.Proofs.Ytkbpnafahimeiaa
open Go.RowKit Go.Maps Go.Shelf

attribute [local go_sem] Oper.semAt_some

def spare : ByteArray := { data := #[115, 112, 97, 114, 101] }

theorem lend_r11q {Q0 : Exit → Act → World → Prop} {X5 : World} {gb bp op n pc k len c g c5 : Nat} {a5 : Option Addr} {Lk Vk : Int} {xs : List Value}
    {v0 v2 v6 v7 v8 v9 v10 v11 v12 v13 v14 v15 v16 v17 v18 v19 v20 v21 v22 v23 v24 v25 v26 v27 v28 v29 v30 v31 v32 v33 v34 v35 v36 v37 v38 v39 v40 v41 v42 v43 v44 v45 v46 v47 v48 v49 v50 v51 v52 v53 v54 v55 v56 v57 v58 v59 v60 v61 v62 v63 v64 v65 v66 v67 v68 v69 v70 v71 v72 v73 v74 v75 v76 v77 v78 v79 v80 v81 v82 v83 v84 v85 v86 v87 v88 v89 v90 v91 v92 v93 v94 v95 v96 v97 v98 v99 v100 v101 v102 v103 v104 v105 v106 v107 v108 v109 v110 v111 v112 v113 v114 v115 v116 v117 v118 v119 v120 v121 v122 v123 v124 v125 v126 v127 v128 v129 v130 v131 v132 v133 v134 v135 v136 v137 v138 v139 v140 v141 v142 v143 v144 v145 v146 v147 : Value}
    (q4 : X5.drew.cell? ⟨gb, 4, none⟩ = some (.slice (some ⟨bp, op, none⟩) n pc)) (q0 : X5.drew.cell? ⟨bp, op + k * 3, none⟩ = some (.int .i64 Lk)) (q2 : X5.drew.cell? ⟨bp, op + k * 3 + 2, none⟩ = some (.int .i64 Vk))
    (x9 : X5.drew.cell? ⟨gb + 1, 9, none⟩ = some (.slice a5 k c5)) (x9o : ∀ o, (X5.alloc o).drew.cell? ⟨gb + 1, 9, none⟩ = some (.slice a5 k c5))
    (hlt : k < n) (h4 : n ≤ 1048576) (hz5 : gb + 1 < X5.heap.size) (hln : len ≤ 1048576) (hlc : (len : Int) ≤ (c : Int))
    (hpr : ∀ o, (X5.alloc o).drew.ownsRow (gb + 1 + 1) 52 3 (.slice a5 k c5) k xs)
    (hfin : ∀ w4 v4, w4.ownsRow (gb + 1 + 1) 52 3 v4 (k + 1) (xs ++ [.int .i64 Lk, .slice (some ⟨g, 0, none⟩) len c, .int .i64 Vk]) → (X5.alloc (.cells #[.int .i64 Lk, .slice (some ⟨g, 0, none⟩) len c, .int .i64 Vk] 52)).drew.grownBy w4 (Value.slice a5 k c5).ownBlock → ∃ a c', v4 = .slice a (k + 1) c' ∧ w4.cell? ⟨gb + 1, 9, none⟩ = some (.slice a5 k c5) ∧ w4.frozen? ⟨gb + 1, 9, none⟩ = false ∧ ∀ u72 u73 u74 u75 u76 u77 u78 u79 u80 u81 u82 u83 u84 u85 u86 u87 u88 u89 u90 u91 u92 u93 u94 u95 u96 u97 u98 : Value, Q0 .normal ⟨List.toArray (v0 :: .pointer (some ⟨gb, 0, none⟩) :: v2 :: .pointer (some ⟨gb + 1, 0, none⟩) :: .int .i64 k :: .slice (some ⟨g, 0, none⟩) (len + 1) c :: v6 :: v7 :: v8 :: v9 :: v10 :: v11 :: v12 :: v13 :: v14 :: v15 :: v16 :: v17 :: v18 :: v19 :: v20 :: v21 :: v22 :: v23 :: v24 :: v25 :: v26 :: v27 :: v28 :: v29 :: v30 :: v31 :: v32 :: v33 :: v34 :: v35 :: v36 :: v37 :: v38 :: v39 :: v40 :: v41 :: v42 :: v43 :: v44 :: v45 :: v46 :: v47 :: v48 :: v49 :: v50 :: v51 :: v52 :: v53 :: v54 :: v55 :: v56 :: v57 :: v58 :: v59 :: v60 :: v61 :: v62 :: v63 :: v64 :: v65 :: v66 :: v67 :: v68 :: v69 :: v70 :: v71 :: u72 :: u73 :: u74 :: u75 :: u76 :: u77 :: u78 :: u79 :: u80 :: u81 :: u82 :: u83 :: u84 :: u85 :: u86 :: u87 :: u88 :: u89 :: u90 :: u91 :: u92 :: u93 :: u94 :: u95 :: u96 :: u97 :: u98 :: v99 :: v100 :: v101 :: v102 :: v103 :: v104 :: v105 :: v106 :: v107 :: v108 :: v109 :: v110 :: v111 :: v112 :: v113 :: v114 :: v115 :: v116 :: v117 :: v118 :: v119 :: v120 :: v121 :: v122 :: v123 :: v124 :: v125 :: v126 :: v127 :: v128 :: v129 :: v130 :: v131 :: v132 :: v133 :: v134 :: v135 :: v136 :: v137 :: v138 :: v139 :: v140 :: v141 :: v142 :: v143 :: v144 :: v145 :: v146 :: v147 :: []), []⟩ (w4.setCell ⟨gb + 1, 9, none⟩ (.slice a (k + 1) c'))) :
    Code.wp Try.prog lendR Q0 ⟨List.toArray (v0 :: .pointer (some ⟨gb, 0, none⟩) :: v2 :: .pointer (some ⟨gb + 1, 0, none⟩) :: .int .i64 k :: .slice (some ⟨g, 0, none⟩) (len + 1) c :: v6 :: v7 :: v8 :: v9 :: v10 :: v11 :: v12 :: v13 :: v14 :: v15 :: v16 :: v17 :: v18 :: v19 :: v20 :: v21 :: v22 :: v23 :: v24 :: v25 :: v26 :: v27 :: v28 :: v29 :: v30 :: v31 :: v32 :: v33 :: v34 :: v35 :: v36 :: v37 :: v38 :: v39 :: v40 :: v41 :: v42 :: v43 :: v44 :: v45 :: v46 :: v47 :: v48 :: v49 :: v50 :: v51 :: v52 :: v53 :: v54 :: v55 :: v56 :: v57 :: v58 :: v59 :: v60 :: v61 :: v62 :: v63 :: v64 :: v65 :: v66 :: v67 :: v68 :: v69 :: v70 :: v71 :: v72 :: v73 :: v74 :: v75 :: v76 :: v77 :: v78 :: v79 :: v80 :: v81 :: v82 :: v83 :: v84 :: v85 :: v86 :: v87 :: v88 :: v89 :: v90 :: v91 :: v92 :: v93 :: v94 :: v95 :: v96 :: v97 :: v98 :: v99 :: v100 :: v101 :: v102 :: v103 :: v104 :: v105 :: v106 :: v107 :: v108 :: v109 :: v110 :: v111 :: v112 :: v113 :: v114 :: v115 :: v116 :: v117 :: v118 :: v119 :: v120 :: v121 :: v122 :: v123 :: v124 :: v125 :: v126 :: v127 :: v128 :: v129 :: v130 :: v131 :: v132 :: v133 :: v134 :: v135 :: v136 :: v137 :: v138 :: v139 :: v140 :: v141 :: v142 :: v143 :: v144 :: v145 :: v146 :: v147 :: []), []⟩ X5 :=
  wp_mono (lend_r11 (K := fun a w => Q0 .normal a w) q4 q0 q2 x9 x9o hlt h4 hz5 hln hlc hpr hfin) fun e a w h => by
    cases e <;> first | exact h | exact h.elim

set_option maxRecDepth 100000 in
set_option maxHeartbeats 40000000 in
theorem lend_any (ta na la pa : Option Addr) (tc nc lc pc : Nat) (ts : List (ByteArray × Int)) (ns : List ByteArray) (lv : List Int) (n : Nat) (L : Nat → Int) (R : Nat → List Int) (ra : Nat → Option Addr) (rc : Nat → Nat) (V : Nat → Int) (st : Int) (w : World) (tn nn ln : Nat) (hG : GAt w ta na la pa tc nc lc pc ts ns lv n L R ra rc V) (hnt : ta = none → tn = 0 ∧ tc = 0) (hnl : la = none → ln = 0 ∧ lc = 0) (hlen : ts.length = tn ∧ ns.length = nn ∧ lv.length = ln) (h1 : tn ≤ 1048576) (h2 : nn ≤ 1048576) (h3 : ln ≤ 1048576) (h4 : n ≤ 1048576) (h5 : ∀ i, i < n → (R i).length ≤ 1048576) :
    Calls Try.prog 10 #[.agg #[.slice ta tn tc, .slice na nn nc, .slice la ln lc, .int .i64 st, .slice pa n pc]] w fun e w' => ∃ gb a1 c1 a2 c2 a3 c3 a4 c4 a5 c5 rg, e = .returned (.pointer (some ⟨gb + 1, 0, none⟩)) ∧ LdAt w w' gb #[.slice ta tn tc, .slice na nn nc, .slice la ln lc, .int .i64 st, .slice pa n pc] #[.slice a1 tn c1, .slice a2 nn c2, .slice a3 ln c3, .int .i64 st, .slice a5 n c5, .slice a1 (tn + 1) c1, .slice a2 (nn + 1) c2, .slice a3 (ln + 1) c3, .slice a4 n c4, .slice a5 (n + 1) c5] ∧ LRows w' (gb + 1 + 1) ts ns lv n L R V a1 a2 a3 a4 a5 tn nn ln c1 c2 c3 c4 c5 rg := by
  obtain ⟨iT, hiT, hT0, hT1, hT2⟩ := info_parts infoTerm
  obtain ⟨iS, hiS, hS0, hS1, hS2⟩ := info_parts infoStr
  obtain ⟨iI, hiI, hI0, hI1, hI2⟩ := info_parts infoInt
  obtain ⟨iR, hiR, hR0, hR1, hR2⟩ := info_parts infoInts
  obtain ⟨iP, hiP, hP0, hP1, hP2⟩ := info_parts infoProd
  have HG : Hid (GAt w ta na la pa tc nc lc pc ts ns lv n L R ra rc V) := hG
  have HLN : Hid (ts.length = tn ∧ ns.length = nn ∧ lv.length = ln) := hlen
  have HNT : Hid (ta = none → tn = 0 ∧ tc = 0) := hnt
  have HNL : Hid (la = none → ln = 0 ∧ lc = 0) := hnl
  have HNN : Hid (na = none → nn = 0 ∧ nc = 0) := fun h => by have := hG.nnil h; rw [hlen.2.1] at this; exact this
  have H5 : Hid (∀ i, i < n → (R i).length ≤ 1048576) := h5
  obtain ⟨X, hX⟩ : ∃ X, X = (w.alloc (.cells #[.slice ta tn tc, .slice na nn nc, .slice la ln lc, .int .i64 st, .slice pa n pc] 42)).alloc (.cells #[.slice none 0 0, .slice none 0 0, .slice none 0 0, .int .i64 0, .slice none 0 0, .slice none 0 0, .slice none 0 0, .slice none 0 0, .slice none 0 0, .slice none 0 0] 48) := ⟨_, rfl⟩
  have HX := show Hid _ from hX
  have hLd : LdAt w X w.heap.size #[.slice ta tn tc, .slice na nn nc, .slice la ln lc, .int .i64 st, .slice pa n pc] #[.slice none 0 0, .slice none 0 0, .slice none 0 0, .int .i64 0, .slice none 0 0, .slice none 0 0, .slice none 0 0, .slice none 0 0, .slice none 0 0, .slice none 0 0] := by
    refine ⟨by rw [hX]; exact grown_trans (World.grownBy_alloc _ _ none) (World.grownBy_alloc _ _ none), ?_, ?_, Nat.le_refl _⟩
    · rw [hX]; exact ((World.grownBy_alloc (w.alloc _) _ none).block _ (by simp) (by simp)).trans (heap_alloc_last w _)
    · rw [hX]
      have := heap_alloc_last (w.alloc (.cells #[.slice ta tn tc, .slice na nn nc, .slice la ln lc, .int .i64 st, .slice pa n pc] 42)) (.cells #[.slice none 0 0, .slice none 0 0, .slice none 0 0, .int .i64 0, .slice none 0 0, .slice none 0 0, .slice none 0 0, .slice none 0 0, .slice none 0 0, .slice none 0 0] 48)
      simpa using this
  obtain ⟨gb, hgb⟩ : ∃ gb, gb = w.heap.size := ⟨_, rfl⟩
  rw [← hgb] at hLd
  have HLd : Hid (LdAt w X gb #[.slice ta tn tc, .slice na nn nc, .slice la ln lc, .int .i64 st, .slice pa n pc] #[.slice none 0 0, .slice none 0 0, .slice none 0 0, .int .i64 0, .slice none 0 0, .slice none 0 0, .slice none 0 0, .slice none 0 0, .slice none 0 0, .slice none 0 0]) := hLd
  clear hG hnt hnl hlen hX hLd h5
  go_enter Try.func10, Try.ntmps10
  go_wp2_with fail
  rw [← HX.out, ← hgb]
  clear hgb HX
  -- the terminals
  have HSRC : Hid (∀ Y, X.grownBy Y none → ∀ ad, ta = some ad → ∀ j u, (tmsL ts)[j]? = some u → Y.cell? (ad.add j) = some u) := fun Y hY => terms_cells (HG.out.kept (grown_trans HLd.out.grown hY)).terms
  have HSL : Hid ((tmsL ts).length = tn * 2) := by show _ = _; rw [tms_cells_len, HLN.out.1]
  have HDd : Hid (LdAt w X.drew gb #[.slice ta tn tc, .slice na nn nc, .slice la ln lc, .int .i64 st, .slice pa n pc] #[.slice none 0 0, .slice none 0 0, .slice none 0 0, .int .i64 0, .slice none 0 0, .slice none 0 0, .slice none 0 0, .slice none 0 0, .slice none 0 0, .slice none 0 0]) := HLd.out.kept (grown_drewN X 1)
  have x0 := HDd.out.x 5 _ rfl
  have g0 := HDd.out.g 0 _ rfl
  have HGc : Hid (X.grownBy X.drew none) := grown_drewN X 1
  have HGo : Hid (∀ o, X.grownBy (X.alloc o).drew none) := fun o => grown_trans (World.grownBy_alloc X o none) (grown_drewN _ 1)
  have x0o : ∀ o, (X.alloc o).drew.cell? ⟨gb + 1, 5, none⟩ = some (.slice none 0 0) := fun o => (HGo.out o).cell x0 (by simp)
  have g0o : ∀ o, (X.alloc o).drew.cell? ⟨gb, 0, none⟩ = some (.slice ta tn tc) := fun o => (HGo.out o).cell g0 (by simp)
  have HSPK : Hid (∀ wA, (X.alloc (.cells #[.string { data := #[115, 112, 97, 114, 101] }, .int .i64 0] 74)).drew.grownBy wA none → ∀ j u, ([.string { data := #[115, 112, 97, 114, 101] }, .int .i64 0])[j]? = some u → wA.cell? ((⟨X.heap.size, 0, none⟩ : Addr).add j) = some u) := fun wA h => news_kept (w := (X.alloc (.cells #[.string { data := #[115, 112, 97, 114, 101] }, .int .i64 0] 74)).drew) (heap_alloc_last X _) h
  have hzz := HDd.out.lt
  have HFIN : Hid (∀ cur wB v1 v2, X.grownBy cur none → cur.ownsRow X.heap.size 74 2 v1 (0 + tn) ([] ++ tmsL ts) → wB.ownsRow X.heap.size 74 2 v2 (0 + tn + 1) ([] ++ tmsL ts ++ [.string { data := #[115, 112, 97, 114, 101] }, .int .i64 0]) → cur.grownBy wB v1.ownBlock → ∃ a c, v2 = .slice a (tn + 1) c ∧ wB.cell? ⟨gb + 1, 5, none⟩ = some (.slice none 0 0) ∧ wB.frozen? ⟨gb + 1, 5, none⟩ = false ∧ LdAt w (wB.setCell ⟨gb + 1, 5, none⟩ (.slice a (tn + 1) c)) gb #[.slice ta tn tc, .slice na nn nc, .slice la ln lc, .int .i64 st, .slice pa n pc] #[.slice none 0 0, .slice none 0 0, .slice none 0 0, .int .i64 0, .slice none 0 0, .slice a (tn + 1) c, .slice none 0 0, .slice none 0 0, .slice none 0 0, .slice none 0 0] ∧ (wB.setCell ⟨gb + 1, 5, none⟩ (.slice a (tn + 1) c)).ownsRow (gb + 1 + 1) 74 2 (.slice a (tn + 1) c) (tn + 1) (tmsL ts ++ [.string { data := #[115, 112, 97, 114, 101] }, .int .i64 0])) := by
    intro cur wB v1 v2 hc ho1 ho2 hg
    have hX := grown_row hc ho1 (Nat.le_refl _) hg
    have hL := HLd.out.kept hX
    have e1 : 0 + tn + 1 = tn + 1 := by omega
    rw [List.nil_append, e1] at ho2
    obtain ⟨a, c, rfl⟩ := owns_slice ho2
    refine ⟨a, c, rfl, hL.x 5 _ rfl, hL.xf 5, hL.store 5 _, owns_box (owns_lower ho2 (by have := HLd.out.lt; omega))⟩
  clear HLd
  go_cut [] from 8 to 20 (fun wx => ∃ a c, LdAt w wx gb #[.slice ta tn tc, .slice na nn nc, .slice la ln lc, .int .i64 st, .slice pa n pc] #[.slice none 0 0, .slice none 0 0, .slice none 0 0, .int .i64 0, .slice none 0 0, .slice a (tn + 1) c, .slice none 0 0, .slice none 0 0, .slice none 0 0, .slice none 0 0] ∧ wx.ownsRow (gb + 1 + 1) 74 2 (.slice a (tn + 1) c) (tn + 1) (tmsL ts ++ [.string { data := #[115, 112, 97, 114, 101] }, .int .i64 0]))
  case first =>
    as_aux_lemma =>
      go_region_law (first
        | (refine step_append_src rfl (.tmp 12) (.tmp 14) 28 rfl X.heap.size 74 iT (.agg #[.string ⟨#[]⟩, .int .i64 0]) 2 24 Try.underlying28 hiT hT0 hT1 hT2 rfl (by decide) (.slice none 0 0) 0 [] (by simp [Act.eval]) (World.ownsRow_nil _ _ _ _) ta tn tc (tmsL ts) (by simp [Act.eval]) HNT.out HSL.out (HSRC.out _ (by first | exact HGc.out | exact HGo.out _)) (tms_one ts) (by unfold maxLen; omega) (by omega) (by first | exact HGc.out.size | exact (HGo.out _).size) ?_; intro v1 wA hownA hgA; have HgA : Hid (X.grownBy wA none) := (by first | exact grown_trans HGc.out hgA | exact grown_trans (HGo.out _) hgA))
        | (refine step_append_src rfl (.tmp 15) (.tmp 17) 28 rfl X.heap.size 74 iT (.agg #[.string ⟨#[]⟩, .int .i64 0]) 2 24 Try.underlying28 hiT hT0 hT1 hT2 rfl (by decide) v1 (0 + tn) ([] ++ tmsL ts) (by simp [Act.eval]) (hownA.alloc _) (some ⟨wA.heap.size, 0, none⟩) 1 1 [.string { data := #[115, 112, 97, 114, 101] }, .int .i64 0] (by simp [Act.eval]) (fun h => by cases h) rfl (fun ad e => by cases e; exact news_new wA _ _) (by simp [Value.oneCell']) (by unfold maxLen; omega) (by omega) (by simp; have := HgA.out.size; omega) ?_; intro v2 wB hownB hgB; obtain ⟨aB, cB, rfl, y1, y2, y3⟩ := HFIN.out _ wB v1 v2 (grown_trans HgA.out (World.grownBy_alloc _ _ none)) (hownA.alloc _) hownB hgB)
        | (refine step_append_src rfl (.tmp 15) (.tmp 17) 28 rfl X.heap.size 74 iT (.agg #[.string ⟨#[]⟩, .int .i64 0]) 2 24 Try.underlying28 hiT hT0 hT1 hT2 rfl (by decide) v1 (0 + tn) ([] ++ tmsL ts) (by simp [Act.eval]) hownA (some ⟨X.heap.size, 0, none⟩) 1 1 [.string { data := #[115, 112, 97, 114, 101] }, .int .i64 0] (by simp [Act.eval]) (fun h => by cases h) rfl (fun ad e => by cases e; exact HSPK.out wA hgA) (by simp [Value.oneCell']) (by unfold maxLen; omega) (by omega) HgA.out.size ?_; intro v2 wB hownB hgB; obtain ⟨aB, cB, rfl, y1, y2, y3⟩ := HFIN.out _ wB v1 v2 HgA.out hownA hownB hgB))
      all_goals go_wp2_with fail
      all_goals go_meet
      all_goals exact ⟨aB, cB, y3⟩
  case rest =>
    obtain ⟨a1, c1, hL, hT⟩ := hcut
    clear HSRC HSL HDd x0 g0 HGc HGo x0o g0o HSPK hzz HFIN
    have HLd : Hid (LdAt w wc gb #[.slice ta tn tc, .slice na nn nc, .slice la ln lc, .int .i64 st, .slice pa n pc] #[.slice none 0 0, .slice none 0 0, .slice none 0 0, .int .i64 0, .slice none 0 0, .slice a1 (tn + 1) c1, .slice none 0 0, .slice none 0 0, .slice none 0 0, .slice none 0 0]) := hL
    have HRT : Hid (wc.ownsRow (gb + 1 + 1) 74 2 (.slice a1 (tn + 1) c1) (tn + 1) (tmsL ts ++ [.string { data := #[115, 112, 97, 114, 101] }, .int .i64 0])) := hT
    clear hL hT
    generalize wc = X2 at *
    go_wp2_with fail
    -- the names
    have HSRC : Hid (∀ Y, X2.grownBy Y none → ∀ ad, na = some ad → ∀ j u, (ns.map Value.string)[j]? = some u → Y.cell? (ad.add j) = some u) := fun Y hY => strs_cells (HG.out.kept (grown_trans HLd.out.grown hY)).nons
    have HSL : Hid ((ns.map Value.string).length = nn * 1) := by show _ = _; rw [List.length_map, HLN.out.2.1, Nat.mul_one]
    have HDd : Hid (LdAt w X2.drew gb #[.slice ta tn tc, .slice na nn nc, .slice la ln lc, .int .i64 st, .slice pa n pc] #[.slice none 0 0, .slice none 0 0, .slice none 0 0, .int .i64 0, .slice none 0 0, .slice a1 (tn + 1) c1, .slice none 0 0, .slice none 0 0, .slice none 0 0, .slice none 0 0]) := HLd.out.kept (grown_drewN X2 1)
    have x0 := HDd.out.x 6 _ rfl
    have g0 := HDd.out.g 1 _ rfl
    have HGc : Hid (X2.grownBy X2.drew none) := grown_drewN X2 1
    have HGo : Hid (∀ o, X2.grownBy (X2.alloc o).drew none) := fun o => grown_trans (World.grownBy_alloc X2 o none) (grown_drewN _ 1)
    have x0o : ∀ o, (X2.alloc o).drew.cell? ⟨gb + 1, 6, none⟩ = some (.slice none 0 0) := fun o => (HGo.out o).cell x0 (by simp)
    have g0o : ∀ o, (X2.alloc o).drew.cell? ⟨gb, 1, none⟩ = some (.slice na nn nc) := fun o => (HGo.out o).cell g0 (by simp)
    have HSPK : Hid (∀ wA, (X2.alloc (.cells #[.string { data := #[115, 112, 97, 114, 101] }] 9)).drew.grownBy wA none → ∀ j u, ([.string { data := #[115, 112, 97, 114, 101] }])[j]? = some u → wA.cell? ((⟨X2.heap.size, 0, none⟩ : Addr).add j) = some u) := fun wA h => news_kept (w := (X2.alloc (.cells #[.string { data := #[115, 112, 97, 114, 101] }] 9)).drew) (heap_alloc_last X2 _) h
    have hzz := HDd.out.lt
    have HFIN : Hid (∀ cur wB v1 v2, X2.grownBy cur none → cur.ownsRow X2.heap.size 9 1 v1 (0 + nn) ([] ++ ns.map Value.string) → wB.ownsRow X2.heap.size 9 1 v2 (0 + nn + 1) ([] ++ ns.map Value.string ++ [.string { data := #[115, 112, 97, 114, 101] }]) → cur.grownBy wB v1.ownBlock → ∃ a c, v2 = .slice a (nn + 1) c ∧ wB.cell? ⟨gb + 1, 6, none⟩ = some (.slice none 0 0) ∧ wB.frozen? ⟨gb + 1, 6, none⟩ = false ∧ LdAt w (wB.setCell ⟨gb + 1, 6, none⟩ (.slice a (nn + 1) c)) gb #[.slice ta tn tc, .slice na nn nc, .slice la ln lc, .int .i64 st, .slice pa n pc] #[.slice none 0 0, .slice none 0 0, .slice none 0 0, .int .i64 0, .slice none 0 0, .slice a1 (tn + 1) c1, .slice a (nn + 1) c, .slice none 0 0, .slice none 0 0, .slice none 0 0] ∧ (wB.setCell ⟨gb + 1, 6, none⟩ (.slice a (nn + 1) c)).ownsRow (gb + 1 + 1) 9 1 (.slice a (nn + 1) c) (nn + 1) (ns.map Value.string ++ [.string { data := #[115, 112, 97, 114, 101] }]) ∧ (wB.setCell ⟨gb + 1, 6, none⟩ (.slice a (nn + 1) c)).ownsRow (gb + 1 + 1) 74 2 (.slice a1 (tn + 1) c1) (tn + 1) (tmsL ts ++ [.string { data := #[115, 112, 97, 114, 101] }, .int .i64 0])) := by
      intro cur wB v1 v2 hc ho1 ho2 hg
      have hX := grown_row hc ho1 (Nat.le_refl _) hg
      have hL := HLd.out.kept hX
      have e1 : 0 + nn + 1 = nn + 1 := by omega
      rw [List.nil_append, e1] at ho2
      obtain ⟨a, c, rfl⟩ := owns_slice ho2
      refine ⟨a, c, rfl, hL.x 6 _ rfl, hL.xf 6, hL.store 6 _, owns_box (owns_lower ho2 (by have := HLd.out.lt; omega)), owns_box (keep0 HRT.out hX)⟩
    clear HLd
    go_cut [] from 21 to 32 (fun wx => ∃ a c, LdAt w wx gb #[.slice ta tn tc, .slice na nn nc, .slice la ln lc, .int .i64 st, .slice pa n pc] #[.slice none 0 0, .slice none 0 0, .slice none 0 0, .int .i64 0, .slice none 0 0, .slice a1 (tn + 1) c1, .slice a (nn + 1) c, .slice none 0 0, .slice none 0 0, .slice none 0 0] ∧ wx.ownsRow (gb + 1 + 1) 9 1 (.slice a (nn + 1) c) (nn + 1) (ns.map Value.string ++ [.string { data := #[115, 112, 97, 114, 101] }]) ∧ wx.ownsRow (gb + 1 + 1) 74 2 (.slice a1 (tn + 1) c1) (tn + 1) (tmsL ts ++ [.string { data := #[115, 112, 97, 114, 101] }, .int .i64 0]))
    case first =>
      as_aux_lemma =>
        go_region_law (first
          | (refine step_append_src rfl (.tmp 25) (.tmp 27) 29 rfl X2.heap.size 9 iS (.string ByteArray.empty) 1 16 Try.underlying29 hiS hS0 hS1 hS2 rfl (by decide) (.slice none 0 0) 0 [] (by simp [Act.eval]) (World.ownsRow_nil _ _ _ _) na nn nc (ns.map Value.string) (by simp [Act.eval]) HNN.out HSL.out (HSRC.out _ (by first | exact HGc.out | exact HGo.out _)) (strs_one ns) (by unfold maxLen; omega) (by omega) (by first | exact HGc.out.size | exact (HGo.out _).size) ?_; intro v1 wA hownA hgA; have HgA : Hid (X2.grownBy wA none) := (by first | exact grown_trans HGc.out hgA | exact grown_trans (HGo.out _) hgA))
          | (refine step_append_src rfl (.tmp 28) (.tmp 29) 29 rfl X2.heap.size 9 iS (.string ByteArray.empty) 1 16 Try.underlying29 hiS hS0 hS1 hS2 rfl (by decide) v1 (0 + nn) ([] ++ ns.map Value.string) (by simp [Act.eval]) (hownA.alloc _) (some ⟨wA.heap.size, 0, none⟩) 1 1 [.string { data := #[115, 112, 97, 114, 101] }] (by simp [Act.eval]) (fun h => by cases h) rfl (fun ad e => by cases e; exact news_new wA _ _) (by simp [Value.oneCell']) (by unfold maxLen; omega) (by omega) (by simp; have := HgA.out.size; omega) ?_; intro v2 wB hownB hgB; obtain ⟨aB, cB, rfl, y1, y2, y3⟩ := HFIN.out _ wB v1 v2 (grown_trans HgA.out (World.grownBy_alloc _ _ none)) (hownA.alloc _) hownB hgB)
          | (refine step_append_src rfl (.tmp 28) (.tmp 29) 29 rfl X2.heap.size 9 iS (.string ByteArray.empty) 1 16 Try.underlying29 hiS hS0 hS1 hS2 rfl (by decide) v1 (0 + nn) ([] ++ ns.map Value.string) (by simp [Act.eval]) hownA (some ⟨X2.heap.size, 0, none⟩) 1 1 [.string { data := #[115, 112, 97, 114, 101] }] (by simp [Act.eval]) (fun h => by cases h) rfl (fun ad e => by cases e; exact HSPK.out wA hgA) (by simp [Value.oneCell']) (by unfold maxLen; omega) (by omega) HgA.out.size ?_; intro v2 wB hownB hgB; obtain ⟨aB, cB, rfl, y1, y2, y3⟩ := HFIN.out _ wB v1 v2 HgA.out hownA hownB hgB))
        all_goals go_wp2_with fail
        all_goals go_meet
        all_goals exact ⟨aB, cB, y3⟩
    case rest =>
      obtain ⟨a2, c2, hL, hS, hT⟩ := hcut
      clear HSRC HSL HDd x0 g0 HGc HGo x0o g0o HSPK hzz HFIN HRT
      have HLd : Hid (LdAt w wc gb #[.slice ta tn tc, .slice na nn nc, .slice la ln lc, .int .i64 st, .slice pa n pc] #[.slice none 0 0, .slice none 0 0, .slice none 0 0, .int .i64 0, .slice none 0 0, .slice a1 (tn + 1) c1, .slice a2 (nn + 1) c2, .slice none 0 0, .slice none 0 0, .slice none 0 0]) := hL
      have HRT : Hid (wc.ownsRow (gb + 1 + 1) 74 2 (.slice a1 (tn + 1) c1) (tn + 1) (tmsL ts ++ [.string { data := #[115, 112, 97, 114, 101] }, .int .i64 0])) := hT
      have HRS : Hid (wc.ownsRow (gb + 1 + 1) 9 1 (.slice a2 (nn + 1) c2) (nn + 1) (ns.map Value.string ++ [.string { data := #[115, 112, 97, 114, 101] }])) := hS
      clear hL hS hT
      generalize wc = X3 at *
      go_wp2_with fail
      -- the levels
      have HSRC : Hid (∀ Y, X3.grownBy Y none → ∀ ad, la = some ad → ∀ j u, (lv.map (Value.int .i64))[j]? = some u → Y.cell? (ad.add j) = some u) := fun Y hY => ints_cells (HG.out.kept (grown_trans HLd.out.grown hY)).levels
      have HSL : Hid ((lv.map (Value.int .i64)).length = ln * 1) := by show _ = _; rw [List.length_map, HLN.out.2.2, Nat.mul_one]
      have HDd : Hid (LdAt w X3.drew gb #[.slice ta tn tc, .slice na nn nc, .slice la ln lc, .int .i64 st, .slice pa n pc] #[.slice none 0 0, .slice none 0 0, .slice none 0 0, .int .i64 0, .slice none 0 0, .slice a1 (tn + 1) c1, .slice a2 (nn + 1) c2, .slice none 0 0, .slice none 0 0, .slice none 0 0]) := HLd.out.kept (grown_drewN X3 1)
      have x0 := HDd.out.x 7 _ rfl
      have g0 := HDd.out.g 2 _ rfl
      have HGc : Hid (X3.grownBy X3.drew none) := grown_drewN X3 1
      have HGo : Hid (∀ o, X3.grownBy (X3.alloc o).drew none) := fun o => grown_trans (World.grownBy_alloc X3 o none) (grown_drewN _ 1)
      have x0o : ∀ o, (X3.alloc o).drew.cell? ⟨gb + 1, 7, none⟩ = some (.slice none 0 0) := fun o => (HGo.out o).cell x0 (by simp)
      have g0o : ∀ o, (X3.alloc o).drew.cell? ⟨gb, 2, none⟩ = some (.slice la ln lc) := fun o => (HGo.out o).cell g0 (by simp)
      have HSPK : Hid (∀ wA, (X3.alloc (.cells #[.int .i64 77] 3)).drew.grownBy wA none → ∀ j u, ([.int .i64 77])[j]? = some u → wA.cell? ((⟨X3.heap.size, 0, none⟩ : Addr).add j) = some u) := fun wA h => news_kept (w := (X3.alloc (.cells #[.int .i64 77] 3)).drew) (heap_alloc_last X3 _) h
      have hzz := HDd.out.lt
      have HFIN : Hid (∀ cur wB v1 v2, X3.grownBy cur none → cur.ownsRow X3.heap.size 3 1 v1 (0 + ln) ([] ++ lv.map (Value.int .i64)) → wB.ownsRow X3.heap.size 3 1 v2 (0 + ln + 1) ([] ++ lv.map (Value.int .i64) ++ [.int .i64 77]) → cur.grownBy wB v1.ownBlock → ∃ a c, v2 = .slice a (ln + 1) c ∧ wB.cell? ⟨gb + 1, 7, none⟩ = some (.slice none 0 0) ∧ wB.frozen? ⟨gb + 1, 7, none⟩ = false ∧ LdAt w (wB.setCell ⟨gb + 1, 7, none⟩ (.slice a (ln + 1) c)) gb #[.slice ta tn tc, .slice na nn nc, .slice la ln lc, .int .i64 st, .slice pa n pc] #[.slice none 0 0, .slice none 0 0, .slice none 0 0, .int .i64 0, .slice none 0 0, .slice a1 (tn + 1) c1, .slice a2 (nn + 1) c2, .slice a (ln + 1) c, .slice none 0 0, .slice none 0 0] ∧ (wB.setCell ⟨gb + 1, 7, none⟩ (.slice a (ln + 1) c)).ownsRow (gb + 1 + 1) 3 1 (.slice a (ln + 1) c) (ln + 1) (lv.map (Value.int .i64) ++ [.int .i64 77]) ∧ (wB.setCell ⟨gb + 1, 7, none⟩ (.slice a (ln + 1) c)).ownsRow (gb + 1 + 1) 74 2 (.slice a1 (tn + 1) c1) (tn + 1) (tmsL ts ++ [.string { data := #[115, 112, 97, 114, 101] }, .int .i64 0]) ∧ (wB.setCell ⟨gb + 1, 7, none⟩ (.slice a (ln + 1) c)).ownsRow (gb + 1 + 1) 9 1 (.slice a2 (nn + 1) c2) (nn + 1) (ns.map Value.string ++ [.string { data := #[115, 112, 97, 114, 101] }])) := by
        intro cur wB v1 v2 hc ho1 ho2 hg
        have hX := grown_row hc ho1 (Nat.le_refl _) hg
        have hL := HLd.out.kept hX
        have e1 : 0 + ln + 1 = ln + 1 := by omega
        rw [List.nil_append, e1] at ho2
        obtain ⟨a, c, rfl⟩ := owns_slice ho2
        refine ⟨a, c, rfl, hL.x 7 _ rfl, hL.xf 7, hL.store 7 _, owns_box (owns_lower ho2 (by have := HLd.out.lt; omega)), owns_box (keep0 HRT.out hX), owns_box (keep0 HRS.out hX)⟩
      clear HLd
      go_cut [] from 33 to 44 (fun wx => ∃ a c, LdAt w wx gb #[.slice ta tn tc, .slice na nn nc, .slice la ln lc, .int .i64 st, .slice pa n pc] #[.slice none 0 0, .slice none 0 0, .slice none 0 0, .int .i64 0, .slice none 0 0, .slice a1 (tn + 1) c1, .slice a2 (nn + 1) c2, .slice a (ln + 1) c, .slice none 0 0, .slice none 0 0] ∧ wx.ownsRow (gb + 1 + 1) 3 1 (.slice a (ln + 1) c) (ln + 1) (lv.map (Value.int .i64) ++ [.int .i64 77]) ∧ wx.ownsRow (gb + 1 + 1) 74 2 (.slice a1 (tn + 1) c1) (tn + 1) (tmsL ts ++ [.string { data := #[115, 112, 97, 114, 101] }, .int .i64 0]) ∧ wx.ownsRow (gb + 1 + 1) 9 1 (.slice a2 (nn + 1) c2) (nn + 1) (ns.map Value.string ++ [.string { data := #[115, 112, 97, 114, 101] }]))
      case first =>
        as_aux_lemma =>
          go_region_law (first
            | (refine step_append_src rfl (.tmp 37) (.tmp 39) 30 rfl X3.heap.size 3 iI (.int .i64 0) 1 8 Try.underlying30 hiI hI0 hI1 hI2 rfl (by decide) (.slice none 0 0) 0 [] (by simp [Act.eval]) (World.ownsRow_nil _ _ _ _) la ln lc (lv.map (Value.int .i64)) (by simp [Act.eval]) HNL.out HSL.out (HSRC.out _ (by first | exact HGc.out | exact HGo.out _)) (ints_oneCell' lv) (by unfold maxLen; omega) (by omega) (by first | exact HGc.out.size | exact (HGo.out _).size) ?_; intro v1 wA hownA hgA; have HgA : Hid (X3.grownBy wA none) := (by first | exact grown_trans HGc.out hgA | exact grown_trans (HGo.out _) hgA))
            | (refine step_append_src rfl (.tmp 40) (.tmp 41) 30 rfl X3.heap.size 3 iI (.int .i64 0) 1 8 Try.underlying30 hiI hI0 hI1 hI2 rfl (by decide) v1 (0 + ln) ([] ++ lv.map (Value.int .i64)) (by simp [Act.eval]) (hownA.alloc _) (some ⟨wA.heap.size, 0, none⟩) 1 1 [.int .i64 77] (by simp [Act.eval]) (fun h => by cases h) rfl (fun ad e => by cases e; exact news_new wA _ _) (by simp [Value.oneCell']) (by unfold maxLen; omega) (by omega) (by simp; have := HgA.out.size; omega) ?_; intro v2 wB hownB hgB; obtain ⟨aB, cB, rfl, y1, y2, y3⟩ := HFIN.out _ wB v1 v2 (grown_trans HgA.out (World.grownBy_alloc _ _ none)) (hownA.alloc _) hownB hgB)
            | (refine step_append_src rfl (.tmp 40) (.tmp 41) 30 rfl X3.heap.size 3 iI (.int .i64 0) 1 8 Try.underlying30 hiI hI0 hI1 hI2 rfl (by decide) v1 (0 + ln) ([] ++ lv.map (Value.int .i64)) (by simp [Act.eval]) hownA (some ⟨X3.heap.size, 0, none⟩) 1 1 [.int .i64 77] (by simp [Act.eval]) (fun h => by cases h) rfl (fun ad e => by cases e; exact HSPK.out wA hgA) (by simp [Value.oneCell']) (by unfold maxLen; omega) (by omega) HgA.out.size ?_; intro v2 wB hownB hgB; obtain ⟨aB, cB, rfl, y1, y2, y3⟩ := HFIN.out _ wB v1 v2 HgA.out hownA hownB hgB))
          all_goals go_wp2_with fail
          all_goals go_meet
          all_goals exact ⟨aB, cB, y3⟩
      case rest =>
        obtain ⟨a3, c3, hL, hLv, hT, hS⟩ := hcut
        clear HSRC HSL HDd x0 g0 HGc HGo x0o g0o HSPK hzz HFIN HRT HRS
        have HLd : Hid (LdAt w wc gb #[.slice ta tn tc, .slice na nn nc, .slice la ln lc, .int .i64 st, .slice pa n pc] #[.slice none 0 0, .slice none 0 0, .slice none 0 0, .int .i64 0, .slice none 0 0, .slice a1 (tn + 1) c1, .slice a2 (nn + 1) c2, .slice a3 (ln + 1) c3, .slice none 0 0, .slice none 0 0]) := hL
        have HM : Hid (LMid wc (gb + 1 + 1) ts ns lv 0 0 L R V a1 a2 a3 none none tn nn ln c1 c2 c3 0 0 (fun _ => (0, 0))) := ⟨hT, hS, hLv, World.ownsRow_nil _ _ _ _, World.ownsRow_nil _ _ _ _, fun i hi => absurd hi (Nat.not_lt_zero i)⟩
        clear hL hLv hT hS
        generalize wc = X4 at *
        go_wp2_with fail
        go_loopg [4, 5] n (fun gk i v5 wr => ∃ (k : Nat) (a4 a5 : Option Addr) (c4 c5 : Nat) (rg : Nat → Nat × Nat), k ≤ n ∧ gk = n - k ∧ i = .int .i64 k ∧ LdAt w wr gb #[.slice ta tn tc, .slice na nn nc, .slice la ln lc, .int .i64 st, .slice pa n pc] #[.slice none 0 0, .slice none 0 0, .slice none 0 0, .int .i64 0, .slice none 0 0, .slice a1 (tn + 1) c1, .slice a2 (nn + 1) c2, .slice a3 (ln + 1) c3, .slice a4 k c4, .slice a5 k c5] ∧ LMid wr (gb + 1 + 1) ts ns lv k k L R V a1 a2 a3 a4 a5 tn nn ln c1 c2 c3 c4 c5 rg)
        case atStart => exact ⟨0, none, none, 0, 0, _, Nat.zero_le _, rfl, rfl, HLd.out, HM.out⟩
        case round =>
          obtain ⟨k, a4, a5, c4, c5, rg, hk, hgk, rfl, hL, hM⟩ := hrel
          clear HLd HM
          have HLd : Hid (LdAt w wr gb #[.slice ta tn tc, .slice na nn nc, .slice la ln lc, .int .i64 st, .slice pa n pc] #[.slice none 0 0, .slice none 0 0, .slice none 0 0, .int .i64 0, .slice none 0 0, .slice a1 (tn + 1) c1, .slice a2 (nn + 1) c2, .slice a3 (ln + 1) c3, .slice a4 k c4, .slice a5 k c5]) := hL
          have HM : Hid (LMid wr (gb + 1 + 1) ts ns lv k k L R V a1 a2 a3 a4 a5 tn nn ln c1 c2 c3 c4 c5 rg) := hM
          have HGK : Hid (gk = n - k) := hgk
          have g4 := hL.g 4 _ rfl
          have hzz := hL.lt
          clear hL hM hgk
          by_cases hlt : k < n
          · obtain ⟨bp, op, hpa, hps⟩ : ∃ b off, pa = some ⟨b, off, none⟩ ∧ ∀ k, k < n → wr.cell? ⟨b, off + k * 3, none⟩ = some (.int .i64 (L k)) ∧ wr.cell? ⟨b, off + k * 3 + 1, none⟩ = some (.slice (ra k) (R k).length (rc k)) ∧ wr.cell? ⟨b, off + k * 3 + 2, none⟩ = some (.int .i64 (V k)) ∧ IntsAt wr (ra k) (R k) ∧ (ra k = none → rc k = 0) ∧ (R k).length ≤ 17592186044416 := by
              rcases (HG.out.kept HLd.out.grown).prods with h | h
              · omega
              · exact h
            obtain ⟨p0, p1, p2, hI, hrn, _⟩ := hps k hlt
            have hrl := H5.out k hlt
            have HI : Hid (IntsAt wr (ra k) (R k)) := hI
            obtain ⟨len, hlen⟩ : ∃ len, len = (R k).length := ⟨_, rfl⟩
            have HLE : Hid ((R k).length = len) := hlen.symm
            have HNR : Hid (ra k = none → len = 0 ∧ rc k = 0) := fun h => by
              refine ⟨?_, hrn h⟩
              rcases hI with h' | ⟨b, off, e, _⟩
              · rw [hlen, h']; rfl
              · rw [h] at e; cases e
            rw [← hlen] at p1 hrl
            have HPA : Hid (pa = some ⟨bp, op, none⟩) := hpa
            rw [hpa] at g4
            clear hps hI hrn hlen hpa
            have HSL : Hid (((R k).map (Value.int .i64)).length = len * 1) := by show _ = _; rw [List.length_map, HLE.out, Nat.mul_one]
            have HS2 : Hid (∀ w1 w2 v1 v2 o, wr.grownBy w1 none → (w1.alloc o).ownsRow wr.heap.size 3 1 v1 (0 + len) ([] ++ (R k).map (Value.int .i64)) → w2.ownsRow wr.heap.size 3 1 v2 (0 + len + 1) ([] ++ (R k).map (Value.int .i64) ++ [.int .i64 77]) → (w1.alloc o).grownBy w2 v1.ownBlock → ∃ g c, v2 = .slice (some ⟨g, 0, none⟩) (len + 1) c ∧ LdAt w w2 gb #[.slice ta tn tc, .slice na nn nc, .slice la ln lc, .int .i64 st, .slice pa n pc] #[.slice none 0 0, .slice none 0 0, .slice none 0 0, .int .i64 0, .slice none 0 0, .slice a1 (tn + 1) c1, .slice a2 (nn + 1) c2, .slice a3 (ln + 1) c3, .slice a4 k c4, .slice a5 k c5] ∧ LMid w2 (gb + 1 + 1) ts ns lv k k L R V a1 a2 a3 a4 a5 tn nn ln c1 c2 c3 c4 c5 rg ∧ w2.ownsRow (gb + 1 + 1) 3 1 (.slice (some ⟨g, 0, none⟩) (len + 1) c) (len + 1) ((R k).map (Value.int .i64) ++ [.int .i64 77])) := by
              intro w1 w2 v1 v2 o hc ho1 ho2 hg
              have hX := grown_row (grown_trans hc (World.grownBy_alloc w1 o none)) ho1 (Nat.le_refl _) hg
              have e1 : 0 + len + 1 = len + 1 := by omega
              rw [List.nil_append, e1] at ho2
              obtain ⟨a, c, rfl⟩ := owns_slice ho2
              obtain ⟨g, rfl⟩ : ∃ g, a = some ⟨g, 0, none⟩ := by
                rcases ho2.2 with ⟨_, h⟩ | ⟨g, _, _, hv, _⟩
                · omega
                · simp at hv; exact ⟨g, hv.1⟩
              exact ⟨g, c, rfl, HLd.out.kept hX, HM.out.kept hX, owns_lower ho2 (by have := HLd.out.lt; omega)⟩
            have HS3 : Hid (∀ w2 w3 v3 g c o, LdAt w w2 gb #[.slice ta tn tc, .slice na nn nc, .slice la ln lc, .int .i64 st, .slice pa n pc] #[.slice none 0 0, .slice none 0 0, .slice none 0 0, .int .i64 0, .slice none 0 0, .slice a1 (tn + 1) c1, .slice a2 (nn + 1) c2, .slice a3 (ln + 1) c3, .slice a4 k c4, .slice a5 k c5] → LMid w2 (gb + 1 + 1) ts ns lv k k L R V a1 a2 a3 a4 a5 tn nn ln c1 c2 c3 c4 c5 rg → w2.ownsRow (gb + 1 + 1) 3 1 (.slice (some ⟨g, 0, none⟩) (len + 1) c) (len + 1) ((R k).map (Value.int .i64) ++ [.int .i64 77]) → w3.ownsRow (gb + 1 + 1) 30 1 v3 (k + 1) (((List.range k).map fun i => .slice (some ⟨(rg i).1, 0, none⟩) ((R i).length + 1) (rg i).2) ++ [.slice (some ⟨g, 0, none⟩) (len + 1) c]) → (w2.alloc o).grownBy w3 (Value.slice a4 k c4).ownBlock → ∃ a c', v3 = .slice a (k + 1) c' ∧ w3.cell? ⟨gb + 1, 8, none⟩ = some (.slice a4 k c4) ∧ w3.frozen? ⟨gb + 1, 8, none⟩ = false ∧ LdAt w (w3.setCell ⟨gb + 1, 8, none⟩ (.slice a (k + 1) c')) gb #[.slice ta tn tc, .slice na nn nc, .slice la ln lc, .int .i64 st, .slice pa n pc] #[.slice none 0 0, .slice none 0 0, .slice none 0 0, .int .i64 0, .slice none 0 0, .slice a1 (tn + 1) c1, .slice a2 (nn + 1) c2, .slice a3 (ln + 1) c3, .slice a (k + 1) c', .slice a5 k c5] ∧ LMid (w3.setCell ⟨gb + 1, 8, none⟩ (.slice a (k + 1) c')) (gb + 1 + 1) ts ns lv (k + 1) k L R V a1 a2 a3 a a5 tn nn ln c1 c2 c3 c' c5 (fun i => if i = k then (g, c) else rg i)) := by
              intro w2 w3 v3 g c o hL hM ho hr hg
              have ho' := keep0 ho (World.grownBy_alloc w2 o none)
              rw [← HLE.out] at ho' hr
              obtain ⟨a, c', rfl, hM'⟩ := (hM.kept (World.grownBy_alloc w2 o none)).pushR (Nat.le_refl _) ho' hr hg
              have hL' := (hL.kept (World.grownBy_alloc w2 o none)).row (hM.kept (World.grownBy_alloc w2 o none)).r hg
              exact ⟨a, c', rfl, hL'.x 8 _ rfl, hL'.xf 8, hL'.store 8 _, hM'.box⟩
            clear HM
            go_wp2_with (at_builtin; first
              | (refine wpList_append_src rfl (.tmp 52) (.tmp 58) 30 rfl wr.heap.size 3 iI (.int .i64 0) 1 8 Try.underlying30 hiI hI0 hI1 hI2 rfl (by decide) (.slice none 0 0) 0 [] rfl (World.ownsRow_nil _ _ _ _) (ra k) len (rc k) ((R k).map (Value.int .i64)) rfl HNR.out HSL.out (ints_cells HI.out) (ints_oneCell' _) (by unfold maxLen; omega) (by omega) (Nat.le_refl _) ?_; intro v1 w1 hown1 hg1)
              | (refine wpList_append_src rfl (.tmp 59) (.tmp 60) 30 rfl wr.heap.size 3 iI (.int .i64 0) 1 8 Try.underlying30 hiI hI0 hI1 hI2 rfl (by decide) v1 (0 + len) ([] ++ (R k).map (Value.int .i64)) rfl (hown1.alloc _) (some ⟨w1.heap.size, 0, none⟩) 1 1 [.int .i64 77] rfl (fun h => by cases h) rfl (fun ad e => by cases e; exact news_new w1 _ _) (by simp [Value.oneCell']) (by unfold maxLen; omega) (by omega) (by simp; have := hg1.size; omega) ?_; intro v2 w2 hown2 hg2; obtain ⟨g, c, rfl, hL2, hM2, hr2⟩ := HS2.out w1 w2 v1 v2 _ hg1 (hown1.alloc _) hown2 hg2; have x8 := hL2.x 8 _ rfl; have hz2 := hL2.lt; have HL2 : Hid (LdAt w w2 gb #[.slice ta tn tc, .slice na nn nc, .slice la ln lc, .int .i64 st, .slice pa n pc] #[.slice none 0 0, .slice none 0 0, .slice none 0 0, .int .i64 0, .slice none 0 0, .slice a1 (tn + 1) c1, .slice a2 (nn + 1) c2, .slice a3 (ln + 1) c3, .slice a4 k c4, .slice a5 k c5]) := hL2; have HM2 : Hid (LMid w2 (gb + 1 + 1) ts ns lv k k L R V a1 a2 a3 a4 a5 tn nn ln c1 c2 c3 c4 c5 rg) := hM2; have HR2 : Hid (w2.ownsRow (gb + 1 + 1) 3 1 (.slice (some ⟨g, 0, none⟩) (len + 1) c) (len + 1) ((R k).map (Value.int .i64) ++ [.int .i64 77])) := hr2; clear hL2 hM2 hr2 hown2 hg2 hown1 hg1)
              | (refine wpList_append_src rfl (.tmp 66) (.tmp 68) 46 rfl (gb + 1 + 1) 30 iR (.slice none 0 0) 1 24 Try.underlying46 hiR hR0 hR1 hR2 rfl (by decide) (.slice a4 k c4) k _ rfl (HM2.out.kept (World.grownBy_alloc w2 _ none)).r (some ⟨w2.heap.size, 0, none⟩) 1 1 [.slice (some ⟨g, 0, none⟩) (len + 1) c] rfl (fun h => by cases h) rfl (fun ad e => by cases e; exact news_new w2 _ _) (by simp [Value.oneCell']) (by unfold maxLen; omega) (by omega) (by simp; omega) ?_; intro v3 w3 hown3 hg3; obtain ⟨aR, cR, rfl, y1, y2, hL3, hM3⟩ := HS3.out w2 w3 v3 g c _ HL2.out HM2.out HR2.out hown3 hg3; have HL3 : Hid (LdAt w (w3.setCell ⟨gb + 1, 8, none⟩ (.slice aR (k + 1) cR)) gb #[.slice ta tn tc, .slice na nn nc, .slice la ln lc, .int .i64 st, .slice pa n pc] #[.slice none 0 0, .slice none 0 0, .slice none 0 0, .int .i64 0, .slice none 0 0, .slice a1 (tn + 1) c1, .slice a2 (nn + 1) c2, .slice a3 (ln + 1) c3, .slice aR (k + 1) cR, .slice a5 k c5]) := hL3; have HM3 : Hid (LMid (w3.setCell ⟨gb + 1, 8, none⟩ (.slice aR (k + 1) cR)) (gb + 1 + 1) ts ns lv (k + 1) k L R V a1 a2 a3 aR a5 tn nn ln c1 c2 c3 cR c5 (fun i => if i = k then (g, c) else rg i)) := hM3; clear hL3 hM3 hown3 hg3))
            generalize hX5 : w3.setCell ⟨gb + 1, 8, none⟩ (.slice aR (k + 1) cR) = X5 at *
            have HDd : Hid (LdAt w X5.drew gb #[.slice ta tn tc, .slice na nn nc, .slice la ln lc, .int .i64 st, .slice pa n pc] #[.slice none 0 0, .slice none 0 0, .slice none 0 0, .int .i64 0, .slice none 0 0, .slice a1 (tn + 1) c1, .slice a2 (nn + 1) c2, .slice a3 (ln + 1) c3, .slice aR (k + 1) cR, .slice a5 k c5]) := HL3.out.kept (grown_drewN X5 1)
            have HGo : Hid (∀ o, X5.grownBy (X5.alloc o).drew none) := fun o => grown_trans (World.grownBy_alloc X5 o none) (grown_drewN _ 1)
            have x9 := HDd.out.x 9 _ rfl
            have q4 : X5.drew.cell? ⟨gb, 4, none⟩ = some (.slice (some ⟨bp, op, none⟩) n pc) := by have := HDd.out.g 4 _ rfl; rw [HPA.out] at this; exact this
            obtain ⟨q0, q2⟩ : X5.drew.cell? ⟨bp, op + k * 3, none⟩ = some (.int .i64 (L k)) ∧ X5.drew.cell? ⟨bp, op + k * 3 + 2, none⟩ = some (.int .i64 (V k)) := by
              rcases (HG.out.kept HDd.out.grown).prods with h | ⟨b', off', e, h⟩
              · omega
              · rw [HPA.out] at e
                simp only [Option.some.injEq, Addr.mk.injEq, and_true] at e
                obtain ⟨rfl, rfl⟩ := e
                exact ⟨(h k hlt).1, (h k hlt).2.2.1⟩
            have x9o : ∀ o, (X5.alloc o).drew.cell? ⟨gb + 1, 9, none⟩ = some (.slice a5 k c5) := fun o => (HGo.out o).cell x9 (by simp)
            have hz5 : gb + 1 < X5.heap.size := HDd.out.lt
            have HKL : Hid (∀ Z bv, LdAt w Z gb #[.slice ta tn tc, .slice na nn nc, .slice la ln lc, .int .i64 st, .slice pa n pc] bv → Z.cell? ⟨gb, 4, none⟩ = some (.slice (some ⟨bp, op, none⟩) n pc) ∧ Z.cell? ⟨bp, op + k * 3, none⟩ = some (.int .i64 (L k)) ∧ Z.cell? ⟨bp, op + k * 3 + 2, none⟩ = some (.int .i64 (V k))) := by
              intro Z bv hL'
              refine ⟨by have := hL'.g 4 _ rfl; rw [HPA.out] at this; exact this, ?_⟩
              rcases (HG.out.kept hL'.grown).prods with h | ⟨b', off', e, h⟩
              · omega
              · rw [HPA.out] at e
                simp only [Option.some.injEq, Addr.mk.injEq, and_true] at e
                obtain ⟨rfl, rfl⟩ := e
                exact ⟨(h k hlt).1, (h k hlt).2.2.1⟩
            have HDo : Hid (∀ o, LdAt w (X5.alloc o).drew gb #[.slice ta tn tc, .slice na nn nc, .slice la ln lc, .int .i64 st, .slice pa n pc] #[.slice none 0 0, .slice none 0 0, .slice none 0 0, .int .i64 0, .slice none 0 0, .slice a1 (tn + 1) c1, .slice a2 (nn + 1) c2, .slice a3 (ln + 1) c3, .slice aR (k + 1) cR, .slice a5 k c5]) := fun o => HL3.out.kept (HGo.out o)
            have HS4 : Hid (∀ w4 v4 o, w4.ownsRow (gb + 1 + 1) 52 3 v4 (k + 1) (prodRow k L (fun i => .slice (some ⟨((fun i => if i = k then (g, c) else rg i) i).1, 0, none⟩) (R i).length ((fun i => if i = k then (g, c) else rg i) i).2) V ++ [.int .i64 (L k), .slice (some ⟨g, 0, none⟩) len c, .int .i64 (V k)]) → (X5.alloc o).drew.grownBy w4 (Value.slice a5 k c5).ownBlock → ∃ a c', v4 = .slice a (k + 1) c' ∧ w4.cell? ⟨gb + 1, 9, none⟩ = some (.slice a5 k c5) ∧ w4.frozen? ⟨gb + 1, 9, none⟩ = false ∧ LdAt w w4 gb #[.slice ta tn tc, .slice na nn nc, .slice la ln lc, .int .i64 st, .slice pa n pc] #[.slice none 0 0, .slice none 0 0, .slice none 0 0, .int .i64 0, .slice none 0 0, .slice a1 (tn + 1) c1, .slice a2 (nn + 1) c2, .slice a3 (ln + 1) c3, .slice aR (k + 1) cR, .slice a5 k c5] ∧ LdAt w (w4.setCell ⟨gb + 1, 9, none⟩ (.slice a (k + 1) c')) gb #[.slice ta tn tc, .slice na nn nc, .slice la ln lc, .int .i64 st, .slice pa n pc] #[.slice none 0 0, .slice none 0 0, .slice none 0 0, .int .i64 0, .slice none 0 0, .slice a1 (tn + 1) c1, .slice a2 (nn + 1) c2, .slice a3 (ln + 1) c3, .slice aR (k + 1) cR, .slice a (k + 1) c'] ∧ LMid (w4.setCell ⟨gb + 1, 9, none⟩ (.slice a (k + 1) c')) (gb + 1 + 1) ts ns lv (k + 1) (k + 1) L R V a1 a2 a3 aR a tn nn ln c1 c2 c3 cR c' (fun i => if i = k then (g, c) else rg i)) := by
              intro w4 v4 o hp hg
              have hM' := HM3.out.kept (HGo.out o)
              have hL' := (HL3.out.kept (HGo.out o)).row hM'.p hg
              obtain ⟨a, c', rfl, hM4⟩ := hM'.pushP (by
                have e1 : (if k = k then (g, c) else rg k) = (g, c) := if_pos rfl
                rw [HLE.out, e1]
                exact hp) hg
              exact ⟨a, c', rfl, hL'.x 9 _ rfl, hL'.xf 9, hL', hL'.store 9 _, hM4.box⟩
            have HPR : Hid (∀ o, (X5.alloc o).drew.ownsRow (gb + 1 + 1) 52 3 (.slice a5 k c5) k (prodRow k L (fun i => .slice (some ⟨((fun i => if i = k then (g, c) else rg i) i).1, 0, none⟩) (R i).length ((fun i => if i = k then (g, c) else rg i) i).2) V)) := fun o => (HM3.out.kept (HGo.out o)).p
            have HNW : Hid (∀ j u, [Value.int .i64 (L k), .slice (some ⟨g, 0, none⟩) len c, .int .i64 (V k)][j]? = some u → (X5.alloc (.cells #[.int .i64 (L k), .slice (some ⟨g, 0, none⟩) len c, .int .i64 (V k)] 52)).drew.cell? ((⟨X5.heap.size, 0, none⟩ : Addr).add j) = some u) := news_new X5 _ _
            have HLc : Hid (len + 1 ≤ c) := by
              have hrow := HM3.out.rr k (by omega)
              simp only [if_true] at hrow
              have := (owns_bounds hrow).1
              rw [HLE.out] at this
              exact this
            have hlc : (len : Int) ≤ (c : Int) := by have := HLc.out; omega
            have hl0 : (0 : Int) ≤ (len : Int) := by omega
            have hwl : IntKind.i64.wrap (len : Int) = (len : Int) := by simp [IntKind.wrap, IntKind.signed, IntKind.bits]; omega
            clear HL3 HM3 HS2 HS3 y1 y2 hX5 x8 p0 p1 p2 g4 HDd HL2 HM2 HR2 HSL HNR HI hz2 hzz
            refine lend_r11q (gb := gb) (bp := bp) (op := op) (n := n) (pc := pc) (k := k) (len := len) (c := c) (g := g) (c5 := c5) (a5 := a5) (Lk := L k) (Vk := V k) q4 q0 q2 x9 x9o hlt h4 hz5 (by have h9 := H5.out k hlt; rw [HLE.out] at h9; exact h9) hlc HPR.out ?_
            intro w4 v4 hown4 hg4
            obtain ⟨aB, cB, rfl, y1, y2, y0, y3⟩ := HS4.out w4 v4 _ hown4 hg4
            refine ⟨aB, cB, rfl, y1, y2, ?_⟩
            intro u72 u73 u74 u75 u76 u77 u78 u79 u80 u81 u82 u83 u84 u85 u86 u87 u88 u89 u90 u91 u92 u93 u94 u95 u96 u97 u98
            have HL6 : Hid (LdAt w (w4.setCell ⟨gb + 1, 9, none⟩ (.slice aB (k + 1) cB)) gb #[.slice ta tn tc, .slice na nn nc, .slice la ln lc, .int .i64 st, .slice pa n pc] #[.slice none 0 0, .slice none 0 0, .slice none 0 0, .int .i64 0, .slice none 0 0, .slice a1 (tn + 1) c1, .slice a2 (nn + 1) c2, .slice a3 (ln + 1) c3, .slice aR (k + 1) cR, .slice aB (k + 1) cB]) := y3.1
            have HM6 : Hid (LMid (w4.setCell ⟨gb + 1, 9, none⟩ (.slice aB (k + 1) cB)) (gb + 1 + 1) ts ns lv (k + 1) (k + 1) L R V a1 a2 a3 aR aB tn nn ln c1 c2 c3 cR cB (fun i => if i = k then (g, c) else rg i)) := y3.2
            clear y3 y0 HS4 HPR HNW hown4 hg4
            go_wp2_with fail
            go_roundg (n - (k + 1))
            case measure => have := HGK.out; omega
            case rel => exact ⟨k + 1, aR, aB, cR, cB, _, by omega, rfl, by go_num, HL6.out, HM6.out⟩
          · obtain rfl : n = k := by omega
            have x9 := HLd.out.x 9 _ rfl
            have HS5 : Hid (∀ w3 v3 o, w3.ownsRow (gb + 1 + 1) 52 3 v3 (n + 1) (prodRow n L (fun i => .slice (some ⟨(rg i).1, 0, none⟩) (R i).length (rg i).2) V ++ [.int .i64 77, .slice none 0 0, .int .i64 0]) → (wr.alloc o).grownBy w3 (Value.slice a5 n c5).ownBlock → ∃ a c', v3 = .slice a (n + 1) c' ∧ w3.cell? ⟨gb + 1, 9, none⟩ = some (.slice a5 n c5) ∧ w3.frozen? ⟨gb + 1, 9, none⟩ = false ∧ LdAt w (w3.setCell ⟨gb + 1, 9, none⟩ (.slice a (n + 1) c')) gb #[.slice ta tn tc, .slice na nn nc, .slice la ln lc, .int .i64 st, .slice pa n pc] #[.slice none 0 0, .slice none 0 0, .slice none 0 0, .int .i64 0, .slice none 0 0, .slice a1 (tn + 1) c1, .slice a2 (nn + 1) c2, .slice a3 (ln + 1) c3, .slice a4 n c4, .slice a (n + 1) c'] ∧ LRows (w3.setCell ⟨gb + 1, 9, none⟩ (.slice a (n + 1) c')) (gb + 1 + 1) ts ns lv n L R V a1 a2 a3 a4 a tn nn ln c1 c2 c3 c4 c' rg) := by
              intro w3 v3 o hp hg
              have hM' := HM.out.kept (World.grownBy_alloc wr o none)
              have hL' := (HLd.out.kept (World.grownBy_alloc wr o none)).row hM'.p hg
              obtain ⟨a, c', rfl⟩ := owns_slice hp
              exact ⟨a, c', rfl, hL'.x 9 _ rfl, hL'.xf 9, hL'.store 9 _, owns_box (owns_other hM'.t hM'.p (by decide) hg), owns_box (owns_other hM'.s hM'.p (by decide) hg), owns_box (owns_other hM'.l hM'.p (by decide) hg), owns_box (owns_other hM'.r hM'.p (by decide) hg), owns_box hp, fun i hi => owns_box (owns_other (hM'.rr i hi) hM'.p (by decide) hg)⟩
            go_wp2_with (at_builtin; refine wpList_append_src rfl (.tmp 103) (.tmp 105) 40 rfl (gb + 1 + 1) 52 iP (.agg #[.int .i64 0, .slice none 0 0, .int .i64 0]) 3 40 Try.underlying40 hiP hP0 hP1 hP2 rfl (by decide) (.slice a5 n c5) n _ rfl (HM.out.kept (World.grownBy_alloc wr _ none)).p (some ⟨wr.heap.size, 0, none⟩) 1 1 [.int .i64 77, .slice none 0 0, .int .i64 0] rfl (fun h => by cases h) rfl (fun ad e => by cases e; exact news_new wr _ _) (by simp [Value.oneCell']) (by unfold maxLen; omega) (by omega) (by simp; omega) ?_; intro v3 w3 hown3 hg3; obtain ⟨aP, cP, rfl, y1, y2, hL3, hM3⟩ := HS5.out w3 v3 _ hown3 hg3; have HL3 : Hid (LdAt w (w3.setCell ⟨gb + 1, 9, none⟩ (.slice aP (n + 1) cP)) gb #[.slice ta tn tc, .slice na nn nc, .slice la ln lc, .int .i64 st, .slice pa n pc] #[.slice none 0 0, .slice none 0 0, .slice none 0 0, .int .i64 0, .slice none 0 0, .slice a1 (tn + 1) c1, .slice a2 (nn + 1) c2, .slice a3 (ln + 1) c3, .slice a4 n c4, .slice aP (n + 1) cP]) := hL3; have HM3 : Hid (LRows (w3.setCell ⟨gb + 1, 9, none⟩ (.slice aP (n + 1) cP)) (gb + 1 + 1) ts ns lv n L R V a1 a2 a3 a4 aP tn nn ln c1 c2 c3 c4 cP rg) := hM3; clear hL3 hM3 hown3 hg3)
            generalize hX6 : w3.setCell ⟨gb + 1, 9, none⟩ (.slice aP (n + 1) cP) = X6 at *
            clear y1 y2 hX6 x9 HS5 HLd HM
            have hb1 : tn + 1 ≤ c1 := (owns_bounds HM3.out.t).1
            have hb2 : nn + 1 ≤ c2 := (owns_bounds HM3.out.s).1
            have hb3 : ln + 1 ≤ c3 := (owns_bounds HM3.out.l).1
            have hb5 : n + 1 ≤ cP := (owns_bounds HM3.out.p).1
            obtain ⟨e1, rfl⟩ : ∃ g, a1 = some ⟨g, 0, none⟩ := by
              rcases HM3.out.t.2 with ⟨_, h⟩ | ⟨g, _, _, hv, _⟩
              · omega
              · simp at hv; exact ⟨g, hv.1⟩
            obtain ⟨e2, rfl⟩ : ∃ g, a2 = some ⟨g, 0, none⟩ := by
              rcases HM3.out.s.2 with ⟨_, h⟩ | ⟨g, _, _, hv, _⟩
              · omega
              · simp at hv; exact ⟨g, hv.1⟩
            obtain ⟨e3, rfl⟩ : ∃ g, a3 = some ⟨g, 0, none⟩ := by
              rcases HM3.out.l.2 with ⟨_, h⟩ | ⟨g, _, _, hv, _⟩
              · omega
              · simp at hv; exact ⟨g, hv.1⟩
            obtain ⟨e5, rfl⟩ : ∃ g, aP = some ⟨g, 0, none⟩ := by
              rcases HM3.out.p.2 with ⟨_, h⟩ | ⟨g, _, _, hv, _⟩
              · omega
              · simp at hv; exact ⟨g, hv.1⟩
            have HDd : Hid (LdAt w X6.drew gb #[.slice ta tn tc, .slice na nn nc, .slice la ln lc, .int .i64 st, .slice pa n pc] #[.slice none 0 0, .slice none 0 0, .slice none 0 0, .int .i64 0, .slice none 0 0, .slice (some ⟨e1, 0, none⟩) (tn + 1) c1, .slice (some ⟨e2, 0, none⟩) (nn + 1) c2, .slice (some ⟨e3, 0, none⟩) (ln + 1) c3, .slice a4 n c4, .slice (some ⟨e5, 0, none⟩) (n + 1) cP]) := HL3.out.kept (grown_drewN X6 1)
            have s0 := HDd.out.g 0 _ rfl
            have s1 := HDd.out.g 1 _ rfl
            have s2 := HDd.out.g 2 _ rfl
            have s3 := HDd.out.g 3 _ rfl
            have s4 := HDd.out.g 4 _ rfl
            have x5 := HDd.out.x 5 _ rfl
            have x6 := HDd.out.x 6 _ rfl
            have x7 := HDd.out.x 7 _ rfl
            have x9 := HDd.out.x 9 _ rfl
            have r0 := HDd.out.x 0 _ rfl
            have r1 := HDd.out.x 1 _ rfl
            have r2 := HDd.out.x 2 _ rfl
            have r3 := HDd.out.x 3 _ rfl
            have r4 := HDd.out.x 4 _ rfl
            have rf := fun j => HDd.out.xf j
            have t0 := HL3.out.x 0 _ rfl
            have t1 := HL3.out.x 1 _ rfl
            have t2 := HL3.out.x 2 _ rfl
            have t3 := HL3.out.x 3 _ rfl
            have t4 := HL3.out.x 4 _ rfl
            have tf := fun j => HL3.out.xf j
            have i1 : (tn : Int) ≤ (c1 : Int) := by omega
            have i2 : (nn : Int) ≤ (c2 : Int) := by omega
            have i3 : (ln : Int) ≤ (c3 : Int) := by omega
            have i5 : (n : Int) ≤ (cP : Int) := by omega
            have HFIN : Hid (LdAt w (((((X6.setCell ⟨gb + 1, 0, none⟩ (.slice (some ⟨e1, 0, none⟩) tn c1)).setCell ⟨gb + 1, 1, none⟩ (.slice (some ⟨e2, 0, none⟩) nn c2)).setCell ⟨gb + 1, 2, none⟩ (.slice (some ⟨e3, 0, none⟩) ln c3)).setCell ⟨gb + 1, 3, none⟩ (.int .i64 st)).setCell ⟨gb + 1, 4, none⟩ (.slice (some ⟨e5, 0, none⟩) n cP)).drew gb #[.slice ta tn tc, .slice na nn nc, .slice la ln lc, .int .i64 st, .slice pa n pc] #[.slice (some ⟨e1, 0, none⟩) tn c1, .slice (some ⟨e2, 0, none⟩) nn c2, .slice (some ⟨e3, 0, none⟩) ln c3, .int .i64 st, .slice (some ⟨e5, 0, none⟩) n cP, .slice (some ⟨e1, 0, none⟩) (tn + 1) c1, .slice (some ⟨e2, 0, none⟩) (nn + 1) c2, .slice (some ⟨e3, 0, none⟩) (ln + 1) c3, .slice a4 n c4, .slice (some ⟨e5, 0, none⟩) (n + 1) cP] ∧ LRows (((((X6.setCell ⟨gb + 1, 0, none⟩ (.slice (some ⟨e1, 0, none⟩) tn c1)).setCell ⟨gb + 1, 1, none⟩ (.slice (some ⟨e2, 0, none⟩) nn c2)).setCell ⟨gb + 1, 2, none⟩ (.slice (some ⟨e3, 0, none⟩) ln c3)).setCell ⟨gb + 1, 3, none⟩ (.int .i64 st)).setCell ⟨gb + 1, 4, none⟩ (.slice (some ⟨e5, 0, none⟩) n cP)).drew (gb + 1 + 1) ts ns lv n L R V (some ⟨e1, 0, none⟩) (some ⟨e2, 0, none⟩) (some ⟨e3, 0, none⟩) a4 (some ⟨e5, 0, none⟩) tn nn ln c1 c2 c3 c4 cP rg) :=
              ⟨(((((HL3.out.store 0 _).store 1 _).store 2 _).store 3 _).store 4 _).kept (grown_drewN _ 1), HM3.out.box.box.box.box.box.kept (grown_drewN _ 1)⟩
            have HKF : Hid ((((((X6.setCell ⟨gb + 1, 0, none⟩ (.slice (some ⟨e1, 0, none⟩) tn c1)).setCell ⟨gb + 1, 1, none⟩ (.slice (some ⟨e2, 0, none⟩) nn c2)).setCell ⟨gb + 1, 2, none⟩ (.slice (some ⟨e3, 0, none⟩) ln c3)).setCell ⟨gb + 1, 3, none⟩ (.int .i64 st)).setCell ⟨gb + 1, 4, none⟩ (.slice (some ⟨e5, 0, none⟩) n cP)).drew.cell? ⟨gb, 0, none⟩ = some (.slice ta tn tc) ∧ (((((X6.setCell ⟨gb + 1, 0, none⟩ (.slice (some ⟨e1, 0, none⟩) tn c1)).setCell ⟨gb + 1, 1, none⟩ (.slice (some ⟨e2, 0, none⟩) nn c2)).setCell ⟨gb + 1, 2, none⟩ (.slice (some ⟨e3, 0, none⟩) ln c3)).setCell ⟨gb + 1, 3, none⟩ (.int .i64 st)).setCell ⟨gb + 1, 4, none⟩ (.slice (some ⟨e5, 0, none⟩) n cP)).drew.cell? ⟨gb, 1, none⟩ = some (.slice na nn nc) ∧ (((((X6.setCell ⟨gb + 1, 0, none⟩ (.slice (some ⟨e1, 0, none⟩) tn c1)).setCell ⟨gb + 1, 1, none⟩ (.slice (some ⟨e2, 0, none⟩) nn c2)).setCell ⟨gb + 1, 2, none⟩ (.slice (some ⟨e3, 0, none⟩) ln c3)).setCell ⟨gb + 1, 3, none⟩ (.int .i64 st)).setCell ⟨gb + 1, 4, none⟩ (.slice (some ⟨e5, 0, none⟩) n cP)).drew.cell? ⟨gb, 2, none⟩ = some (.slice la ln lc) ∧ (((((X6.setCell ⟨gb + 1, 0, none⟩ (.slice (some ⟨e1, 0, none⟩) tn c1)).setCell ⟨gb + 1, 1, none⟩ (.slice (some ⟨e2, 0, none⟩) nn c2)).setCell ⟨gb + 1, 2, none⟩ (.slice (some ⟨e3, 0, none⟩) ln c3)).setCell ⟨gb + 1, 3, none⟩ (.int .i64 st)).setCell ⟨gb + 1, 4, none⟩ (.slice (some ⟨e5, 0, none⟩) n cP)).drew.cell? ⟨gb, 3, none⟩ = some (.int .i64 st) ∧ (((((X6.setCell ⟨gb + 1, 0, none⟩ (.slice (some ⟨e1, 0, none⟩) tn c1)).setCell ⟨gb + 1, 1, none⟩ (.slice (some ⟨e2, 0, none⟩) nn c2)).setCell ⟨gb + 1, 2, none⟩ (.slice (some ⟨e3, 0, none⟩) ln c3)).setCell ⟨gb + 1, 3, none⟩ (.int .i64 st)).setCell ⟨gb + 1, 4, none⟩ (.slice (some ⟨e5, 0, none⟩) n cP)).drew.cell? ⟨gb, 4, none⟩ = some (.slice pa n pc) ∧ (((((X6.setCell ⟨gb + 1, 0, none⟩ (.slice (some ⟨e1, 0, none⟩) tn c1)).setCell ⟨gb + 1, 1, none⟩ (.slice (some ⟨e2, 0, none⟩) nn c2)).setCell ⟨gb + 1, 2, none⟩ (.slice (some ⟨e3, 0, none⟩) ln c3)).setCell ⟨gb + 1, 3, none⟩ (.int .i64 st)).setCell ⟨gb + 1, 4, none⟩ (.slice (some ⟨e5, 0, none⟩) n cP)).drew.cell? ⟨gb + 1, 5, none⟩ = some (.slice (some ⟨e1, 0, none⟩) (tn + 1) c1) ∧ (((((X6.setCell ⟨gb + 1, 0, none⟩ (.slice (some ⟨e1, 0, none⟩) tn c1)).setCell ⟨gb + 1, 1, none⟩ (.slice (some ⟨e2, 0, none⟩) nn c2)).setCell ⟨gb + 1, 2, none⟩ (.slice (some ⟨e3, 0, none⟩) ln c3)).setCell ⟨gb + 1, 3, none⟩ (.int .i64 st)).setCell ⟨gb + 1, 4, none⟩ (.slice (some ⟨e5, 0, none⟩) n cP)).drew.cell? ⟨gb + 1, 6, none⟩ = some (.slice (some ⟨e2, 0, none⟩) (nn + 1) c2) ∧ (((((X6.setCell ⟨gb + 1, 0, none⟩ (.slice (some ⟨e1, 0, none⟩) tn c1)).setCell ⟨gb + 1, 1, none⟩ (.slice (some ⟨e2, 0, none⟩) nn c2)).setCell ⟨gb + 1, 2, none⟩ (.slice (some ⟨e3, 0, none⟩) ln c3)).setCell ⟨gb + 1, 3, none⟩ (.int .i64 st)).setCell ⟨gb + 1, 4, none⟩ (.slice (some ⟨e5, 0, none⟩) n cP)).drew.cell? ⟨gb + 1, 7, none⟩ = some (.slice (some ⟨e3, 0, none⟩) (ln + 1) c3) ∧ (((((X6.setCell ⟨gb + 1, 0, none⟩ (.slice (some ⟨e1, 0, none⟩) tn c1)).setCell ⟨gb + 1, 1, none⟩ (.slice (some ⟨e2, 0, none⟩) nn c2)).setCell ⟨gb + 1, 2, none⟩ (.slice (some ⟨e3, 0, none⟩) ln c3)).setCell ⟨gb + 1, 3, none⟩ (.int .i64 st)).setCell ⟨gb + 1, 4, none⟩ (.slice (some ⟨e5, 0, none⟩) n cP)).drew.cell? ⟨gb + 1, 9, none⟩ = some (.slice (some ⟨e5, 0, none⟩) (n + 1) cP)) := by
              have hl := HFIN.out.1
              generalize (((((X6.setCell ⟨gb + 1, 0, none⟩ (.slice (some ⟨e1, 0, none⟩) tn c1)).setCell ⟨gb + 1, 1, none⟩ (.slice (some ⟨e2, 0, none⟩) nn c2)).setCell ⟨gb + 1, 2, none⟩ (.slice (some ⟨e3, 0, none⟩) ln c3)).setCell ⟨gb + 1, 3, none⟩ (.int .i64 st)).setCell ⟨gb + 1, 4, none⟩ (.slice (some ⟨e5, 0, none⟩) n cP)).drew = Z at hl ⊢
              exact ⟨hl.g 0 _ rfl, hl.g 1 _ rfl, hl.g 2 _ rfl, hl.g 3 _ rfl, hl.g 4 _ rfl, hl.x 5 _ rfl, hl.x 6 _ rfl, hl.x 7 _ rfl, hl.x 9 _ rfl⟩
            clear HL3 HM3 HDd hb1 hb2 hb3 hb5
            as_aux_lemma =>
              go_region_held3 (fun w' => w'.cell? ⟨gb, 0, none⟩ = some (.slice ta tn tc) ∧ w'.cell? ⟨gb, 1, none⟩ = some (.slice na nn nc) ∧ w'.cell? ⟨gb, 2, none⟩ = some (.slice la ln lc) ∧ w'.cell? ⟨gb, 3, none⟩ = some (.int .i64 st) ∧ w'.cell? ⟨gb, 4, none⟩ = some (.slice pa n pc) ∧ w'.cell? ⟨gb + 1, 5, none⟩ = some (.slice (some ⟨e1, 0, none⟩) (tn + 1) c1) ∧ w'.cell? ⟨gb + 1, 6, none⟩ = some (.slice (some ⟨e2, 0, none⟩) (nn + 1) c2) ∧ w'.cell? ⟨gb + 1, 7, none⟩ = some (.slice (some ⟨e3, 0, none⟩) (ln + 1) c3) ∧ w'.cell? ⟨gb + 1, 9, none⟩ = some (.slice (some ⟨e5, 0, none⟩) (n + 1) cP)) (first | with_reducible exact HKF.out | go_keep) (fail)
              all_goals go_wp2_with fail
              all_goals go_ret
              all_goals exact ⟨gb, _, c1, _, c2, _, c3, a4, c4, _, cP, rg, rfl, HFIN.out.1, HFIN.out.2⟩

end Go.Proofs.Ytkbpnafahimeiaa

