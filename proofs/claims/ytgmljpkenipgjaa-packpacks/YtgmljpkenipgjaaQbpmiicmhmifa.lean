import Derived.Test.YtgmljpkenipgjaaQdhppnpafbjgn
import Derived.Test.YtgmljpkenipgjaaQhanaeiokcndf

/-
  pack: the document's Pack: the rows of actions: a loop as a declaration of its own (printed by tools/pk_rpa.py).
-/
namespace Go.Proofs.Ytgmljpkenipgjaa.J
open Go.RowKit Go.Maps Go.Shelf Pk

attribute [local go_sem] Oper.semAt_some

noncomputable def rpA : Code := ((Try.f20.body.map loopsJ).getD []).getD 0 .skip

set_option maxRecDepth 100000 in
set_option maxHeartbeats 16000000 in
theorem rp_a {Q0 : Exit → Act → World → Prop} {w V : World} {db pb N c M d : Nat} {a g : Option Addr} {R : Nat → List It} {la : Nat → Option Addr} {lc : Nat → Nat}
    {v0 v2 v3 v7 v8 v9 v10 v11 v12 v13 v14 v15 v16 v17 v18 v19 v20 v21 v22 v23 v24 v25 v26 v27 v28 v29 v30 v31 v32 v33 v34 v35 v36 v37 v38 v39 v40 v41 v42 v43 v44 v45 v46 v47 v48 v49 v50 v51 v52 v53 v54 v55 v56 v57 v58 v59 v60 v61 v62 v63 v64 v65 v66 v67 v68 v69 v70 v71 v72 v73 v74 v75 v76 v77 v78 v79 v80 v81 v82 v83 v84 v85 v86 v87 v88 v89 v90 v91 v92 v93 v94 v95 v96 v97 v98 v99 v100 v101 v102 v103 v104 v105 v106 v107 v108 v109 v110 v111 v112 v113 v114 v115 v116 v117 v118 v119 v120 v121 v122 v123 v124 v125 v126 v127 v128 v129 v130 v131 v132 v133 v134 v135 v136 v137 v138 v139 v140 v141 v142 v143 v144 v145 v146 v147 v148 v149 v150 v151 v152 v153 v154 v155 v156 v157 v158 v159 v160 v161 v162 v163 v164 v165 v166 v167 v168 v169 v170 v171 v172 v173 v174 v175 v176 v177 v178 v179 v180 v181 v182 v183 v184 v185 v186 v187 v188 v189 v190 v191 v192 : Value}
    (hN : N ≤ 256) (hlen : ∀ i, i < N → (R i).length ≤ 65) (hst : ∀ i, i < N → ∀ x ∈ R i, -1000000 ≤ x.2 ∧ x.2 ≤ 1000000) (hR : ∀ X, w.grownBy X none → RsAt X a N R la lc) (hwV : w.grownBy V none) (hwp : w.heap.size ≤ pb) (hpv : pb < V.heap.size)
    (hdb : V.heap[db]? = some (.cells #[.slice a N c, .slice g M d] 42 (0, 0))) (hpb : V.heap[pb]? = some (.cells nilP 45 (0, 0))) (hne : db ≠ pb)
    (hexit : ∀ (wz : World) (da : Option Addr) (dc : Nat) (ra : Option Addr) (rc : Nat) (ua : Nat → Option Addr) (uc : Nat → Nat) (u6 u7 u8 u9 u10 u11 u12 u23 u24 u25 u26 u27 u28 u29 u30 u31 u32 u33 u34 u35 u36 u37 u38 u39 u40 u41 u42 u43 u44 u45 u46 u47 u48 u49 u50 u51 u52 u53 u54 u55 u56 u57 u58 u59 u60 u61 u62 u63 u64 u65 u66 u67 u68 u69 u70 u71 u72 u73 u74 u75 u76 u77 u78 u79 u80 u81 u82 u83 u84 u85 u86 u87 u88 u89 u90 u91 u92 u93 u94 u95 u96 u97 u98 u99 u100 u101 u102 u103 u104 u105 u106 u107 u108 u109 u110 u111 u112 : Value), V.grownBy wz (some pb) → wz.heap[pb]? = some (.cells #[.slice da N dc, .slice none 0 0, .slice none 0 0, .slice none 0 0, .slice none 0 0, .slice none 0 0, .slice none 0 0, .slice none 0 0] 45 (0, 0)) → wz.ownsRow V.heap.size 3 1 (.slice da N dc) N (zV (defL R N)) → LvP wz V.heap.size 58 60 2 ra rc N (fun j => (rowA (R j)).length) (fun j => itsV (rowA (R j))) ua uc → Q0 (.exit 0) ⟨List.toArray (v0 :: .pointer (some ⟨db, 0, none⟩) :: v2 :: v3 :: .pointer (some ⟨pb, 0, none⟩) :: .slice ra N rc :: u6 :: u7 :: u8 :: u9 :: u10 :: u11 :: u12 :: v13 :: v14 :: v15 :: v16 :: v17 :: v18 :: v19 :: v20 :: v21 :: v22 :: u23 :: u24 :: u25 :: u26 :: u27 :: u28 :: u29 :: u30 :: u31 :: u32 :: u33 :: u34 :: u35 :: u36 :: u37 :: u38 :: u39 :: u40 :: u41 :: u42 :: u43 :: u44 :: u45 :: u46 :: u47 :: u48 :: u49 :: u50 :: u51 :: u52 :: u53 :: u54 :: u55 :: u56 :: u57 :: u58 :: u59 :: u60 :: u61 :: u62 :: u63 :: u64 :: u65 :: u66 :: u67 :: u68 :: u69 :: u70 :: u71 :: u72 :: u73 :: u74 :: u75 :: u76 :: u77 :: u78 :: u79 :: u80 :: u81 :: u82 :: u83 :: u84 :: u85 :: u86 :: u87 :: u88 :: u89 :: u90 :: u91 :: u92 :: u93 :: u94 :: u95 :: u96 :: u97 :: u98 :: u99 :: u100 :: u101 :: u102 :: u103 :: u104 :: u105 :: u106 :: u107 :: u108 :: u109 :: u110 :: u111 :: u112 :: v113 :: v114 :: v115 :: v116 :: v117 :: v118 :: v119 :: v120 :: v121 :: v122 :: v123 :: v124 :: v125 :: v126 :: v127 :: v128 :: v129 :: v130 :: v131 :: v132 :: v133 :: v134 :: v135 :: v136 :: v137 :: v138 :: v139 :: v140 :: v141 :: v142 :: v143 :: v144 :: v145 :: v146 :: v147 :: v148 :: v149 :: v150 :: v151 :: v152 :: v153 :: v154 :: v155 :: v156 :: v157 :: v158 :: v159 :: v160 :: v161 :: v162 :: v163 :: v164 :: v165 :: v166 :: v167 :: v168 :: v169 :: v170 :: v171 :: v172 :: v173 :: v174 :: v175 :: v176 :: v177 :: v178 :: v179 :: v180 :: v181 :: v182 :: v183 :: v184 :: v185 :: v186 :: v187 :: v188 :: v189 :: v190 :: v191 :: v192 :: []), []⟩ wz) :
    Code.wp Try.prog rpA Q0 ⟨List.toArray (v0 :: .pointer (some ⟨db, 0, none⟩) :: v2 :: v3 :: .pointer (some ⟨pb, 0, none⟩) :: .slice none 0 0 :: .int .i64 0 :: v7 :: v8 :: v9 :: v10 :: v11 :: v12 :: v13 :: v14 :: v15 :: v16 :: v17 :: v18 :: v19 :: v20 :: v21 :: v22 :: v23 :: v24 :: v25 :: v26 :: v27 :: v28 :: v29 :: v30 :: v31 :: v32 :: v33 :: v34 :: v35 :: v36 :: v37 :: v38 :: v39 :: v40 :: v41 :: v42 :: v43 :: v44 :: v45 :: v46 :: v47 :: v48 :: v49 :: v50 :: v51 :: v52 :: v53 :: v54 :: v55 :: v56 :: v57 :: v58 :: v59 :: v60 :: v61 :: v62 :: v63 :: v64 :: v65 :: v66 :: v67 :: v68 :: v69 :: v70 :: v71 :: v72 :: v73 :: v74 :: v75 :: v76 :: v77 :: v78 :: v79 :: v80 :: v81 :: v82 :: v83 :: v84 :: v85 :: v86 :: v87 :: v88 :: v89 :: v90 :: v91 :: v92 :: v93 :: v94 :: v95 :: v96 :: v97 :: v98 :: v99 :: v100 :: v101 :: v102 :: v103 :: v104 :: v105 :: v106 :: v107 :: v108 :: v109 :: v110 :: v111 :: v112 :: v113 :: v114 :: v115 :: v116 :: v117 :: v118 :: v119 :: v120 :: v121 :: v122 :: v123 :: v124 :: v125 :: v126 :: v127 :: v128 :: v129 :: v130 :: v131 :: v132 :: v133 :: v134 :: v135 :: v136 :: v137 :: v138 :: v139 :: v140 :: v141 :: v142 :: v143 :: v144 :: v145 :: v146 :: v147 :: v148 :: v149 :: v150 :: v151 :: v152 :: v153 :: v154 :: v155 :: v156 :: v157 :: v158 :: v159 :: v160 :: v161 :: v162 :: v163 :: v164 :: v165 :: v166 :: v167 :: v168 :: v169 :: v170 :: v171 :: v172 :: v173 :: v174 :: v175 :: v176 :: v177 :: v178 :: v179 :: v180 :: v181 :: v182 :: v183 :: v184 :: v185 :: v186 :: v187 :: v188 :: v189 :: v190 :: v191 :: v192 :: []), []⟩ V := by
  obtain ⟨i0, hi0, hz0, hz1, hz2⟩ := info_parts infoIntD
  obtain ⟨i1, hi1, hy0, hy1, hy2⟩ := info_parts infoEdgeP
  obtain ⟨i2, hi2, hx0, hx1, hx2⟩ := info_parts infoRowE
  have HL := hidD hlen
  have HST := hidD hst
  have HR := hidD hR
  have HWV := hidD hwV
  have HWP := hidD hwp
  have HPV := hidD hpv
  have HDB := hidD hdb
  have HNE := hidD hne
  have HEX := hidD hexit
  have HPB : Hid (∀ da dc, da = (none : Option Addr) → dc = 0 → V.heap[pb]? = some (.cells #[.slice da 0 dc, .slice none 0 0, .slice none 0 0, .slice none 0 0, .slice none 0 0, .slice none 0 0, .slice none 0 0, .slice none 0 0] 45 (0, 0))) := fun da dc h1 h2 => by subst h1; subst h2; exact hpb
  clear hlen hst hR hwV hwp hpv hdb hpb hne hexit
  conv => arg 2; whnf
  go_loopg [5, 6] N (fun gk v5 v6 wr => ∃ (k : Nat) (da : Option Addr) (dc : Nat) (ra : Option Addr) (rc : Nat) (ua : Nat → Option Addr) (uc : Nat → Nat), k ≤ N ∧ gk = N - k ∧ v5 = .slice ra k rc ∧ v6 = .int .i64 k ∧ V.grownBy wr (some pb) ∧ wr.heap[pb]? = some (.cells #[.slice da k dc, .slice none 0 0, .slice none 0 0, .slice none 0 0, .slice none 0 0, .slice none 0 0, .slice none 0 0, .slice none 0 0] 45 (0, 0)) ∧ wr.ownsRow V.heap.size 3 1 (.slice da k dc) k (zV (defL R k)) ∧ LvP wr V.heap.size 58 60 2 ra rc k (fun j => (rowA (R j)).length) (fun j => itsV (rowA (R j))) ua uc)
  case atStart => exact ⟨0, none, 0, none, 0, fun _ => none, fun _ => 0, Nat.zero_le _, rfl, rfl, rfl, ⟨rfl, rfl, rfl, Nat.le_refl _, fun _ _ _ => rfl⟩, HPB.out _ _ rfl rfl, World.ownsRow_nil _ _ _ _, LvP.nothing _ _ _ _ _ _ _⟩
  case round =>
    obtain ⟨k, da, dc, ra, rc, ua, uc, hk, hgk, rfl, rfl, hg, hpb, ho, hv⟩ := hrel
    have HGK : Hid (gk = N - k) := hgk
    have HG := hidD hg
    have HPX := hidD hpb
    have HO := hidD ho
    have HV := hidD hv
    have hdb := grown_box HDB.out hg HNE.out
    have HDX := hidD hdb
    have HGW : Hid (w.grownBy wr none) := grown_new HWV.out hg HWP.out
    have q0 : wr.cell? ⟨db, 0, none⟩ = some (.slice a N c) := by rw [cell_of_row _ _ _ _ _ _ hdb]; rfl
    clear hgk hg hpb ho hv hdb
    by_cases hkn : k < N
    case neg =>
      have hkd : decide (k < N) = false := decide_eq_false hkn
      have hke : k = N := by omega
      subst hke
      go_wp2_with fail
      exact HEX.out wr da dc ra rc ua uc _ _ _ _ _ _ _ _ _ _ _ _ _ _ _ _ _ _ _ _ _ _ _ _ _ _ _ _ _ _ _ _ _ _ _ _ _ _ _ _ _ _ _ _ _ _ _ _ _ _ _ _ _ _ _ _ _ _ _ _ _ _ _ _ _ _ _ _ _ _ _ _ _ _ _ _ _ _ _ _ _ _ _ _ _ _ _ _ _ _ _ _ _ _ _ _ _ HG.out HPX.out HO.out HV.out
    have hkd : decide (k < N) = true := decide_eq_true hkn
    have hk0 : (0 : Int) ≤ (k : Int) := by omega
    have hk1 : (k : Int) < (N : Int) := by omega
    obtain ⟨lb, lo, rfl, ck⟩ := rs_get (HR.out wr HGW.out) hkn
    obtain ⟨l, hl⟩ : ∃ l, l = R k := ⟨_, rfl⟩
    have HLE : Hid (l = R k) := hl
    obtain ⟨ln, hln⟩ : ∃ v, v = l.length := ⟨_, rfl⟩
    have HLN : Hid (ln = l.length) := hln
    have hl65 : ln ≤ 65 := by rw [hln, hl]; exact HL.out k hkn
    obtain ⟨a1, ha1⟩ : ∃ v, v = la k := ⟨_, rfl⟩
    obtain ⟨c1, hc1⟩ : ∃ v, v = lc k := ⟨_, rfl⟩
    have HIT : Hid (∀ X, wr.grownBy X none → ItsAt X a1 l) := fun X hX => by rw [ha1, hl]; exact (HR.out X (grown_trans HGW.out hX)).2 k hkn
    have HSL : Hid (∀ x ∈ l, -1000000 ≤ x.2 ∧ x.2 ≤ 1000000) := by rw [hl]; exact HST.out k hkn
    rw [← hl, ← hln, ← ha1, ← hc1] at ck
    have HCK : Hid (∀ X, wr.grownBy X none → X.cell? ⟨lb, lo + k, none⟩ = some (.slice a1 ln c1) ∧ X.cell? ⟨db, 0, none⟩ = some (.slice (some ⟨lb, lo, none⟩) N c)) := fun X hX => ⟨hX.cell ck (by simp), hX.cell q0 (by simp)⟩
    clear hl hln ha1 hc1 ck
    go_wp2_with fail
    clear q0
    generalize wr = W1 at *
    go_loopg [7, 8] ln (fun gk v7 v8 wr => ∃ (j n : Nat) (ba : Option Addr) (bc : Nat), j ≤ ln ∧ gk = ln - j ∧ v7 = .slice ba n bc ∧ v8 = .int .i64 j ∧ n ≤ j ∧ Hid (n = (byF (l.take j)).length) ∧ wr.ownsRow W1.heap.size 3 1 (.slice ba n bc) n (zV (byF (l.take j))) ∧ W1.grownBy wr none)
    case atStart => exact ⟨0, 0, none, 0, Nat.zero_le _, rfl, rfl, rfl, Nat.zero_le _, rfl, World.ownsRow_nil _ _ _ _, grown_refl _ _⟩
    case round =>
      obtain ⟨j, n, ba, bc, hj, hgj, rfl, rfl, hnj, HNE2, ho, hg⟩ := hrel
      have HGJ : Hid (gk = ln - j) := hgj
      have HBO := hidD ho
      have HG1 := hidD hg
      obtain ⟨ck, q0⟩ := HCK.out wr hg
      clear hgj ho
      by_cases hjn : j < ln
      · have hjd : decide (j < ln) = true := decide_eq_true hjn
        have hj0 : (0 : Int) ≤ (j : Int) := by omega
        have hj1 : (j : Int) < (ln : Int) := by omega
        have hjl : j < l.length := by rw [← HLN.out]; exact hjn
        obtain ⟨eb, eo, rfl, t0, t1⟩ := its_get (HIT.out wr hg) hjl
        have hby := byF_snoc hjl
        obtain ⟨e, he⟩ : ∃ e, e = l.getD j (0, 0) := ⟨_, rfl⟩
        rw [← he] at t0 t1 hby
        obtain ⟨kind, tv⟩ := e
        simp only [] at t0 t1 hby
        clear he hg
        by_cases k2 : kind = 2
        · rw [if_pos k2] at hby
          subst k2
          have HBY := hidD hby
          have HBA : Hid (∀ X, wr.grownBy X none → X.ownsRow W1.heap.size 3 1 (.slice ba n bc) n (zV (byF (l.take j)))) := fun X hX => keep0 HBO.out hX
          have HSZ : Hid (∀ X, wr.grownBy X none → W1.heap.size ≤ X.heap.size) := fun X hX => (grown_trans HG1.out hX).size
          clear hby
          go_wp2_with (at_builtin; refine wpList_append_liesW rfl (.tmp 50) (.tmp 60) 24 rfl W1.heap.size 3 i0 (.int .i64 0) 1 8 Try.underlying24 hi0 hz0 hz1 hz2 rfl (by decide) (.slice ba n bc) n (zV (byF (l.take j))) rfl (HBA.out _ (World.grownBy_alloc wr _ none)) ⟨wr.heap.size, 0, none⟩ 1 1 [.int .i64 tv] rfl rfl (World.news_of_block (heap_alloc_last wr _)) (by simp [Value.oneCell']) (by decide) (by unfold maxLen; omega) (by omega) (HSZ.out _ (World.grownBy_alloc wr _ none)) ?_; intro g9 c9 wB hoB hgB hatB; have HOB := hidD hoB; have HGB : Hid (W1.grownBy wB none) := grown_row (grown_trans HG1.out (World.grownBy_alloc wr _ none)) (HBA.out _ (World.grownBy_alloc wr _ none)) (Nat.le_refl _) hgB; clear hoB hgB hatB)
          go_roundg (ln - (j + 1))
          case measure => have := HGJ.out; omega
          case rel => exact ⟨j + 1, n + 1, _, _, by omega, rfl, rfl, by go_num, by omega, by show n + 1 = _; rw [HBY.out, List.length_append, ← HNE2.out]; rfl, by rw [HBY.out, zV_snoc]; exact HOB.out, HGB.out⟩
        · rw [if_neg k2, List.append_nil] at hby
          have HBY := hidD hby
          have e2 : (kind == 2) = false := beq_eq_false_iff_ne.2 k2
          clear hby k2
          go_wp2_with fail
          go_roundg (ln - (j + 1))
          case measure => have := HGJ.out; omega
          case rel => exact ⟨j + 1, n, ba, bc, by omega, rfl, rfl, by go_num, by omega, by show n = _; rw [HBY.out]; exact HNE2.out, by rw [HBY.out]; exact HBO.out, HG1.out⟩
      · have hjd : decide (j < ln) = false := decide_eq_false hjn
        have htk : l.take j = l := List.take_of_length_le (by rw [← HLN.out]; omega)
        rw [htk] at HBO HNE2
        have HMO := hidD (rpMost_any ba bc (byF l) wr (owned_intsD HBO.out HNE2.out) (by rw [← HNE2.out]; omega))
        rw [← HNE2.out, mostF_by] at HMO
        obtain ⟨m, hm⟩ : ∃ m, m = mostF (redL l) := ⟨_, rfl⟩
        have HM : Hid (m = mostF (redL l)) := hm
        rw [← hm] at HMO
        clear hm htk hg hjn
        go_wp2_with fail
        clear ck q0
        refine Calls.mono HMO.out ?_
        rintro e y ⟨rfl, hy⟩
        have HY : Hid (W1.grownBy y none) := grown_trans HG1.out hy
        have HPY := hidD (box_kept HPX.out HY.out)
        have HOY := hidD (keep0 HO.out HY.out)
        have HVY := hidD (HV.out.kept HY.out)
        have HOA : Hid (∀ X, y.grownBy X none → X.ownsRow V.heap.size 3 1 (.slice da k dc) k (zV (defL R k)) ∧ V.heap.size ≤ X.heap.size) := fun X hX => ⟨keep0 HOY.out hX, Nat.le_trans (Nat.le_trans HG.out.size HY.out.size) hX.size⟩
        have p0 : y.cell? ⟨pb, 0, none⟩ = some (.slice da k dc) := by rw [cell_of_row _ _ _ _ _ _ HPY.out]; rfl
        clear hy HMO HBO
        go_wp2_with (at_builtin; refine wpList_append_liesW rfl (.tmp 65) (.tmp 67) 24 rfl V.heap.size 3 i0 (.int .i64 0) 1 8 Try.underlying24 hi0 hz0 hz1 hz2 rfl (by decide) (.slice da k dc) k (zV (defL R k)) rfl (HOA.out _ (World.grownBy_alloc y _ none)).1 ⟨y.heap.size, 0, none⟩ 1 1 [.int .i64 m] rfl rfl (World.news_of_block (heap_alloc_last y _)) (by simp [Value.oneCell']) (by decide) (by unfold maxLen; omega) (by omega) (HOA.out _ (World.grownBy_alloc y _ none)).2 ?_; intro g9 c9 wB hoB hgB hatB; have HOB := hidD hoB; have HGB := hidD hgB; have HPW := hidD (box_under (HOA.out _ (World.grownBy_alloc y _ none)).1 (box_kept HPY.out (World.grownBy_alloc y _ none)) (by decide) hgB); have z0 : wB.cell? ⟨pb, 0, none⟩ = some (.slice da k dc) := (by rw [cell_of_row _ _ _ _ _ _ HPW.out]; rfl); have z1 : wB.frozen? ⟨pb, 0, none⟩ = false := frozen_of_row _ _ _ _ _ HPW.out; clear hoB hgB hatB)
        obtain ⟨W2, hW2⟩ : ∃ W2, W2 = wB.setCell ⟨pb, 0, none⟩ (.slice (some ⟨g9, 0, none⟩) (k + 1) c9) := ⟨_, rfl⟩
        have HPZ : Hid (W2.heap[pb]? = some (.cells #[.slice (some ⟨g9, 0, none⟩) (k + 1) c9, .slice none 0 0, .slice none 0 0, .slice none 0 0, .slice none 0 0, .slice none 0 0, .slice none 0 0, .slice none 0 0] 45 (0, 0))) := by show _ = _; rw [hW2]; exact heap_setCell_same _ _ 0 _ _ _ HPW.out
        have HGZ : Hid (V.grownBy W2 (some pb)) := by
          show V.grownBy _ _
          rw [hW2]
          exact grown_trans (grown_rowP (grown_noneS HG.out (grown_trans HY.out (World.grownBy_alloc y _ none))) (HOA.out _ (World.grownBy_alloc y _ none)).1 (Nat.le_refl _) HGB.out) (grown_setCell _ _ _)
        have HOZ : Hid (W2.ownsRow V.heap.size 3 1 (.slice (some ⟨g9, 0, none⟩) (k + 1) c9) (k + 1) (zV (defL R (k + 1)))) := by
          show World.ownsRow _ _ _ _ _ _ _
          rw [hW2, defL_snoc, ← HLE.out, ← HM.out, zV_snoc]
          exact row_beside HOB.out HPW.out (by decide) (grown_setCell _ _ _)
        have HVZ : Hid (LvP W2 V.heap.size 58 60 2 ra rc k (fun j => (rowA (R j)).length) (fun j => itsV (rowA (R j))) ua uc) := by
          show LvP _ _ _ _ _ _ _ _ _ _ _ _
          rw [hW2]
          exact ((HVY.out.kept (World.grownBy_alloc y _ none)).beside (HOA.out _ (World.grownBy_alloc y _ none)).1 (by decide) (by decide) HGB.out).box HPW.out (by decide) (by decide) (grown_setCell _ _ _)
        have HGW2 : Hid (w.grownBy W2 none) := grown_new HWV.out HGZ.out HWP.out
        have HD2 := hidD (grown_box HDB.out HGZ.out HNE.out)
        rw [← hW2]
        clear hW2 HOB HGB HPW HPY HOY HVY HOA z0 z1 p0 HIT HCK HPX HO HV HY HG1 HNE2 HG
        have hg2 : w.grownBy W2 none := HGW2.out
        obtain ⟨lb2, lo2, hE, ck2⟩ := rs_get (HR.out W2 hg2) hkn
        simp only [Option.some.injEq, Addr.mk.injEq, and_true] at hE
        obtain ⟨rfl, rfl⟩ := hE
        obtain ⟨a1, ha1⟩ : ∃ v, v = la k := ⟨_, rfl⟩
        obtain ⟨c1, hc1⟩ : ∃ v, v = lc k := ⟨_, rfl⟩
        have HIT : Hid (∀ X, W2.grownBy X none → ItsAt X a1 l) := fun X hX => by rw [ha1, HLE.out]; exact (HR.out X (grown_trans HGW2.out hX)).2 k hkn
        rw [← HLE.out, ← HLN.out, ← ha1, ← hc1] at ck2
        have HCK : Hid (∀ X, W2.grownBy X none → X.cell? ⟨lb, lo + k, none⟩ = some (.slice a1 ln c1) ∧ X.cell? ⟨db, 0, none⟩ = some (.slice (some ⟨lb, lo, none⟩) N c)) := fun X hX => ⟨hX.cell ck2 (by simp), by rw [cell_of_row _ _ _ _ _ _ (box_kept HD2.out hX)]; rfl⟩
        clear ha1 hc1 ck2 hg2
        go_loopg [10, 11] ln (fun gk v10 v11 wr => ∃ (j n : Nat) (ea : Option Addr) (ec : Nat), j ≤ ln ∧ gk = ln - j ∧ v10 = .slice ea n ec ∧ v11 = .int .i64 j ∧ n ≤ j ∧ Hid (n = (rowT m l j).length) ∧ wr.ownsRow W2.heap.size 60 2 (.slice ea n ec) n (itsV (rowT m l j)) ∧ W2.grownBy wr none)
        case atStart => exact ⟨0, 0, none, 0, Nat.zero_le _, rfl, rfl, rfl, Nat.zero_le _, rfl, World.ownsRow_nil _ _ _ _, grown_refl _ _⟩
        case round =>
          obtain ⟨j, n, ea, ec, hj, hgj, rfl, rfl, hnj, HNE3, ho, hg⟩ := hrel
          have HGJ2 : Hid (gk = ln - j) := hgj
          have HEO := hidD ho
          have HG3 := hidD hg
          obtain ⟨ck, q0⟩ := HCK.out wr hg
          clear hgj ho
          by_cases hjn : j < ln
          · have hjd : decide (j < ln) = true := decide_eq_true hjn
            have hj0 : (0 : Int) ≤ (j : Int) := by omega
            have hj1 : (j : Int) < (ln : Int) := by omega
            have hjl : j < l.length := by rw [← HLN.out]; exact hjn
            obtain ⟨eb, eo, rfl, t0, t1⟩ := its_get (HIT.out wr hg) hjl
            have hrt := rowT_snoc m l j
            have hsx := HSL.out _ (getD_mem_ed hjl)
            obtain ⟨e, he⟩ : ∃ e, e = l.getD j (0, 0) := ⟨_, rfl⟩
            rw [← he] at t0 t1 hrt hsx
            obtain ⟨kind, tv⟩ := e
            simp only [] at t0 t1 hsx
            have hka := keepA_doc m kind tv
            clear he hg
            by_cases k0 : kind = 0
            · have HRT := hidD hrt
              subst k0
              have HKA : Hid (¬ keepA m (0, tv) = true) := fun h => by have := hka.1 h; omega
              clear hka hsx
              go_wp2_with fail
              go_roundg (ln - (j + 1))
              case measure => have := HGJ2.out; omega
              case rel =>
                have hr2 := HRT.out
                rw [if_neg HKA.out, List.append_nil] at hr2
                exact ⟨j + 1, n, ea, ec, by omega, rfl, rfl, by go_num, by omega, by show n = _; rw [hr2]; exact HNE3.out, by rw [hr2]; exact keep0 HEO.out (World.grownBy_alloc wr _ none), grown_trans HG3.out (World.grownBy_alloc wr _ none)⟩
            · have e0 : (kind != 0) = true := by rw [bne_iff_ne]; exact k0
              by_cases k2 : kind = 2
              · have e2z : (2 : Int) ≠ 0 := by decide
                by_cases k3 : tv = m
                · have HRT := hidD hrt
                  subst k2
                  have e3 : (tv != m) = false := by rw [k3]; exact bne_self_eq_false _
                  have HKA : Hid (¬ keepA m (2, tv) = true) := fun h => by have := hka.1 h; omega
                  clear hka hsx k0
                  go_wp2_with fail
                  go_roundg (ln - (j + 1))
                  case measure => have := HGJ2.out; omega
                  case rel =>
                    have hr2 := HRT.out
                    rw [if_neg HKA.out, List.append_nil] at hr2
                    exact ⟨j + 1, n, ea, ec, by omega, rfl, rfl, by go_num, by omega, by show n = _; rw [hr2]; exact HNE3.out, by rw [hr2]; exact keep0 HEO.out (World.grownBy_alloc wr _ none), grown_trans HG3.out (World.grownBy_alloc wr _ none)⟩
                · have HRT := hidD hrt
                  subst k2
                  have e3 : (tv != m) = true := by rw [bne_iff_ne]; exact k3
                  have HKA : Hid (keepA m (2, tv) = true) := hka.2 ⟨e2z, .inr k3⟩
                  have HCO := fun (X : World) => rpCode_any 2 tv X hsx
                  obtain ⟨cv, hcv⟩ : ∃ v, v = codeF 2 tv := ⟨_, rfl⟩
                  rw [← hcv] at HCO
                  have HCV : Hid (cv = codeF 2 tv) := hcv
                  have HC := hidD (HCO (wr.alloc (.cells #[.int .i64 2, .int .i64 tv] 52)))
                  clear hka hsx HCO hcv k0 k3
                  go_wp2_with fail
                  clear ck q0 t0 t1
                  refine Calls.mono HC.out ?_
                  rintro e y ⟨rfl, hy⟩
                  have HGY : Hid (W2.grownBy y none) := grown_trans (grown_trans HG3.out (World.grownBy_alloc wr _ none)) hy
                  have HEA : Hid (∀ X, y.grownBy X none → X.ownsRow W2.heap.size 60 2 (.slice ea n ec) n (itsV (rowT m l j)) ∧ W2.heap.size ≤ X.heap.size) := fun X hX => ⟨keep0 HEO.out (grown_trans (grown_trans (World.grownBy_alloc wr _ none) hy) hX), (grown_trans HGY.out hX).size⟩
                  clear hy HC
                  go_wp2_with (at_builtin; refine wpList_append_liesW rfl (.tmp 102) (.tmp 107) 58 rfl W2.heap.size 60 i1 (.agg #[.int .i64 0, .int .i64 0]) 2 16 Try.underlying58 hi1 hy0 hy1 hy2 rfl (by decide) (.slice ea n ec) n (itsV (rowT m l j)) rfl (HEA.out _ (World.grownBy_alloc y _ none)).1 ⟨y.heap.size, 0, none⟩ 1 1 [.int .i64 (j : Int), .int .i64 cv] rfl rfl (World.news_of_block (heap_alloc_last y _)) (by simp [Value.oneCell']) (by decide) (by unfold maxLen; omega) (by omega) (HEA.out _ (World.grownBy_alloc y _ none)).2 ?_; intro g9 c9 wB hoB hgB hatB; have HOB := hidD hoB; have HGB : Hid (W2.grownBy wB none) := grown_row (grown_trans HGY.out (World.grownBy_alloc y _ none)) (HEA.out _ (World.grownBy_alloc y _ none)).1 (Nat.le_refl _) hgB; clear hoB hgB hatB)
                  go_roundg (ln - (j + 1))
                  case measure => have := HGJ2.out; omega
                  case rel =>
                    have hr2 := HRT.out
                    rw [if_pos HKA.out] at hr2
                    refine ⟨j + 1, n + 1, _, _, by omega, rfl, rfl, by go_num, by omega, ?_, ?_, HGB.out⟩
                    · show n + 1 = _
                      rw [hr2, List.length_append, ← HNE3.out]; rfl
                    · rw [hr2, itsV_snocD, ← HCV.out]
                      exact HOB.out
              · have HRT := hidD hrt
                have e2 : (kind != 2) = true := by rw [bne_iff_ne]; exact k2
                have HKA : Hid (keepA m (kind, tv) = true) := hka.2 ⟨k0, .inl k2⟩
                have HCO := fun (X : World) => rpCode_any kind tv X hsx
                obtain ⟨cv, hcv⟩ : ∃ v, v = codeF kind tv := ⟨_, rfl⟩
                rw [← hcv] at HCO
                have HCV : Hid (cv = codeF kind tv) := hcv
                have HC := hidD (HCO (wr.alloc (.cells #[.int .i64 kind, .int .i64 tv] 52)))
                clear hka hsx HCO hcv k0 k2
                go_wp2_with fail
                clear ck q0 t0 t1
                refine Calls.mono HC.out ?_
                rintro e y ⟨rfl, hy⟩
                have HGY : Hid (W2.grownBy y none) := grown_trans (grown_trans HG3.out (World.grownBy_alloc wr _ none)) hy
                have HEA : Hid (∀ X, y.grownBy X none → X.ownsRow W2.heap.size 60 2 (.slice ea n ec) n (itsV (rowT m l j)) ∧ W2.heap.size ≤ X.heap.size) := fun X hX => ⟨keep0 HEO.out (grown_trans (grown_trans (World.grownBy_alloc wr _ none) hy) hX), (grown_trans HGY.out hX).size⟩
                clear hy HC
                go_wp2_with (at_builtin; refine wpList_append_liesW rfl (.tmp 102) (.tmp 107) 58 rfl W2.heap.size 60 i1 (.agg #[.int .i64 0, .int .i64 0]) 2 16 Try.underlying58 hi1 hy0 hy1 hy2 rfl (by decide) (.slice ea n ec) n (itsV (rowT m l j)) rfl (HEA.out _ (World.grownBy_alloc y _ none)).1 ⟨y.heap.size, 0, none⟩ 1 1 [.int .i64 (j : Int), .int .i64 cv] rfl rfl (World.news_of_block (heap_alloc_last y _)) (by simp [Value.oneCell']) (by decide) (by unfold maxLen; omega) (by omega) (HEA.out _ (World.grownBy_alloc y _ none)).2 ?_; intro g9 c9 wB hoB hgB hatB; have HOB := hidD hoB; have HGB : Hid (W2.grownBy wB none) := grown_row (grown_trans HGY.out (World.grownBy_alloc y _ none)) (HEA.out _ (World.grownBy_alloc y _ none)).1 (Nat.le_refl _) hgB; clear hoB hgB hatB)
                go_roundg (ln - (j + 1))
                case measure => have := HGJ2.out; omega
                case rel =>
                  have hr2 := HRT.out
                  rw [if_pos HKA.out] at hr2
                  refine ⟨j + 1, n + 1, _, _, by omega, rfl, rfl, by go_num, by omega, ?_, ?_, HGB.out⟩
                  · show n + 1 = _
                    rw [hr2, List.length_append, ← HNE3.out]; rfl
                  · rw [hr2, itsV_snocD, ← HCV.out]
                    exact HOB.out
          · have hjd : decide (j < ln) = false := decide_eq_false hjn
            have hje : j = ln := by omega
            have hrA : rowT m l j = rowA (R k) := by rw [hje, HLN.out, HM.out, HLE.out]; rfl
            rw [hrA] at HEO HNE3
            have HV3 := hidD (HVZ.out.kept HG3.out)
            have HVA : Hid (∀ X, wr.grownBy X none → LvP X V.heap.size 58 60 2 ra rc k (fun j => (rowA (R j)).length) (fun j => itsV (rowA (R j))) ua uc ∧ V.heap.size ≤ X.heap.size) := fun X hX => ⟨HV3.out.kept hX, Nat.le_trans (Nat.le_trans HGZ.out.size HG3.out.size) hX.size⟩
            clear hg hjn hje hrA
            go_wp2_with (at_builtin; refine wpList_append_liesW rfl (.tmp 109) (.tmp 111) 22 rfl V.heap.size 58 i2 (.slice none 0 0) 1 24 Try.underlying22 hi2 hx0 hx1 hx2 rfl (by decide) (.slice ra k rc) k (headsD k (fun j => (rowA (R j)).length) ua uc) rfl (HVA.out _ (World.grownBy_alloc wr _ none)).1.out ⟨wr.heap.size, 0, none⟩ 1 1 [.slice ea n ec] rfl rfl (World.news_of_block (heap_alloc_last wr _)) (by simp [Value.oneCell']) (by decide) (by unfold maxLen; omega) (by omega) (HVA.out _ (World.grownBy_alloc wr _ none)).2 ?_; intro g9 c9 wB hoB hgB hatB; have HOB := hidD hoB; have HGB := hidD hgB; clear hoB hgB hatB)
            go_roundg (N - (k + 1))
            case measure => have := HGK.out; omega
            case rel =>
              have hrow : (wr.alloc (.cells #[.slice ea n ec] 58)).ownsRow V.heap.size 60 2 (.slice ea (rowA (R k)).length ec) (rowA (R k)).length (itsV (rowA (R k))) := by
                have h1 := keep0 HEO.out (World.grownBy_alloc wr (.cells #[.slice ea n ec] 58) none)
                rw [HNE3.out] at h1 ⊢
                exact owns_lowP h1 HGZ.out.size
              have hob := HOB.out
              rw [HNE3.out] at hob HGB hrow
              exact ⟨k + 1, _, _, _, _, _, _, by omega, rfl, rfl, by go_num, grown_rowP (grown_noneS HGZ.out (grown_trans HG3.out (World.grownBy_alloc wr _ none))) (HVA.out _ (World.grownBy_alloc wr _ none)).1.out (Nat.le_refl _) HGB.out, box_under (HVA.out _ (World.grownBy_alloc wr _ none)).1.out (box_kept HPZ.out (grown_trans HG3.out (World.grownBy_alloc wr _ none))) (by decide) HGB.out, row_row (keep0 HOZ.out (grown_trans HG3.out (World.grownBy_alloc wr _ none))) (HVA.out _ (World.grownBy_alloc wr _ none)).1.out (by decide) HGB.out, (HVA.out _ (World.grownBy_alloc wr _ none)).1.push (by decide) hrow HGB.out hob⟩

end Go.Proofs.Ytgmljpkenipgjaa.J

/-
  pack: the document's May (printed by tools/pk_dmay.py).
-/
namespace Go.Proofs.Ytgmljpkenipgjaa.J
open Go.RowKit Go.Maps Go.Shelf Pk

attribute [local go_sem] Oper.semAt_some

theorem takeD {l : List Int} {j : Nat} (h : j < l.length) : ∀ x ∈ l.take (j + 1), x ∈ l.take j ∨ x = l.getD j 0 := fun x hx => by
  rw [List.take_add_one, List.getElem?_eq_getElem h, Option.toList_some, List.mem_append] at hx
  rcases hx with hx | hx
  · exact .inl hx
  · refine .inr ?_
    rw [List.getD_eq_getElem?_getD, List.getElem?_eq_getElem h]
    simpa using hx
theorem takeE {l : List It} {j : Nat} (h : j < l.length) : ∀ x ∈ l.take (j + 1), x ∈ l.take j ∨ x = l.getD j (0, 0) := fun x hx => by
  rw [List.take_add_one, List.getElem?_eq_getElem h, Option.toList_some, List.mem_append] at hx
  rcases hx with hx | hx
  · exact .inl hx
  · refine .inr ?_
    rw [List.getD_eq_getElem?_getD, List.getElem?_eq_getElem h]
    simpa using hx
theorem getD_memE {l : List It} {j : Nat} (h : j < l.length) : l.getD j (0, 0) ∈ l := by rw [List.getD_eq_getElem?_getD, List.getElem?_eq_getElem h]; exact List.getElem_mem _
theorem getD_memI {l : List Int} {j : Nat} (h : j < l.length) : l.getD j 0 ∈ l := by rw [List.getD_eq_getElem?_getD, List.getElem?_eq_getElem h]; exact List.getElem_mem _

set_option maxRecDepth 100000 in
set_option maxHeartbeats 8000000 in
theorem rpMay_any (a g : Option Addr) (N M c d : Nat) (R : Nat → List It) (Q : Nat → List Int) (la lg : Nat → Option Addr) (lc ld : Nat → Nat) (w : World) (hR : RsAt w a N R la lc) (hQ : RiAt w g M Q lg ld) (hN : N ≤ 17592186044416) (hM : M ≤ 17592186044416) (hl : ∀ i, i < N → (R i).length ≤ 17592186044416) (hl2 : ∀ i, i < M → (Q i).length ≤ 17592186044416) (r : Bool) (hr : r = true ↔ MayT N M R Q) :
    Calls Try.prog 27 #[.agg #[.slice a N c, .slice g M d]] w fun e y => e = .returned (.bool r) ∧ w.grownBy y none := by
  have HT : Hid (MayT N M R Q → true = r) := fun h => (hr.2 h).symm
  have HN : Hid (¬ MayT N M R Q → false = r) := fun h => by
    cases hrr : r with
    | false => rfl
    | true => exact absurd (hr.1 hrr) h
  clear hr
  obtain ⟨X, hX⟩ : ∃ X, X = w.alloc (.cells #[.slice a N c, .slice g M d] 42) := ⟨_, rfl⟩
  have hgx : w.grownBy X none := by rw [hX]; exact World.grownBy_alloc _ _ none
  have HGX := hidH hgx
  have HB : Hid (∀ Y, X.grownBy Y none → Y.cell? ⟨w.heap.size, 0, none⟩ = some (.slice a N c) ∧ Y.cell? ⟨w.heap.size, 1, none⟩ = some (.slice g M d)) := fun Y hY => by
    have h0 : Y.heap[w.heap.size]? = some (.cells #[.slice a N c, .slice g M d] 42 (0, 0)) := box_kept (by rw [hX]; exact heap_alloc_last w _) hY
    exact ⟨by rw [cell_of_row _ _ _ _ _ _ h0]; rfl, by rw [cell_of_row _ _ _ _ _ _ h0]; rfl⟩
  have HR : Hid (∀ Y, X.grownBy Y none → RsAt Y a N R la lc) := fun Y hY => hR.kept (grown_trans hgx hY)
  have HQ : Hid (∀ Y, X.grownBy Y none → RiAt Y g M Q lg ld) := fun Y hY => hQ.kept (grown_trans hgx hY)
  have HL := hidH hl
  have HL2 := hidH hl2
  obtain ⟨q0, q1⟩ := HB.out X (grown_refl _ _)
  rw [hX] at q0 q1
  clear hR hQ hl hl2 hgx
  by_cases h0 : N < 1
  · have HF : Hid (false = r) := HN.out (fun h => by have := h.2.2.1.1.1; omega)
    have e0 : N = 0 := by omega
    subst e0
    go_enter Try.func27, Try.ntmps27
    go_wp2_with fail
    go_ret
    exact ⟨congrArg (fun v => Ending.returned (Value.bool v)) HF.out, World.grownBy_alloc _ _ none⟩
  have d0 : decide ((N : Int) < 1) = false := decide_eq_false (by omega)
  have d0' : decide (N < 1) = false := decide_eq_false h0
  have d0'' : decide (N = 0) = false := decide_eq_false (by omega)
  by_cases h1 : 256 < N
  · have d1 : decide ((256 : Int) < (N : Int)) = true := decide_eq_true (by omega)
    have d1' : decide (256 < N) = true := decide_eq_true h1
    have HF : Hid (false = r) := HN.out (fun h => by have := h.1; omega)
    clear h0 h1
    go_enter Try.func27, Try.ntmps27
    go_wp2_with fail
    go_ret
    exact ⟨congrArg (fun v => Ending.returned (Value.bool v)) HF.out, World.grownBy_alloc _ _ none⟩
  have d1 : decide ((256 : Int) < (N : Int)) = false := decide_eq_false (by omega)
  have d1' : decide (256 < N) = false := decide_eq_false h1
  by_cases h2 : M = N
  case neg =>
    have e1 : ((M : Int) != (N : Int)) = true := by rw [bne_iff_ne]; omega
    have e1' : (M != N) = true := by rw [bne_iff_ne]; exact h2
    have HF : Hid (false = r) := HN.out (fun h => h2 h.2.1)
    clear h0 h1 h2
    go_enter Try.func27, Try.ntmps27
    go_wp2_with fail
    go_ret
    exact ⟨congrArg (fun v => Ending.returned (Value.bool v)) HF.out, World.grownBy_alloc _ _ none⟩
  subst h2
  have e1 : ((M : Int) != (M : Int)) = false := bne_self_eq_false _
  have e1' : (M != M) = false := bne_self_eq_false _
  have HM6 : Hid (0 < M ∧ M ≤ 256) := ⟨by omega, by omega⟩
  obtain ⟨ra, ro, rfl, hc⟩ : ∃ ra ro, a = some ⟨ra, ro, none⟩ ∧ ∀ i, i < M → X.cell? ⟨ra, ro + i, none⟩ = some (.slice (la i) (R i).length (lc i)) := by
    rcases (HR.out X (grown_refl _ _)).1 with h | h
    · omega
    · exact h
  obtain ⟨rg, og, rfl, hg⟩ : ∃ rg og, g = some ⟨rg, og, none⟩ ∧ ∀ i, i < M → X.cell? ⟨rg, og + i, none⟩ = some (.slice (lg i) (Q i).length (ld i)) := by
    rcases (HQ.out X (grown_refl _ _)).1 with h | h
    · omega
    · exact h
  have HCA : Hid (∀ Y, X.grownBy Y none → ∀ i, i < M → Y.cell? ⟨ra, ro + i, none⟩ = some (.slice (la i) (R i).length (lc i))) := fun Y hY i hi => hY.cell (hc i hi) (by simp)
  have HCG : Hid (∀ Y, X.grownBy Y none → ∀ i, i < M → Y.cell? ⟨rg, og + i, none⟩ = some (.slice (lg i) (Q i).length (ld i))) := fun Y hY i hi => hY.cell (hg i hi) (by simp)
  have c0 := hc 0 (by omega)
  have g0 := hg 0 (by omega)
  rw [Nat.add_zero, hX] at c0 g0
  obtain ⟨t, ht⟩ : ∃ t, t = (R 0).length := ⟨_, rfl⟩
  obtain ⟨s, hs⟩ : ∃ s, s = (Q 0).length := ⟨_, rfl⟩
  have HTT : Hid (t = (R 0).length) := ht
  have HSS : Hid (s = (Q 0).length) := hs
  obtain ⟨u0, hu0⟩ : ∃ v, v = la 0 := ⟨_, rfl⟩
  obtain ⟨u1, hu1⟩ : ∃ v, v = lc 0 := ⟨_, rfl⟩
  obtain ⟨u2, hu2⟩ : ∃ v, v = lg 0 := ⟨_, rfl⟩
  obtain ⟨u3, hu3⟩ : ∃ v, v = ld 0 := ⟨_, rfl⟩
  rw [← ht, ← hu0, ← hu1] at c0
  rw [← hs, ← hu2, ← hu3] at g0
  have hMi : (0 : Int) < (M : Int) := by omega
  clear hc hg ht hs hu0 hu1 hu2 hu3 h0 h1
  by_cases kt : t < 1
  · have et : t = 0 := by omega
    subst et
    clear kt
    have HF : Hid (false = r) := HN.out (fun h => by have h1 := h.2.2.1.1.2.1; have h2 := HTT.out; simp only [] at h1; omega)
    go_enter Try.func27, Try.ntmps27
    go_wp2_with fail
    go_ret
    exact ⟨congrArg (fun v => Ending.returned (Value.bool v)) HF.out, World.grownBy_alloc _ _ none⟩
  have dt0 : decide ((t : Int) < 1) = false := decide_eq_false (by omega)
  have dt1 : decide (t < 1) = false := decide_eq_false kt
  have dt2 : decide (t = 0) = false := decide_eq_false (by omega)
  by_cases jt : 65 < t
  · have dt3 : decide ((65 : Int) < (t : Int)) = true := decide_eq_true (by omega)
    have dt4 : decide (65 < t) = true := decide_eq_true jt
    have HF : Hid (false = r) := HN.out (fun h => by have h1 := h.2.2.1.1.2.2.1; have h2 := HTT.out; simp only [] at h1; omega)
    clear kt jt
    go_enter Try.func27, Try.ntmps27
    go_wp2_with fail
    go_ret
    exact ⟨congrArg (fun v => Ending.returned (Value.bool v)) HF.out, World.grownBy_alloc _ _ none⟩
  have dt3 : decide ((65 : Int) < (t : Int)) = false := decide_eq_false (by omega)
  have dt4 : decide (65 < t) = false := decide_eq_false jt
  by_cases ks : s < 1
  · have es : s = 0 := by omega
    subst es
    clear ks
    have HF : Hid (false = r) := HN.out (fun h => by have h1 := h.2.2.2.1.2.1; have h2 := HSS.out; simp only [] at h1; omega)
    go_enter Try.func27, Try.ntmps27
    go_wp2_with fail
    go_ret
    exact ⟨congrArg (fun v => Ending.returned (Value.bool v)) HF.out, World.grownBy_alloc _ _ none⟩
  have ds0 : decide ((s : Int) < 1) = false := decide_eq_false (by omega)
  have ds1 : decide (s < 1) = false := decide_eq_false ks
  have ds2 : decide (s = 0) = false := decide_eq_false (by omega)
  by_cases js : 65 < s
  · have ds3 : decide ((65 : Int) < (s : Int)) = true := decide_eq_true (by omega)
    have ds4 : decide (65 < s) = true := decide_eq_true js
    have HF : Hid (false = r) := HN.out (fun h => by have h1 := h.2.2.2.1.2.2.1; have h2 := HSS.out; simp only [] at h1; omega)
    clear ks js
    go_enter Try.func27, Try.ntmps27
    go_wp2_with fail
    go_ret
    exact ⟨congrArg (fun v => Ending.returned (Value.bool v)) HF.out, World.grownBy_alloc _ _ none⟩
  have ds3 : decide ((65 : Int) < (s : Int)) = false := decide_eq_false (by omega)
  have ds4 : decide (65 < s) = false := decide_eq_false js
  have HTB : Hid ((0 < t ∧ t ≤ 65) ∧ (0 < s ∧ s ≤ 65)) := ⟨⟨by omega, by omega⟩, ⟨by omega, by omega⟩⟩
  clear kt jt ks js
  go_enter Try.func27, Try.ntmps27
  go_wp2_with fail
  rw [← hX]
  clear hX q0 q1 c0 g0 dt0 dt1 dt2 dt3 dt4 ds0 ds1 ds2 ds3 ds4 d0 d0' d0'' d1 d1' e1 e1'
  go_loopg [6] M (fun gk v wr => ∃ k : Nat, k ≤ M ∧ gk = M - k ∧ v = .int .i64 k ∧ Hid (∀ i, i < k → (R i).length = t ∧ (Q i).length = s ∧ (∀ x ∈ R i, StandOk x.1 x.2 M) ∧ ∀ x ∈ Q i, GotoOk x M) ∧ X.grownBy wr none)
  case atStart => exact ⟨0, Nat.zero_le _, rfl, rfl, fun i hi => absurd hi (Nat.not_lt_zero _), grown_refl _ _⟩
  case round =>
    obtain ⟨i, hi, hgi, rfl, HD, hg⟩ := hrel
    have HGI : Hid (gk = M - i) := hgi
    have HG := hidH hg
    obtain ⟨q0, q1⟩ := HB.out wr hg
    clear hgi
    by_cases hin : i < M
    case neg =>
      have hid : decide (i < M) = false := decide_eq_false hin
      have hid' : decide ((i : Int) < (M : Int)) = false := decide_eq_false (by omega)
      have HF : Hid (true = r) := HT.out ⟨HM6.out.2, rfl, ⟨⟨HM6.out.1, by have h1 := HTB.out; have h2 := HTT.out; simp only []; omega, by have h1 := HTB.out; have h2 := HTT.out; simp only []; omega, fun j hj => by have h1 := (HD.out j (by omega)).1; have h2 := HTT.out; simp only []; omega⟩, fun j hj => (HD.out j (by omega)).2.2.1⟩, ⟨⟨HM6.out.1, by have h1 := HTB.out; have h2 := HSS.out; simp only []; omega, by have h1 := HTB.out; have h2 := HSS.out; simp only []; omega, fun j hj => by have h1 := (HD.out j (by omega)).2.1; have h2 := HSS.out; simp only []; omega⟩, fun j hj => (HD.out j (by omega)).2.2.2⟩⟩
      clear hg hin
      go_wp2_with fail
      go_ret
      exact ⟨congrArg (fun v => Ending.returned (Value.bool v)) HF.out, grown_trans HGX.out HG.out⟩
    have hid : decide (i < M) = true := decide_eq_true hin
    have hi0 : (0 : Int) ≤ (i : Int) := by omega
    have hi1 : (i : Int) < (M : Int) := by omega
    have ca := HCA.out wr hg i hin
    have cg := HCG.out wr hg i hin
    obtain ⟨n1, hn1⟩ : ∃ v, v = (R i).length := ⟨_, rfl⟩
    have HN1 : Hid (n1 = (R i).length) := hn1
    obtain ⟨n2, hn2⟩ : ∃ v, v = (Q i).length := ⟨_, rfl⟩
    have HN2 : Hid (n2 = (Q i).length) := hn2
    obtain ⟨ui, hui⟩ : ∃ v, v = la i := ⟨_, rfl⟩
    obtain ⟨vi, hvi⟩ : ∃ v, v = lg i := ⟨_, rfl⟩
    obtain ⟨uc, huc⟩ : ∃ v, v = lc i := ⟨_, rfl⟩
    obtain ⟨vc, hvc⟩ : ∃ v, v = ld i := ⟨_, rfl⟩
    have HIA : Hid (∀ Y, X.grownBy Y none → ItsAt Y ui (R i)) := by rw [hui]; exact fun Y hY => (HR.out Y hY).2 i hin
    have HIG : Hid (∀ Y, X.grownBy Y none → IntsAt Y vi (Q i)) := by rw [hvi]; exact fun Y hY => (HQ.out Y hY).2 i hin
    rw [← hn1, ← hui, ← huc] at ca
    rw [← hn2, ← hvi, ← hvc] at cg
    have HCI : Hid (∀ Y, wr.grownBy Y none → Y.cell? ⟨ra, ro + i, none⟩ = some (.slice ui n1 uc) ∧ Y.cell? ⟨rg, og + i, none⟩ = some (.slice vi n2 vc)) := fun Y hY => ⟨hY.cell ca (by simp), hY.cell cg (by simp)⟩
    clear hn1 hn2 hui hvi huc hvc
    by_cases b1 : n1 = t
    case neg =>
      have f1 : (n1 != t) = true := by rw [bne_iff_ne]; exact b1
      have f1' : ((n1 : Int) != (t : Int)) = true := by rw [bne_iff_ne]; omega
      have HF : Hid (false = r) := HN.out (fun h => by have h1 := h.2.2.1.1.2.2.2 i hin; have h2 := HTT.out; have h3 := HN1.out; simp only [] at h1; omega)
      clear hg b1
      go_wp2_with fail
      go_ret
      exact ⟨congrArg (fun v => Ending.returned (Value.bool v)) HF.out, grown_trans HGX.out HG.out⟩
    subst b1
    have f1 : (n1 != n1) = false := bne_self_eq_false _
    have f1' : ((n1 : Int) != (n1 : Int)) = false := bne_self_eq_false _
    by_cases b2 : n2 = s
    case neg =>
      have f2 : (n2 != s) = true := by rw [bne_iff_ne]; exact b2
      have f2' : ((n2 : Int) != (s : Int)) = true := by rw [bne_iff_ne]; omega
      have HF : Hid (false = r) := HN.out (fun h => by have h1 := h.2.2.2.1.2.2.2 i hin; have h2 := HSS.out; have h3 := HN2.out; simp only [] at h1; omega)
      clear hg b2
      go_wp2_with fail
      go_ret
      exact ⟨congrArg (fun v => Ending.returned (Value.bool v)) HF.out, grown_trans HGX.out HG.out⟩
    subst b2
    have f2 : (n2 != n2) = false := bne_self_eq_false _
    have f2' : ((n2 : Int) != (n2 : Int)) = false := bne_self_eq_false _
    clear hg
    go_wp2_with fail
    clear ca cg q0 q1
    have hn65 : n1 ≤ 65 := HTB.out.1.2
    have hn66 : n2 ≤ 65 := HTB.out.2.2
    generalize wr = W1 at *
    go_loopg [7] n1 (fun gk v wr => ∃ j : Nat, j ≤ n1 ∧ gk = n1 - j ∧ v = .int .i64 j ∧ Hid (∀ x ∈ (R i).take j, StandOk x.1 x.2 M) ∧ W1.grownBy wr none)
    case atStart => exact ⟨0, Nat.zero_le _, rfl, rfl, fun x hx => by simp at hx, grown_refl _ _⟩
    case round =>
      obtain ⟨j, hj, hgj, rfl, HXX, hgy⟩ := hrel
      have HGJ : Hid (gk = n1 - j) := hgj
      have HGY := hidH hgy
      have HGW : Hid (X.grownBy wr none) := grown_trans HG.out hgy
      clear hgj
      by_cases hjn : j < n1
      · have hjd : decide (j < n1) = true := decide_eq_true hjn
        have hj0 : (0 : Int) ≤ (j : Int) := by omega
        have hj1 : (j : Int) < (n1 : Int) := by omega
        have hjl : j < (R i).length := by rw [← HN1.out]; exact hjn
        have HMM : Hid ((R i).getD j (0, 0) ∈ R i) := getD_memE hjl
        have HTK : Hid (∀ x ∈ (R i).take (j + 1), x ∈ (R i).take j ∨ x = (R i).getD j (0, 0)) := takeE hjl
        obtain ⟨q0, q1⟩ := HB.out wr HGW.out
        obtain ⟨ca, cg⟩ := HCI.out wr hgy
        obtain ⟨lb, lo, rfl, t0, t1⟩ := its_get (HIA.out wr HGW.out) hjl
        obtain ⟨x, hx⟩ : ∃ x, x = (R i).getD j (0, 0) := ⟨_, rfl⟩
        rw [← hx] at t0 t1 HMM HTK
        obtain ⟨kind, tv⟩ := x
        simp only [] at t0 t1
        clear hx hgy q1 cg
        by_cases k0 : kind = 0
        · subst k0
          by_cases z0 : tv = 0
          · subst z0
            have HZ : Hid (StandOk 0 0 M) := by show StandOk _ _ _; unfold StandOk; omega
            go_wp2_with fail
            go_roundg (n1 - (j + 1))
            case measure => have := HGJ.out; omega
            case rel => exact ⟨j + 1, by omega, rfl, by go_num, fun x hx => by
              rcases HTK.out x hx with h | h
              · exact HXX.out x h
              · subst h; exact HZ.out, grown_trans HGY.out (World.grownBy_alloc _ _ none)⟩
          · have y0 : (tv == 0) = false := beq_eq_false_iff_ne.2 z0
            have HZ : Hid (¬ StandOk 0 tv M) := by show ¬ StandOk _ _ _; unfold StandOk; omega
            have HF : Hid (false = r) := HN.out (fun h => HZ.out (h.2.2.1.2 i hin _ HMM.out))
            clear z0
            go_wp2_with fail
            go_ret
            exact ⟨congrArg (fun v => Ending.returned (Value.bool v)) HF.out, grown_trans (grown_trans HGX.out HGW.out) (World.grownBy_alloc _ _ none)⟩
        by_cases k3 : kind = 3
        · subst k3
          by_cases z0 : tv = 0
          · subst z0
            have HZ : Hid (StandOk 3 0 M) := by show StandOk _ _ _; unfold StandOk; omega
            go_wp2_with fail
            go_roundg (n1 - (j + 1))
            case measure => have := HGJ.out; omega
            case rel => exact ⟨j + 1, by omega, rfl, by go_num, fun x hx => by
              rcases HTK.out x hx with h | h
              · exact HXX.out x h
              · subst h; exact HZ.out, grown_trans HGY.out (World.grownBy_alloc _ _ none)⟩
          · have y0 : (tv == 0) = false := beq_eq_false_iff_ne.2 z0
            have HZ : Hid (¬ StandOk 3 tv M) := by show ¬ StandOk _ _ _; unfold StandOk; omega
            have HF : Hid (false = r) := HN.out (fun h => HZ.out (h.2.2.1.2 i hin _ HMM.out))
            clear z0
            go_wp2_with fail
            go_ret
            exact ⟨congrArg (fun v => Ending.returned (Value.bool v)) HF.out, grown_trans (grown_trans HGX.out HGW.out) (World.grownBy_alloc _ _ none)⟩
        by_cases k4 : kind = 4
        · subst k4
          by_cases z0 : tv = 0
          · subst z0
            have HZ : Hid (StandOk 4 0 M) := by show StandOk _ _ _; unfold StandOk; omega
            go_wp2_with fail
            go_roundg (n1 - (j + 1))
            case measure => have := HGJ.out; omega
            case rel => exact ⟨j + 1, by omega, rfl, by go_num, fun x hx => by
              rcases HTK.out x hx with h | h
              · exact HXX.out x h
              · subst h; exact HZ.out, grown_trans HGY.out (World.grownBy_alloc _ _ none)⟩
          · have y0 : (tv == 0) = false := beq_eq_false_iff_ne.2 z0
            have HZ : Hid (¬ StandOk 4 tv M) := by show ¬ StandOk _ _ _; unfold StandOk; omega
            have HF : Hid (false = r) := HN.out (fun h => HZ.out (h.2.2.1.2 i hin _ HMM.out))
            clear z0
            go_wp2_with fail
            go_ret
            exact ⟨congrArg (fun v => Ending.returned (Value.bool v)) HF.out, grown_trans (grown_trans HGX.out HGW.out) (World.grownBy_alloc _ _ none)⟩
        by_cases k1 : kind = 1
        · subst k1
          by_cases z0 : tv = 0
          · subst z0
            have y1 : decide ((0 : Int) < (M : Int)) = true := decide_eq_true hMi
            have y1n : decide (0 < M) = true := decide_eq_true (by omega)
            have HZ : Hid (StandOk 1 0 M) := by show StandOk _ _ _; unfold StandOk; omega
            go_wp2_with fail
            go_roundg (n1 - (j + 1))
            case measure => have := HGJ.out; omega
            case rel => exact ⟨j + 1, by omega, rfl, by go_num, fun x hx => by
              rcases HTK.out x hx with h | h
              · exact HXX.out x h
              · subst h; exact HZ.out, grown_trans HGY.out (World.grownBy_alloc _ _ none)⟩
          · have y0 : (tv == 0) = false := beq_eq_false_iff_ne.2 z0
            by_cases z1 : 0 ≤ tv
            · have y1 : decide (0 ≤ tv) = true := decide_eq_true z1
              by_cases z2 : tv < (M : Int)
              · have y2 : decide (tv < (M : Int)) = true := decide_eq_true z2
                have HZ : Hid (StandOk 1 tv M) := by show StandOk _ _ _; unfold StandOk; omega
                clear z0 z1 z2
                go_wp2_with fail
                go_roundg (n1 - (j + 1))
                case measure => have := HGJ.out; omega
                case rel => exact ⟨j + 1, by omega, rfl, by go_num, fun x hx => by
                  rcases HTK.out x hx with h | h
                  · exact HXX.out x h
                  · subst h; exact HZ.out, grown_trans HGY.out (World.grownBy_alloc _ _ none)⟩
              · have y2 : decide (tv < (M : Int)) = false := decide_eq_false z2
                have HZ : Hid (¬ StandOk 1 tv M) := by show ¬ StandOk _ _ _; unfold StandOk; omega
                have HF : Hid (false = r) := HN.out (fun h => HZ.out (h.2.2.1.2 i hin _ HMM.out))
                clear z0 z1 z2
                go_wp2_with fail
                go_ret
                exact ⟨congrArg (fun v => Ending.returned (Value.bool v)) HF.out, grown_trans (grown_trans HGX.out HGW.out) (World.grownBy_alloc _ _ none)⟩
            · have y1 : decide (0 ≤ tv) = false := decide_eq_false z1
              have HZ : Hid (¬ StandOk 1 tv M) := by show ¬ StandOk _ _ _; unfold StandOk; omega
              have HF : Hid (false = r) := HN.out (fun h => HZ.out (h.2.2.1.2 i hin _ HMM.out))
              clear z0 z1
              go_wp2_with fail
              go_ret
              exact ⟨congrArg (fun v => Ending.returned (Value.bool v)) HF.out, grown_trans (grown_trans HGX.out HGW.out) (World.grownBy_alloc _ _ none)⟩
        by_cases k2 : kind = 2
        · subst k2
          by_cases z0 : tv = 0
          · subst z0
            have HZ : Hid (¬ StandOk 2 0 M) := by show ¬ StandOk _ _ _; unfold StandOk; omega
            have HF : Hid (false = r) := HN.out (fun h => HZ.out (h.2.2.1.2 i hin _ HMM.out))
            go_wp2_with fail
            go_ret
            exact ⟨congrArg (fun v => Ending.returned (Value.bool v)) HF.out, grown_trans (grown_trans HGX.out HGW.out) (World.grownBy_alloc _ _ none)⟩
          · have y0 : (tv == 0) = false := beq_eq_false_iff_ne.2 z0
            by_cases z1 : 1 ≤ tv
            · have y1 : decide (1 ≤ tv) = true := decide_eq_true z1
              by_cases z2 : tv ≤ 96
              · have y2 : decide (tv ≤ 96) = true := decide_eq_true z2
                have HZ : Hid (StandOk 2 tv M) := by show StandOk _ _ _; unfold StandOk; omega
                clear z0 z1 z2
                go_wp2_with fail
                go_roundg (n1 - (j + 1))
                case measure => have := HGJ.out; omega
                case rel => exact ⟨j + 1, by omega, rfl, by go_num, fun x hx => by
                  rcases HTK.out x hx with h | h
                  · exact HXX.out x h
                  · subst h; exact HZ.out, grown_trans HGY.out (World.grownBy_alloc _ _ none)⟩
              · have y2 : decide (tv ≤ 96) = false := decide_eq_false z2
                have HZ : Hid (¬ StandOk 2 tv M) := by show ¬ StandOk _ _ _; unfold StandOk; omega
                have HF : Hid (false = r) := HN.out (fun h => HZ.out (h.2.2.1.2 i hin _ HMM.out))
                clear z0 z1 z2
                go_wp2_with fail
                go_ret
                exact ⟨congrArg (fun v => Ending.returned (Value.bool v)) HF.out, grown_trans (grown_trans HGX.out HGW.out) (World.grownBy_alloc _ _ none)⟩
            · have y1 : decide (1 ≤ tv) = false := decide_eq_false z1
              have HZ : Hid (¬ StandOk 2 tv M) := by show ¬ StandOk _ _ _; unfold StandOk; omega
              have HF : Hid (false = r) := HN.out (fun h => HZ.out (h.2.2.1.2 i hin _ HMM.out))
              clear z0 z1
              go_wp2_with fail
              go_ret
              exact ⟨congrArg (fun v => Ending.returned (Value.bool v)) HF.out, grown_trans (grown_trans HGX.out HGW.out) (World.grownBy_alloc _ _ none)⟩
        have x0 : (kind == 0) = false := beq_eq_false_iff_ne.2 k0
        have x1 : (kind == 1) = false := beq_eq_false_iff_ne.2 k1
        have x2 : (kind == 2) = false := beq_eq_false_iff_ne.2 k2
        have x3 : (kind == 3) = false := beq_eq_false_iff_ne.2 k3
        have x4 : (kind == 4) = false := beq_eq_false_iff_ne.2 k4
        by_cases z0 : tv = 0
        · subst z0
          have HZ : Hid (¬ StandOk kind 0 M) := by show ¬ StandOk _ _ _; unfold StandOk; omega
          have HF : Hid (false = r) := HN.out (fun h => HZ.out (h.2.2.1.2 i hin _ HMM.out))
          clear k0 k1 k2 k3 k4
          go_wp2_with fail
          go_ret
          exact ⟨congrArg (fun v => Ending.returned (Value.bool v)) HF.out, grown_trans (grown_trans HGX.out HGW.out) (World.grownBy_alloc _ _ none)⟩
        · have y0 : (tv == 0) = false := beq_eq_false_iff_ne.2 z0
          have HZ : Hid (¬ StandOk kind tv M) := by show ¬ StandOk _ _ _; unfold StandOk; omega
          have HF : Hid (false = r) := HN.out (fun h => HZ.out (h.2.2.1.2 i hin _ HMM.out))
          clear z0 k0 k1 k2 k3 k4
          go_wp2_with fail
          go_ret
          exact ⟨congrArg (fun v => Ending.returned (Value.bool v)) HF.out, grown_trans (grown_trans HGX.out HGW.out) (World.grownBy_alloc _ _ none)⟩
      · have hjd : decide (j < n1) = false := decide_eq_false hjn
        have HAL : Hid (∀ x ∈ R i, StandOk x.1 x.2 M) := fun x hx => HXX.out x (by rw [List.take_of_length_le (by have := HN1.out; omega)]; exact hx)
        clear hgy hjn HXX
        go_wp2_with fail
        clear hjd
        generalize wr = W2 at *
        go_loopg [10] n2 (fun gk v wr => ∃ j : Nat, j ≤ n2 ∧ gk = n2 - j ∧ v = .int .i64 j ∧ Hid (∀ x ∈ (Q i).take j, GotoOk x M) ∧ W2.grownBy wr none)
        case atStart => exact ⟨0, Nat.zero_le _, rfl, rfl, fun x hx => by simp at hx, grown_refl _ _⟩
        case round =>
          obtain ⟨j, hj, hgj, rfl, HXX, hgz⟩ := hrel
          have HGJ : Hid (gk = n2 - j) := hgj
          have HGZ : Hid (X.grownBy wr none) := grown_trans HGW.out hgz
          have HGZ2 := hidH hgz
          clear hgj
          by_cases hjn : j < n2
          · have hjd : decide (j < n2) = true := decide_eq_true hjn
            have hj0 : (0 : Int) ≤ (j : Int) := by omega
            have hj1 : (j : Int) < (n2 : Int) := by omega
            have hjl : j < (Q i).length := by rw [← HN2.out]; exact hjn
            have HMM : Hid ((Q i).getD j 0 ∈ Q i) := getD_memI hjl
            have HTK : Hid (∀ x ∈ (Q i).take (j + 1), x ∈ (Q i).take j ∨ x = (Q i).getD j 0) := takeD hjl
            obtain ⟨q0, q1⟩ := HB.out wr HGZ.out
            obtain ⟨ca, cg⟩ := HCI.out wr (grown_trans HGY.out hgz)
            obtain ⟨lb, lo, rfl, t0⟩ := ints_get (HIG.out wr HGZ.out) hjl
            obtain ⟨z, hz⟩ : ∃ z, z = (Q i).getD j 0 := ⟨_, rfl⟩
            rw [← hz] at t0 HMM HTK
            clear hz hgz q0 ca
            by_cases a1 : z < -1
            · have y1 : decide (z < -1) = true := decide_eq_true a1
              have HF : Hid (false = r) := HN.out (fun h => by have h1 := h.2.2.2.2 i hin z HMM.out; unfold GotoOk at h1; omega)
              clear a1 hjn
              go_wp2_with fail
              go_ret
              exact ⟨congrArg (fun v => Ending.returned (Value.bool v)) HF.out, grown_trans HGX.out HGZ.out⟩
            · have y1 : decide (z < -1) = false := decide_eq_false a1
              by_cases a2 : (M : Int) ≤ z
              · have y2 : decide ((M : Int) ≤ z) = true := decide_eq_true a2
                have HF : Hid (false = r) := HN.out (fun h => by have h1 := h.2.2.2.2 i hin z HMM.out; unfold GotoOk at h1; omega)
                clear a1 a2 hjn
                go_wp2_with fail
                go_ret
                exact ⟨congrArg (fun v => Ending.returned (Value.bool v)) HF.out, grown_trans HGX.out HGZ.out⟩
              · have y2 : decide ((M : Int) ≤ z) = false := decide_eq_false a2
                have HZ : Hid (GotoOk z M) := by show GotoOk _ _; unfold GotoOk; omega
                clear a1 a2
                go_wp2_with fail
                go_roundg (n2 - (j + 1))
                case measure => have := HGJ.out; omega
                case rel => exact ⟨j + 1, by omega, rfl, by go_num, fun x hx => by
                    rcases HTK.out x hx with h | h
                    · exact HXX.out x h
                    · subst h; exact HZ.out, HGZ2.out⟩
          · have hjd : decide (j < n2) = false := decide_eq_false hjn
            have HBL : Hid (∀ x ∈ Q i, GotoOk x M) := fun x hx => HXX.out x (by rw [List.take_of_length_le (by have := HN2.out; omega)]; exact hx)
            clear hgz hjn HXX
            go_wp2_with fail
            go_roundg (M - (i + 1))
            case measure => have := HGI.out; omega
            case rel => exact ⟨i + 1, by omega, rfl, by go_num, fun k hk => by
                by_cases e : k = i
                · subst e; exact ⟨HN1.out.symm, HN2.out.symm, HAL.out, HBL.out⟩
                · exact HD.out k (by omega), HGZ.out⟩

end Go.Proofs.Ytgmljpkenipgjaa.J

/-
  pack: the document's Pack: the rows of gotos: a loop as a declaration of its own (printed by tools/pk_rpb.py).
-/
namespace Go.Proofs.Ytgmljpkenipgjaa.J
open Go.RowKit Go.Maps Go.Shelf Pk

attribute [local go_sem] Oper.semAt_some

noncomputable def rpB : Code := ((Try.f20.body.map loopsJ).getD []).getD 3 .skip

theorem row_apart {X Y : World} {B e s n : Nat} {v : Value} {xs : List Value} {b : Option Nat} (h : X.ownsRow B e s v n xs) (hg : X.grownBy Y b) (hb : ∀ q, b = some q → q < B) : Y.ownsRow B e s v n xs := h.kept hg (by
  rcases h.2 with ⟨hv, _⟩ | ⟨g, cap, cur, hv, hB, _⟩
  · rw [hv]; exact .inl rfl
  · rw [hv]
    right
    intro e2
    have e3 := hb g (by simpa [Value.ownBlock] using e2.symm)
    omega)
/-- A nonterminal's gotos in the first j lists. -/
def colP (Q : Nat → List Int) (nn j : Nat) : List Int := (List.range j).map fun i => (Q i).getD nn 0
theorem colP_len (Q : Nat → List Int) (nn j : Nat) : (colP Q nn j).length = j := by unfold colP; simp
theorem colP_snoc (Q : Nat → List Int) (nn j : Nat) : colP Q nn (j + 1) = colP Q nn j ++ [(Q j).getD nn 0] := by unfold colP; rw [List.range_succ, List.map_append]; rfl
theorem colP_at (Q : Nat → List Int) (nn : Nat) {j i : Nat} (h : i < j) : (colP Q nn j).getD i 0 = (Q i).getD nn 0 := by unfold colP; simp [List.getD, h]
theorem colT_snoc (Q : Nat → List Int) (nn : Nat) (m : Int) (j : Nat) : colT Q nn m (j + 1) = colT Q nn m j ++ (if keepG m ((Q j).getD nn 0) = true then [((j : Int), (Q j).getD nn 0)] else []) := rfl
theorem keepG_doc (m t : Int) (h : -1 ≤ t) : keepG m t = true ↔ 0 ≤ t ∧ t ≠ m := by
  unfold keepG
  by_cases h1 : t = -1 <;> by_cases h2 : t = m <;> simp [h1, h2] <;> omega

set_option maxRecDepth 100000 in
set_option maxHeartbeats 16000000 in
theorem rp_b {Q0 : Exit → Act → World → Prop} {w V : World} {db pb N c M d T : Nat} {a g : Option Addr} {Q : Nat → List Int} {la : Nat → Option Addr} {lc : Nat → Nat} {p0 p1 p2 p3 : Value}
    {v0 v2 v3 v6 v7 v8 v9 v10 v11 v12 v14 v15 v16 v17 v18 v19 v20 v21 v22 v23 v24 v25 v26 v27 v28 v29 v30 v31 v32 v33 v34 v35 v36 v37 v38 v39 v40 v41 v42 v43 v44 v45 v46 v47 v48 v49 v50 v51 v52 v53 v54 v55 v56 v57 v58 v59 v60 v61 v62 v63 v64 v65 v66 v67 v68 v69 v70 v71 v72 v73 v74 v75 v76 v77 v78 v79 v80 v81 v82 v83 v84 v85 v86 v87 v88 v89 v90 v91 v92 v93 v94 v95 v96 v97 v98 v99 v100 v101 v102 v103 v104 v105 v106 v107 v108 v109 v110 v111 v112 v113 v114 v115 v116 v117 v118 v119 v120 v121 v122 v123 v124 v125 v126 v127 v128 v129 v130 v131 v132 v133 v134 v135 v136 v137 v138 v139 v140 v141 v142 v143 v144 v145 v146 v147 v148 v149 v150 v151 v152 v153 v154 v155 v156 v157 v158 v159 v160 v161 v162 v163 v164 v165 v166 v167 v168 v169 v170 v171 v172 v173 v174 v175 v176 v177 v178 v179 v180 v181 v182 v183 v184 v185 v186 v187 v188 v189 v190 v191 v192 : Value}
    (hM0 : 0 < M) (hM : M ≤ 256) (hlen : ∀ i, i < M → (Q i).length = T) (hT : T ≤ 65) (hst : ∀ i, i < M → ∀ x ∈ Q i, -1 ≤ x) (hR : ∀ X, w.grownBy X none → RiAt X g M Q la lc) (hwV : w.grownBy V none) (hwp : w.heap.size ≤ pb) (hpv : pb < V.heap.size)
    (hdb : V.heap[db]? = some (.cells #[.slice a N c, .slice g M d] 42 (0, 0))) (hpb : V.heap[pb]? = some (.cells #[p0, p1, p2, p3, .slice none 0 0, .slice none 0 0, .slice none 0 0, .slice none 0 0] 45 (0, 0))) (hne : db ≠ pb)
    (hexit : ∀ (wz : World) (da : Option Addr) (dc : Nat) (ra : Option Addr) (rc : Nat) (ua : Nat → Option Addr) (uc : Nat → Nat) (u13 u14 u15 u16 u17 u18 u119 u120 u121 u122 u123 u124 u125 u126 u127 u128 u129 u130 u131 u132 u133 u134 u135 u136 u137 u138 u139 u140 u141 u142 u143 u144 u145 u146 u147 u148 u149 u150 u151 u152 u153 u154 u155 u156 u157 u158 u159 u160 u161 u162 u163 u164 u165 u166 u167 u168 u169 u170 u171 u172 u173 u174 u175 u176 u177 u178 u179 u180 u181 u182 u183 u184 u185 : Value), V.grownBy wz (some pb) → wz.heap[pb]? = some (.cells #[p0, p1, p2, p3, .slice da T dc, .slice none 0 0, .slice none 0 0, .slice none 0 0] 45 (0, 0)) → wz.ownsRow V.heap.size 3 1 (.slice da T dc) T (zV (tgtL Q M T)) → LvP wz V.heap.size 58 60 2 ra rc T (fun j => (colA Q M j).length) (fun j => itsV (colA Q M j)) ua uc → Q0 (.exit 6) ⟨List.toArray (v0 :: .pointer (some ⟨db, 0, none⟩) :: v2 :: v3 :: .pointer (some ⟨pb, 0, none⟩) :: .slice ra T rc :: v6 :: v7 :: v8 :: v9 :: v10 :: v11 :: v12 :: u13 :: u14 :: u15 :: u16 :: u17 :: u18 :: v19 :: v20 :: v21 :: v22 :: v23 :: v24 :: v25 :: v26 :: v27 :: v28 :: v29 :: v30 :: v31 :: v32 :: v33 :: v34 :: v35 :: v36 :: v37 :: v38 :: v39 :: v40 :: v41 :: v42 :: v43 :: v44 :: v45 :: v46 :: v47 :: v48 :: v49 :: v50 :: v51 :: v52 :: v53 :: v54 :: v55 :: v56 :: v57 :: v58 :: v59 :: v60 :: v61 :: v62 :: v63 :: v64 :: v65 :: v66 :: v67 :: v68 :: v69 :: v70 :: v71 :: v72 :: v73 :: v74 :: v75 :: v76 :: v77 :: v78 :: v79 :: v80 :: v81 :: v82 :: v83 :: v84 :: v85 :: v86 :: v87 :: v88 :: v89 :: v90 :: v91 :: v92 :: v93 :: v94 :: v95 :: v96 :: v97 :: v98 :: v99 :: v100 :: v101 :: v102 :: v103 :: v104 :: v105 :: v106 :: v107 :: v108 :: v109 :: v110 :: v111 :: v112 :: v113 :: v114 :: v115 :: v116 :: v117 :: v118 :: u119 :: u120 :: u121 :: u122 :: u123 :: u124 :: u125 :: u126 :: u127 :: u128 :: u129 :: u130 :: u131 :: u132 :: u133 :: u134 :: u135 :: u136 :: u137 :: u138 :: u139 :: u140 :: u141 :: u142 :: u143 :: u144 :: u145 :: u146 :: u147 :: u148 :: u149 :: u150 :: u151 :: u152 :: u153 :: u154 :: u155 :: u156 :: u157 :: u158 :: u159 :: u160 :: u161 :: u162 :: u163 :: u164 :: u165 :: u166 :: u167 :: u168 :: u169 :: u170 :: u171 :: u172 :: u173 :: u174 :: u175 :: u176 :: u177 :: u178 :: u179 :: u180 :: u181 :: u182 :: u183 :: u184 :: u185 :: v186 :: v187 :: v188 :: v189 :: v190 :: v191 :: v192 :: []), []⟩ wz) :
    Code.wp Try.prog rpB Q0 ⟨List.toArray (v0 :: .pointer (some ⟨db, 0, none⟩) :: v2 :: v3 :: .pointer (some ⟨pb, 0, none⟩) :: .slice none 0 0 :: v6 :: v7 :: v8 :: v9 :: v10 :: v11 :: v12 :: .int .i64 0 :: v14 :: v15 :: v16 :: v17 :: v18 :: v19 :: v20 :: v21 :: v22 :: v23 :: v24 :: v25 :: v26 :: v27 :: v28 :: v29 :: v30 :: v31 :: v32 :: v33 :: v34 :: v35 :: v36 :: v37 :: v38 :: v39 :: v40 :: v41 :: v42 :: v43 :: v44 :: v45 :: v46 :: v47 :: v48 :: v49 :: v50 :: v51 :: v52 :: v53 :: v54 :: v55 :: v56 :: v57 :: v58 :: v59 :: v60 :: v61 :: v62 :: v63 :: v64 :: v65 :: v66 :: v67 :: v68 :: v69 :: v70 :: v71 :: v72 :: v73 :: v74 :: v75 :: v76 :: v77 :: v78 :: v79 :: v80 :: v81 :: v82 :: v83 :: v84 :: v85 :: v86 :: v87 :: v88 :: v89 :: v90 :: v91 :: v92 :: v93 :: v94 :: v95 :: v96 :: v97 :: v98 :: v99 :: v100 :: v101 :: v102 :: v103 :: v104 :: v105 :: v106 :: v107 :: v108 :: v109 :: v110 :: v111 :: v112 :: v113 :: v114 :: v115 :: v116 :: v117 :: v118 :: v119 :: v120 :: v121 :: v122 :: v123 :: v124 :: v125 :: v126 :: v127 :: v128 :: v129 :: v130 :: v131 :: v132 :: v133 :: v134 :: v135 :: v136 :: v137 :: v138 :: v139 :: v140 :: v141 :: v142 :: v143 :: v144 :: v145 :: v146 :: v147 :: v148 :: v149 :: v150 :: v151 :: v152 :: v153 :: v154 :: v155 :: v156 :: v157 :: v158 :: v159 :: v160 :: v161 :: v162 :: v163 :: v164 :: v165 :: v166 :: v167 :: v168 :: v169 :: v170 :: v171 :: v172 :: v173 :: v174 :: v175 :: v176 :: v177 :: v178 :: v179 :: v180 :: v181 :: v182 :: v183 :: v184 :: v185 :: v186 :: v187 :: v188 :: v189 :: v190 :: v191 :: v192 :: []), []⟩ V := by
  obtain ⟨i0, hi0, hz0, hz1, hz2⟩ := info_parts infoIntD
  obtain ⟨i1, hi1, hy0, hy1, hy2⟩ := info_parts infoEdgeP
  obtain ⟨i2, hi2, hx0, hx1, hx2⟩ := info_parts infoRowE
  have HL := hidD hlen
  have HST := hidD hst
  have HR := hidD hR
  have HWV := hidD hwV
  have HWP := hidD hwp
  have HPV := hidD hpv
  have HDB := hidD hdb
  have HNE := hidD hne
  have HEX := hidD hexit
  have HPB : Hid (∀ da dc, da = (none : Option Addr) → dc = 0 → V.heap[pb]? = some (.cells #[p0, p1, p2, p3, .slice da 0 dc, .slice none 0 0, .slice none 0 0, .slice none 0 0] 45 (0, 0))) := fun da dc h1 h2 => by subst h1; subst h2; exact hpb
  have HT0 : Hid (T = (Q 0).length) := (hlen 0 hM0).symm
  have hMi : (0 : Int) < (M : Int) := by omega
  clear hlen hst hR hwV hwp hpv hdb hpb hne hexit
  conv => arg 2; whnf
  go_loopg [5, 13] T (fun gk v5 v13 wr => ∃ (k : Nat) (da : Option Addr) (dc : Nat) (ra : Option Addr) (rc : Nat) (ua : Nat → Option Addr) (uc : Nat → Nat), k ≤ T ∧ gk = T - k ∧ v5 = .slice ra k rc ∧ v13 = .int .i64 k ∧ V.grownBy wr (some pb) ∧ wr.heap[pb]? = some (.cells #[p0, p1, p2, p3, .slice da k dc, .slice none 0 0, .slice none 0 0, .slice none 0 0] 45 (0, 0)) ∧ wr.ownsRow V.heap.size 3 1 (.slice da k dc) k (zV (tgtL Q M k)) ∧ LvP wr V.heap.size 58 60 2 ra rc k (fun j => (colA Q M j).length) (fun j => itsV (colA Q M j)) ua uc)
  case atStart => exact ⟨0, none, 0, none, 0, fun _ => none, fun _ => 0, Nat.zero_le _, rfl, rfl, rfl, ⟨rfl, rfl, rfl, Nat.le_refl _, fun _ _ _ => rfl⟩, HPB.out _ _ rfl rfl, World.ownsRow_nil _ _ _ _, LvP.nothing _ _ _ _ _ _ _⟩
  case round =>
    obtain ⟨k, da, dc, ra, rc, ua, uc, hk, hgk, rfl, rfl, hg, hpb, ho, hv⟩ := hrel
    have HGK : Hid (gk = T - k) := hgk
    have HG := hidD hg
    have HPX := hidD hpb
    have HO := hidD ho
    have HV := hidD hv
    have hdb := grown_box HDB.out hg HNE.out
    have HDX := hidD hdb
    have HGW : Hid (w.grownBy wr none) := grown_new HWV.out hg HWP.out
    have q0 : wr.cell? ⟨db, 1, none⟩ = some (.slice g M d) := by rw [cell_of_row _ _ _ _ _ _ hdb]; rfl
    obtain ⟨lb, lo, rfl, cz⟩ : ∃ lb lo, g = some ⟨lb, lo, none⟩ ∧ ∀ i, i < M → wr.cell? ⟨lb, lo + i, none⟩ = some (.slice (la i) (Q i).length (lc i)) := by
      rcases (HR.out wr HGW.out).1 with h | h
      · omega
      · exact h
    have c0 := cz 0 hM0
    rw [Nat.add_zero, ← HT0.out] at c0
    have HCZ : Hid (∀ X, wr.grownBy X none → (∀ i, i < M → X.cell? ⟨lb, lo + i, none⟩ = some (.slice (la i) T (lc i))) ∧ X.cell? ⟨db, 1, none⟩ = some (.slice (some ⟨lb, lo, none⟩) M d)) := fun X hX => ⟨fun i hi => by rw [← HL.out i hi]; exact hX.cell (cz i hi) (by simp), hX.cell q0 (by simp)⟩
    have HIT : Hid (∀ X, wr.grownBy X none → ∀ i, i < M → IntsAt X (la i) (Q i)) := fun X hX i hi => (HR.out X (grown_trans HGW.out hX)).2 i hi
    clear hgk hg hpb ho hv hdb cz
    by_cases hkn : k < T
    case neg =>
      have hkd : decide (k < T) = false := decide_eq_false hkn
      have hke : k = T := by omega
      subst hke
      go_wp2_with fail
      exact HEX.out wr da dc ra rc ua uc _ _ _ _ _ _ _ _ _ _ _ _ _ _ _ _ _ _ _ _ _ _ _ _ _ _ _ _ _ _ _ _ _ _ _ _ _ _ _ _ _ _ _ _ _ _ _ _ _ _ _ _ _ _ _ _ _ _ _ _ _ _ _ _ _ _ _ _ _ _ _ _ _ HG.out HPX.out HO.out HV.out
    have hkd : decide (k < T) = true := decide_eq_true hkn
    have hk0 : (0 : Int) ≤ (k : Int) := by omega
    have hk1 : (k : Int) < (T : Int) := by omega
    go_wp2_with fail
    clear q0 c0
    generalize wr = W1 at *
    go_loopg [14, 15] M (fun gk v14 v15 wr => ∃ (j : Nat) (ba : Option Addr) (bc : Nat), j ≤ M ∧ gk = M - j ∧ v14 = .slice ba j bc ∧ v15 = .int .i64 j ∧ wr.ownsRow W1.heap.size 3 1 (.slice ba j bc) j (zV (colP Q k j)) ∧ W1.grownBy wr none)
    case atStart => exact ⟨0, none, 0, Nat.zero_le _, rfl, rfl, rfl, World.ownsRow_nil _ _ _ _, grown_refl _ _⟩
    case round =>
      obtain ⟨j, ba, bc, hj, hgj, rfl, rfl, ho, hg⟩ := hrel
      have HGJ : Hid (gk = M - j) := hgj
      have HBO := hidD ho
      have HG1 := hidD hg
      obtain ⟨cz, q0⟩ := HCZ.out wr hg
      clear hgj ho
      by_cases hjn : j < M
      · have hjd : decide (j < M) = true := decide_eq_true hjn
        have hj0 : (0 : Int) ≤ (j : Int) := by omega
        have hj1 : (j : Int) < (M : Int) := by omega
        have hkl : k < (Q j).length := by rw [HL.out j hjn]; exact hkn
        have cj := cz j hjn
        obtain ⟨eb, eo, hla, t0⟩ := ints_get (HIT.out wr hg j hjn) hkl
        rw [hla] at cj
        obtain ⟨lcj, hlcj⟩ : ∃ v, v = lc j := ⟨_, rfl⟩
        rw [← hlcj] at cj
        have hby := colP_snoc Q k j
        obtain ⟨t, ht⟩ : ∃ t, t = (Q j).getD k 0 := ⟨_, rfl⟩
        rw [← ht] at t0 hby
        have HBY := hidD hby
        have HBA : Hid (∀ X, wr.grownBy X none → X.ownsRow W1.heap.size 3 1 (.slice ba j bc) j (zV (colP Q k j))) := fun X hX => keep0 HBO.out hX
        have HSZ : Hid (∀ X, wr.grownBy X none → W1.heap.size ≤ X.heap.size) := fun X hX => (grown_trans HG1.out hX).size
        clear hby hg hla hlcj ht cz
        go_wp2_with (at_builtin; refine wpList_append_liesW rfl (.tmp 135) (.tmp 144) 24 rfl W1.heap.size 3 i0 (.int .i64 0) 1 8 Try.underlying24 hi0 hz0 hz1 hz2 rfl (by decide) (.slice ba j bc) j (zV (colP Q k j)) rfl (HBA.out _ (World.grownBy_alloc wr _ none)) ⟨wr.heap.size, 0, none⟩ 1 1 [.int .i64 t] rfl rfl (World.news_of_block (heap_alloc_last wr _)) (by simp [Value.oneCell']) (by decide) (by unfold maxLen; omega) (by omega) (HSZ.out _ (World.grownBy_alloc wr _ none)) ?_; intro g9 c9 wB hoB hgB hatB; have HOB := hidD hoB; have HGB : Hid (W1.grownBy wB none) := grown_row (grown_trans HG1.out (World.grownBy_alloc wr _ none)) (HBA.out _ (World.grownBy_alloc wr _ none)) (Nat.le_refl _) hgB; clear hoB hgB hatB)
        go_roundg (M - (j + 1))
        case measure => have := HGJ.out; omega
        case rel => exact ⟨j + 1, _, _, by omega, rfl, rfl, by go_num, by rw [HBY.out, zV_snoc]; exact HOB.out, HGB.out⟩
      · have hjd : decide (j < M) = false := decide_eq_false hjn
        have hje : j = M := by omega
        rw [hje] at HBO
        have hcl := colP_len Q k M
        have HMO := hidD (rpMost_any ba bc (colP Q k M) wr (owned_intsD HBO.out hcl.symm) (by rw [hcl]; omega))
        rw [hcl] at HMO
        obtain ⟨m, hm⟩ : ∃ m, m = mostF (colP Q k M) := ⟨_, rfl⟩
        have HM : Hid (m = mostF (colP Q k M)) := hm
        rw [← hm] at HMO
        subst hje
        clear hm hg hjn hcl cz
        go_wp2_with fail
        clear q0
        refine Calls.mono HMO.out ?_
        rintro e y ⟨rfl, hy⟩
        have HY : Hid (W1.grownBy y none) := grown_trans HG1.out hy
        have HBOY := hidD (keep0 HBO.out hy)
        have HPY := hidD (box_kept HPX.out HY.out)
        have HOY := hidD (keep0 HO.out HY.out)
        have HOU := hidD (owns_under HO.out)
        have HVY := hidD (HV.out.kept HY.out)
        have HOA : Hid (∀ X, y.grownBy X none → X.ownsRow V.heap.size 3 1 (.slice da k dc) k (zV (tgtL Q j k)) ∧ V.heap.size ≤ X.heap.size) := fun X hX => ⟨keep0 HOY.out hX, Nat.le_trans (Nat.le_trans HG.out.size HY.out.size) hX.size⟩
        have z4 : y.cell? ⟨pb, 4, none⟩ = some (.slice da k dc) := by rw [cell_of_row _ _ _ _ _ _ HPY.out]; rfl
        clear hy HMO HBO
        go_wp2_with (at_builtin; refine wpList_append_liesW rfl (.tmp 149) (.tmp 151) 24 rfl V.heap.size 3 i0 (.int .i64 0) 1 8 Try.underlying24 hi0 hz0 hz1 hz2 rfl (by decide) (.slice da k dc) k (zV (tgtL Q j k)) rfl (HOA.out _ (World.grownBy_alloc y _ none)).1 ⟨y.heap.size, 0, none⟩ 1 1 [.int .i64 m] rfl rfl (World.news_of_block (heap_alloc_last y _)) (by simp [Value.oneCell']) (by decide) (by unfold maxLen; omega) (by omega) (HOA.out _ (World.grownBy_alloc y _ none)).2 ?_; intro g9 c9 wB hoB hgB hatB; have HOB := hidD hoB; have HGB := hidD hgB; have HPW := hidD (box_under (HOA.out _ (World.grownBy_alloc y _ none)).1 (box_kept HPY.out (World.grownBy_alloc y _ none)) (by decide) hgB); have z0 : wB.cell? ⟨pb, 4, none⟩ = some (.slice da k dc) := (by rw [cell_of_row _ _ _ _ _ _ HPW.out]; rfl); have z1 : wB.frozen? ⟨pb, 4, none⟩ = false := frozen_of_row _ _ _ _ _ HPW.out; clear hoB hgB hatB)
        obtain ⟨W2, hW2⟩ : ∃ W2, W2 = wB.setCell ⟨pb, 4, none⟩ (.slice (some ⟨g9, 0, none⟩) (k + 1) c9) := ⟨_, rfl⟩
        have HPZ : Hid (W2.heap[pb]? = some (.cells #[p0, p1, p2, p3, .slice (some ⟨g9, 0, none⟩) (k + 1) c9, .slice none 0 0, .slice none 0 0, .slice none 0 0] 45 (0, 0))) := by show _ = _; rw [hW2]; exact heap_setCell_same _ _ 4 _ _ _ HPW.out
        have HGZ : Hid (V.grownBy W2 (some pb)) := by
          show V.grownBy _ _
          rw [hW2]
          exact grown_trans (grown_rowP (grown_noneS HG.out (grown_trans HY.out (World.grownBy_alloc y _ none))) (HOA.out _ (World.grownBy_alloc y _ none)).1 (Nat.le_refl _) HGB.out) (grown_setCell _ _ _)
        have HOZ : Hid (W2.ownsRow V.heap.size 3 1 (.slice (some ⟨g9, 0, none⟩) (k + 1) c9) (k + 1) (zV (tgtL Q j (k + 1)))) := by
          show World.ownsRow _ _ _ _ _ _ _
          rw [hW2, tgtL_snoc, zV_snoc]
          have e1 : mostF (colL Q j k) = m := HM.out.symm
          rw [e1]
          exact row_beside HOB.out HPW.out (by decide) (grown_setCell _ _ _)
        have HTO : Hid (∀ X, W2.grownBy X none → IntsAt X ba (colP Q k j)) := by
          have h1 := row_apart (keep0 HBOY.out (World.grownBy_alloc y (.cells #[.int .i64 m] 3) none)) HGB.out HOU.out
          have h2 := row_beside h1 HPW.out (by decide) (grown_setCell pb 4 (.slice (some ⟨g9, 0, none⟩) (k + 1) c9))
          rw [← hW2] at h2
          exact fun X hX => owned_intsD (keep0 h2 hX) (colP_len _ _ _).symm
        have HVZ : Hid (LvP W2 V.heap.size 58 60 2 ra rc k (fun i => (colA Q j i).length) (fun i => itsV (colA Q j i)) ua uc) := by
          show LvP _ _ _ _ _ _ _ _ _ _ _ _
          rw [hW2]
          exact ((HVY.out.kept (World.grownBy_alloc y _ none)).beside (HOA.out _ (World.grownBy_alloc y _ none)).1 (by decide) (by decide) HGB.out).box HPW.out (by decide) (by decide) (grown_setCell _ _ _)
        rw [← hW2]
        clear hW2 HOB HGB HPW HPY HOY HVY HOA z0 z1 z4 HPX HO HV HY HG1 HG HBOY HOU HCZ HDX hjd
        go_loopg [17, 18] j (fun gk v17 v18 wr => ∃ (i n : Nat) (ea : Option Addr) (ec : Nat), i ≤ j ∧ gk = j - i ∧ v17 = .slice ea n ec ∧ v18 = .int .i64 i ∧ n ≤ i ∧ Hid (n = (colT Q k m i).length) ∧ wr.ownsRow W2.heap.size 60 2 (.slice ea n ec) n (itsV (colT Q k m i)) ∧ W2.grownBy wr none)
        case atStart => exact ⟨0, 0, none, 0, Nat.zero_le _, rfl, rfl, rfl, Nat.zero_le _, rfl, World.ownsRow_nil _ _ _ _, grown_refl _ _⟩
        case round =>
          obtain ⟨i, n, ea, ec, hi, hgi, rfl, rfl, hni, HNE3, ho, hg⟩ := hrel
          have HGI : Hid (gk = j - i) := hgi
          have HEO := hidD ho
          have HG3 := hidD hg
          clear hgi ho
          by_cases hin : i < j
          · have hjd : decide (i < j) = true := decide_eq_true hin
            have hin0 : (0 : Int) ≤ (i : Int) := by omega
            have hin1 : (i : Int) < (j : Int) := by omega
            obtain ⟨eb, eo, rfl, t0⟩ := ints_get (HTO.out wr hg) (k := i) (by rw [colP_len]; exact hin)
            rw [colP_at Q k hin] at t0
            have hrt := colT_snoc Q k m i
            have hlo := HST.out i hin _ (getD_memI (by rw [HL.out i hin]; exact hkn) : (Q i).getD k 0 ∈ Q i)
            obtain ⟨t, ht⟩ : ∃ t, t = (Q i).getD k 0 := ⟨_, rfl⟩
            rw [← ht] at t0 hrt hlo
            have hka := keepG_doc m t hlo
            have HRT := hidD hrt
            clear ht hg hrt
            by_cases k0 : 0 ≤ t
            · have e0 : decide (0 ≤ t) = true := decide_eq_true k0
              by_cases k3 : t = m
              · have e3 : (t != m) = false := by rw [k3]; exact bne_self_eq_false _
                have HKA : Hid (¬ keepG m t = true) := fun h => (hka.1 h).2 k3
                clear hka hlo k0 k3
                go_wp2_with fail
                go_roundg (j - (i + 1))
                case measure => have := HGI.out; omega
                case rel =>
                  have hr2 := HRT.out
                  rw [if_neg HKA.out, List.append_nil] at hr2
                  exact ⟨i + 1, n, ea, ec, by omega, rfl, rfl, by go_num, by omega, by show n = _; rw [hr2]; exact HNE3.out, by rw [hr2]; exact HEO.out, HG3.out⟩
              · have e3 : (t != m) = true := by rw [bne_iff_ne]; exact k3
                have HKA : Hid (keepG m t = true) := hka.2 ⟨k0, k3⟩
                have HEA : Hid (∀ X, wr.grownBy X none → X.ownsRow W2.heap.size 60 2 (.slice ea n ec) n (itsV (colT Q k m i)) ∧ W2.heap.size ≤ X.heap.size) := fun X hX => ⟨keep0 HEO.out hX, (grown_trans HG3.out hX).size⟩
                clear hka hlo k0 k3
                go_wp2_with (at_builtin; refine wpList_append_liesW rfl (.tmp 173) (.tmp 180) 58 rfl W2.heap.size 60 i1 (.agg #[.int .i64 0, .int .i64 0]) 2 16 Try.underlying58 hi1 hy0 hy1 hy2 rfl (by decide) (.slice ea n ec) n (itsV (colT Q k m i)) rfl (HEA.out _ (World.grownBy_alloc wr _ none)).1 ⟨wr.heap.size, 0, none⟩ 1 1 [.int .i64 (i : Int), .int .i64 t] rfl rfl (World.news_of_block (heap_alloc_last wr _)) (by simp [Value.oneCell']) (by decide) (by unfold maxLen; omega) (by omega) (HEA.out _ (World.grownBy_alloc wr _ none)).2 ?_; intro g9 c9 wB hoB hgB hatB; have HOB := hidD hoB; have HGB : Hid (W2.grownBy wB none) := grown_row (grown_trans HG3.out (World.grownBy_alloc wr _ none)) (HEA.out _ (World.grownBy_alloc wr _ none)).1 (Nat.le_refl _) hgB; clear hoB hgB hatB)
                go_roundg (j - (i + 1))
                case measure => have := HGI.out; omega
                case rel =>
                  have hr2 := HRT.out
                  rw [if_pos HKA.out] at hr2
                  refine ⟨i + 1, n + 1, _, _, by omega, rfl, rfl, by go_num, by omega, ?_, ?_, HGB.out⟩
                  · show n + 1 = _
                    rw [hr2, List.length_append, ← HNE3.out]; rfl
                  · rw [hr2, itsV_snocD]
                    exact HOB.out
            · have e0 : decide (0 ≤ t) = false := decide_eq_false k0
              have HKA : Hid (¬ keepG m t = true) := fun h => k0 (hka.1 h).1
              clear hka hlo k0
              go_wp2_with fail
              go_roundg (j - (i + 1))
              case measure => have := HGI.out; omega
              case rel =>
                have hr2 := HRT.out
                rw [if_neg HKA.out, List.append_nil] at hr2
                exact ⟨i + 1, n, ea, ec, by omega, rfl, rfl, by go_num, by omega, by show n = _; rw [hr2]; exact HNE3.out, by rw [hr2]; exact HEO.out, HG3.out⟩
          · have hjd : decide (i < j) = false := decide_eq_false hin
            have hie : i = j := by omega
            have hrA : colT Q k m i = colA Q j k := by rw [hie, HM.out]; rfl
            rw [hrA] at HEO HNE3
            have HV3 := hidD (HVZ.out.kept HG3.out)
            have HVA : Hid (∀ X, wr.grownBy X none → LvP X V.heap.size 58 60 2 ra rc k (fun i => (colA Q j i).length) (fun i => itsV (colA Q j i)) ua uc ∧ V.heap.size ≤ X.heap.size) := fun X hX => ⟨HV3.out.kept hX, Nat.le_trans (Nat.le_trans HGZ.out.size HG3.out.size) hX.size⟩
            clear hg hin hie hrA
            go_wp2_with (at_builtin; refine wpList_append_liesW rfl (.tmp 182) (.tmp 184) 22 rfl V.heap.size 58 i2 (.slice none 0 0) 1 24 Try.underlying22 hi2 hx0 hx1 hx2 rfl (by decide) (.slice ra k rc) k (headsD k (fun i => (colA Q j i).length) ua uc) rfl (HVA.out _ (World.grownBy_alloc wr _ none)).1.out ⟨wr.heap.size, 0, none⟩ 1 1 [.slice ea n ec] rfl rfl (World.news_of_block (heap_alloc_last wr _)) (by simp [Value.oneCell']) (by decide) (by unfold maxLen; omega) (by omega) (HVA.out _ (World.grownBy_alloc wr _ none)).2 ?_; intro g9 c9 wB hoB hgB hatB; have HOB := hidD hoB; have HGB := hidD hgB; clear hoB hgB hatB)
            go_roundg (T - (k + 1))
            case measure => have := HGK.out; omega
            case rel =>
              have hrow : (wr.alloc (.cells #[.slice ea n ec] 58)).ownsRow V.heap.size 60 2 (.slice ea (colA Q j k).length ec) (colA Q j k).length (itsV (colA Q j k)) := by
                have h1 := keep0 HEO.out (World.grownBy_alloc wr (.cells #[.slice ea n ec] 58) none)
                rw [HNE3.out] at h1 ⊢
                exact owns_lowP h1 HGZ.out.size
              have hob := HOB.out
              rw [HNE3.out] at hob HGB hrow
              exact ⟨k + 1, _, _, _, _, _, _, by omega, rfl, rfl, by go_num, grown_rowP (grown_noneS HGZ.out (grown_trans HG3.out (World.grownBy_alloc wr _ none))) (HVA.out _ (World.grownBy_alloc wr _ none)).1.out (Nat.le_refl _) HGB.out, box_under (HVA.out _ (World.grownBy_alloc wr _ none)).1.out (box_kept HPZ.out (grown_trans HG3.out (World.grownBy_alloc wr _ none))) (by decide) HGB.out, row_row (keep0 HOZ.out (grown_trans HG3.out (World.grownBy_alloc wr _ none))) (HVA.out _ (World.grownBy_alloc wr _ none)).1.out (by decide) HGB.out, (HVA.out _ (World.grownBy_alloc wr _ none)).1.push (by decide) hrow HGB.out hob⟩

end Go.Proofs.Ytgmljpkenipgjaa.J

/-
  pack: the document's Pack (printed by tools/pk_rpk.py).
-/
namespace Go.Proofs.Ytgmljpkenipgjaa.J
open Go.RowKit Go.Maps Go.Shelf Pk

attribute [local go_sem] Oper.semAt_some

theorem results_rpack (tmps : Array Value) (w : World) (g : Nat) (cs : Array Value) (v : Value) (h2 : tmps.getD 2 undef = .pointer (some ⟨g, 0, none⟩)) (h3 : tmps.getD 3 undef = v) (hg : w.heap[g]? = some (.cells cs 45 (0, 0))) (hs : cs.size = 8) :
    (results Try.f20 tmps).run Try.prog w = .ok (.tuple #[.agg cs, v]) w := by
  have h2' : tmps[2]?.getD undef = .pointer (some ⟨g, 0, none⟩) := by simpa using h2
  have h3' : tmps[3]?.getD undef = v := by simpa using h3
  have hl := run_loadVar_row (P := Try.prog) w g 45 45 cs (0, 0) _ hg Try.underlying45 rfl (by rw [hs]; kernel_rfl)
  simp [results, Try.results20, h2', h3', asAddr, hl]
theorem grown3 {X : World} (b i0 i1 i2 : Nat) (u0 u1 u2 : Value) : X.grownBy (((X.setCell ⟨b, i0, none⟩ u0).setCell ⟨b, i1, none⟩ u1).setCell ⟨b, i2, none⟩ u2) (some b) := grown_trans (grown_trans (grown_setCell _ _ _) (grown_setCell _ _ _)) (grown_setCell _ _ _)
theorem grown8 {X : World} (b : Nat) (u0 u1 u2 u3 u4 u5 u6 u7 : Value) : X.grownBy ((((((((X.setCell ⟨b, 0, none⟩ u0).setCell ⟨b, 1, none⟩ u1).setCell ⟨b, 2, none⟩ u2).setCell ⟨b, 3, none⟩ u3).setCell ⟨b, 4, none⟩ u4).setCell ⟨b, 5, none⟩ u5).setCell ⟨b, 6, none⟩ u6).setCell ⟨b, 7, none⟩ u7) (some b) := grown_trans (grown_trans (grown_trans (grown_trans (grown_trans (grown_trans (grown_trans (grown_setCell _ _ _) (grown_setCell _ _ _)) (grown_setCell _ _ _)) (grown_setCell _ _ _)) (grown_setCell _ _ _)) (grown_setCell _ _ _)) (grown_setCell _ _ _)) (grown_setCell _ _ _)
theorem set3a {X : World} {b : Nat} {c0 c1 c2 c3 c4 c5 c6 c7 : Value} {t : TypeId} (h : X.heap[b]? = some (.cells #[c0, c1, c2, c3, c4, c5, c6, c7] t (0, 0))) (u1 u2 u3 : Value) : (((X.setCell ⟨b, 1, none⟩ u1).setCell ⟨b, 2, none⟩ u2).setCell ⟨b, 3, none⟩ u3).heap[b]? = some (.cells #[c0, u1, u2, u3, c4, c5, c6, c7] t (0, 0)) := by
  have h1 := heap_setCell_same _ _ 1 _ _ u1 h
  have h2 := heap_setCell_same _ _ 2 _ _ u2 h1
  exact heap_setCell_same _ _ 3 _ _ u3 h2
theorem set3b {X : World} {b : Nat} {c0 c1 c2 c3 c4 c5 c6 c7 : Value} {t : TypeId} (h : X.heap[b]? = some (.cells #[c0, c1, c2, c3, c4, c5, c6, c7] t (0, 0))) (u5 u6 u7 : Value) : (((X.setCell ⟨b, 5, none⟩ u5).setCell ⟨b, 6, none⟩ u6).setCell ⟨b, 7, none⟩ u7).heap[b]? = some (.cells #[c0, c1, c2, c3, c4, u5, u6, u7] t (0, 0)) := by
  have h1 := heap_setCell_same _ _ 5 _ _ u5 h
  have h2 := heap_setCell_same _ _ 6 _ _ u6 h1
  exact heap_setCell_same _ _ 7 _ _ u7 h2
theorem defL_len (R : Nat → List It) (k : Nat) : (defL R k).length = k := by unfold defL; simp
theorem tgtL_len (Q : Nat → List Int) (N k : Nat) : (tgtL Q N k).length = k := by unfold tgtL; simp

/-- What the document's Pack tells. -/
def RpTold (N M : Nat) (R : Nat → List It) (Q : Nat → List Int) (w : World) (e : Ending) (y : World) : Prop := (¬ MayT N M R Q ∧ e = .returned (.tuple #[.agg nilP, .int .i64 1]) ∧ w.grownBy y none) ∨ (MayT N M R Q ∧ ∃ (da : Option Addr) (dc : Nat) (ua : Nat → Option Addr) (uc : Nat → Nat) (ga : Option Addr) (gc : Nat) (va : Nat → Option Addr) (vc : Nat → Nat), e = .returned (.tuple #[.agg #[.slice da (defL R N).length dc, .slice (ua 0) (lay (fun i => rowA (R i)) N).bs.length (uc 0), .slice (ua 1) (lay (fun i => rowA (R i)) N).va.length (uc 1), .slice (ua 2) (lay (fun i => rowA (R i)) N).ow.length (uc 2), .slice ga (tgtL Q N (Q 0).length).length gc, .slice (va 0) (lay (fun i => colA Q N i) (Q 0).length).bs.length (vc 0), .slice (va 1) (lay (fun i => colA Q N i) (Q 0).length).va.length (vc 1), .slice (va 2) (lay (fun i => colA Q N i) (Q 0).length).ow.length (vc 2)], .int .i64 0]) ∧ y.ownsRow w.heap.size 3 1 (.slice da (defL R N).length dc) (defL R N).length (zV (defL R N)) ∧ TrZ y w.heap.size 3 (lyS (lay (fun i => rowA (R i)) N)) ua uc ∧ y.ownsRow w.heap.size 3 1 (.slice ga (tgtL Q N (Q 0).length).length gc) (tgtL Q N (Q 0).length).length (zV (tgtL Q N (Q 0).length)) ∧ TrZ y w.heap.size 3 (lyS (lay (fun i => colA Q N i) (Q 0).length)) va vc ∧ w.grownBy y none)

set_option maxRecDepth 100000 in
set_option maxHeartbeats 16000000 in
theorem rpPack_any (a g : Option Addr) (N M c d : Nat) (R : Nat → List It) (Q : Nat → List Int) (la lg : Nat → Option Addr) (lc ld : Nat → Nat) (w : World) (hR : RsAt w a N R la lc) (hQ : RiAt w g M Q lg ld) (hN : N ≤ 17592186044416) (hM : M ≤ 17592186044416) (hl : ∀ i, i < N → (R i).length ≤ 17592186044416) (hl2 : ∀ i, i < M → (Q i).length ≤ 17592186044416) :
    Calls Try.prog 20 #[.agg #[.slice a N c, .slice g M d]] w fun e y => RpTold N M R Q w e y := by
  obtain ⟨r, hr⟩ : ∃ r : Bool, r = true ↔ MayT N M R Q := by
    by_cases h : MayT N M R Q
    · exact ⟨true, by simp [h]⟩
    · exact ⟨false, by simp [h]⟩
  have HRR := hidM hr
  obtain ⟨X, hX⟩ : ∃ X, X = ((w.alloc (Obj.cells #[Value.slice a N c, Value.slice g M d] 42)).alloc (.cells #[.slice none 0 0, .slice none 0 0, .slice none 0 0, .slice none 0 0, .slice none 0 0, .slice none 0 0, .slice none 0 0, .slice none 0 0] 45)) := ⟨_, rfl⟩
  obtain ⟨rb, hrb⟩ : ∃ v, v = w.heap.size + 1 := ⟨_, rfl⟩
  have hgx : w.grownBy X none := by rw [hX]; exact grown_trans (World.grownBy_alloc _ _ none) (World.grownBy_alloc _ _ none)
  have hbx : X.heap[rb]? = some (.cells nilP 45 (0, 0)) := by
    have h := heap_alloc_last (w.alloc (Obj.cells #[Value.slice a N c, Value.slice g M d] 42)) (.cells nilP 45)
    have e : (w.alloc (Obj.cells #[Value.slice a N c, Value.slice g M d] 42)).heap.size = rb := by rw [hrb]; simp
    rw [hX, ← e]
    exact h
  have hdx : X.heap[w.heap.size]? = some (.cells #[.slice a N c, .slice g M d] 42 (0, 0)) := by rw [hX]; exact box_kept (heap_alloc_last w _) (World.grownBy_alloc _ _ none)
  have HMB := hidM (rpMay_any a g N M c d R Q la lg lc ld X (hR.kept hgx) (hQ.kept hgx) hN hM hl hl2 r hr)
  have HR : Hid (∀ Y, w.grownBy Y none → RsAt Y a N R la lc) := fun Y hY => hR.kept hY
  have HQ : Hid (∀ Y, w.grownBy Y none → RiAt Y g M Q lg ld) := fun Y hY => hQ.kept hY
  have HGX := hidM hgx
  have HXS : Hid (X.heap.size = w.heap.size + 2) := by show _ = _; rw [hX]; simp
  have HBX := hidM hbx
  have HDX := hidM hdx
  clear hR hQ hl hl2 hr hgx hbx hdx
  go_enter Try.func20, Try.ntmps20
  conv in (Code.loop _) => change rpA
  conv in (Code.loop _) => change rpB
  go_wp2_with fail
  rw [← hX]
  subst hrb
  clear hX
  refine Calls.mono HMB.out ?_
  rintro e y ⟨rfl, hy⟩
  have HGY : Hid (w.grownBy y none) := grown_trans HGX.out hy
  have HYS0 : Hid (w.heap.size + 2 ≤ y.heap.size) := by have h := hy.size; rw [HXS.out] at h; exact h
  have HBY := hidM (box_kept HBX.out hy)
  have HDY := hidM (box_kept HDX.out hy)
  clear HMB HBX HDX HGX hy
  cases r with
  | false =>
    have HF : Hid (¬ MayT N M R Q) := fun h => absurd (HRR.out.2 h) (by decide)
    have r0 : y.cell? ⟨w.heap.size + 1, 0, none⟩ = some (.slice none 0 0) := by rw [cell_of_row _ _ _ _ _ _ HBY.out]; rfl
    have rf0 : y.frozen? ⟨w.heap.size + 1, 0, none⟩ = false := frozen_of_row _ _ _ _ _ HBY.out
    have r1 : y.cell? ⟨w.heap.size + 1, 1, none⟩ = some (.slice none 0 0) := by rw [cell_of_row _ _ _ _ _ _ HBY.out]; rfl
    have rf1 : y.frozen? ⟨w.heap.size + 1, 1, none⟩ = false := frozen_of_row _ _ _ _ _ HBY.out
    have r2 : y.cell? ⟨w.heap.size + 1, 2, none⟩ = some (.slice none 0 0) := by rw [cell_of_row _ _ _ _ _ _ HBY.out]; rfl
    have rf2 : y.frozen? ⟨w.heap.size + 1, 2, none⟩ = false := frozen_of_row _ _ _ _ _ HBY.out
    have r3 : y.cell? ⟨w.heap.size + 1, 3, none⟩ = some (.slice none 0 0) := by rw [cell_of_row _ _ _ _ _ _ HBY.out]; rfl
    have rf3 : y.frozen? ⟨w.heap.size + 1, 3, none⟩ = false := frozen_of_row _ _ _ _ _ HBY.out
    have r4 : y.cell? ⟨w.heap.size + 1, 4, none⟩ = some (.slice none 0 0) := by rw [cell_of_row _ _ _ _ _ _ HBY.out]; rfl
    have rf4 : y.frozen? ⟨w.heap.size + 1, 4, none⟩ = false := frozen_of_row _ _ _ _ _ HBY.out
    have r5 : y.cell? ⟨w.heap.size + 1, 5, none⟩ = some (.slice none 0 0) := by rw [cell_of_row _ _ _ _ _ _ HBY.out]; rfl
    have rf5 : y.frozen? ⟨w.heap.size + 1, 5, none⟩ = false := frozen_of_row _ _ _ _ _ HBY.out
    have r6 : y.cell? ⟨w.heap.size + 1, 6, none⟩ = some (.slice none 0 0) := by rw [cell_of_row _ _ _ _ _ _ HBY.out]; rfl
    have rf6 : y.frozen? ⟨w.heap.size + 1, 6, none⟩ = false := frozen_of_row _ _ _ _ _ HBY.out
    have r7 : y.cell? ⟨w.heap.size + 1, 7, none⟩ = some (.slice none 0 0) := by rw [cell_of_row _ _ _ _ _ _ HBY.out]; rfl
    have rf7 : y.frozen? ⟨w.heap.size + 1, 7, none⟩ = false := frozen_of_row _ _ _ _ _ HBY.out
    go_wp2_with fail
    exact ⟨rfl, _, results_rpack _ _ (w.heap.size + 1) _ _ rfl rfl (set8 HBY.out _ _ _ _ _ _ _ _) rfl, .inl ⟨HF.out, rfl, grown4 (grown4 HGY.out (by omega) _ _ _ _ _ _ _ _) (by omega) _ _ _ _ _ _ _ _⟩⟩
  | true =>
    have hm := HRR.out.1 rfl
    have HM := hidM hm
    obtain ⟨h1, rfl, ⟨⟨h20, h21, h22, h23⟩, h24⟩, ⟨⟨h30, h31, h32, h33⟩, h34⟩⟩ := hm
    simp only [] at h21 h22 h23 h31 h32 h33
    obtain ⟨T, hT⟩ : ∃ T, T = (Q 0).length := ⟨_, rfl⟩
    have HTE : Hid (T = (Q 0).length) := hT
    obtain ⟨Z, hZ⟩ : ∃ Z, Z = y.alloc (.cells nilP 45) := ⟨_, rfl⟩
    have hyz : y.grownBy Z none := by rw [hZ]; exact World.grownBy_alloc _ _ none
    have hzs : Z.heap.size = y.heap.size + 1 := by rw [hZ]; simp
    have HGZ : Hid (w.grownBy Z none) := grown_trans HGY.out hyz
    have HPZ : Hid (Z.heap[y.heap.size]? = some (.cells nilP 45 (0, 0))) := by show _ = _; rw [hZ]; exact heap_alloc_last y _
    have HBZ := hidM (box_kept HBY.out hyz)
    have HDZ := hidM (box_kept HDY.out hyz)
    obtain ⟨pb, hpb⟩ : ∃ v, v = y.heap.size := ⟨_, rfl⟩
    have HPB : Hid (w.heap.size + 2 ≤ pb) := by show _ ≤ _; rw [hpb]; exact HYS0.out
    have HPV : Hid (pb < Z.heap.size) := by show _ < _; rw [hpb, hzs]; omega
    rw [← hpb] at HPZ
    unfold nilP at hZ
    have H24 := hidM h24
    have H34 := hidM h34
    have H23 := hidM h23
    have H33 := hidM h33
    have ht65 : T ≤ 65 := by omega
    have HR65 : Hid ((R 0).length ≤ 65) := h22
    have hM0 : 0 < M := h20
    clear HGY HBY HDY hyz hzs h20 h21 h22 h23 h24 h30 h31 h32 h33 h34 hT
    subst hpb
    go_wp2_with fail
    rw [← hZ]
    clear hZ
    refine rp_a (w := w) (R := R) (la := la) (lc := lc) h1 (fun i hi => by have h2 := H23.out i hi; have h3 := HR65.out; omega) (fun i hi x hx => by have h2 := H24.out i hi x hx; unfold StandOk at h2; omega) HR.out HGZ.out (by have := HPB.out; omega) HPV.out HDZ.out HPZ.out (by have := HPB.out; omega) ?_
    intro X1 da dc ra rc ra1 rc1 z6 z7 z8 z9 z10 z11 z12 z23 z24 z25 z26 z27 z28 z29 z30 z31 z32 z33 z34 z35 z36 z37 z38 z39 z40 z41 z42 z43 z44 z45 z46 z47 z48 z49 z50 z51 z52 z53 z54 z55 z56 z57 z58 z59 z60 z61 z62 z63 z64 z65 z66 z67 z68 z69 z70 z71 z72 z73 z74 z75 z76 z77 z78 z79 z80 z81 z82 z83 z84 z85 z86 z87 z88 z89 z90 z91 z92 z93 z94 z95 z96 z97 z98 z99 z100 z101 z102 z103 z104 z105 z106 z107 z108 z109 z110 z111 z112 hg1 hp1 ho1 hv1
    have HG1 := hidM hg1
    have HP1 := hidM hp1
    have HO1 := hidM ho1
    have HWX1 : Hid (w.grownBy X1 none) := grown_new HGZ.out hg1 (by have := HPB.out; omega)
    have HL1 := hidM (rpLay_any ra M rc (fun i => rowA (R i)) ra1 rc1 X1 hv1.rs (by omega) (fun i hi => by have h2 := rowT_len (mostF (redL (R i))) (R i) (R i).length; have h3 := H23.out i hi; have h4 := HR65.out; show (rowT _ _ _).length ≤ _; omega))
    clear hg1 hp1 ho1 hv1
    go_wp2_with fail
    refine Calls.mono HL1.out ?_
    rintro e Y1 (⟨hno, -, -⟩ | ⟨-, ua, uc, rfl, ht1, hy1⟩)
    · exact absurd HM.out.rows hno
    have HY1 := hidM hy1
    have HT1 := hidM ht1
    obtain ⟨l0, hl0⟩ : ∃ v, v = (lay (fun i => rowA (R i)) M).bs.length := ⟨_, rfl⟩
    obtain ⟨l1, hl1⟩ : ∃ v, v = (lay (fun i => rowA (R i)) M).va.length := ⟨_, rfl⟩
    obtain ⟨l2, hl2⟩ : ∃ v, v = (lay (fun i => rowA (R i)) M).ow.length := ⟨_, rfl⟩
    rw [← hl0, ← hl1, ← hl2]
    have Hl0 := hidM hl0
    have Hl1 := hidM hl1
    have Hl2 := hidM hl2
    have HPY := hidM (box_kept HP1.out hy1)
    have r1 : Y1.cell? ⟨y.heap.size, 1, none⟩ = some (.slice none 0 0) := by rw [cell_of_row _ _ _ _ _ _ HPY.out]; rfl
    have f1 : Y1.frozen? ⟨y.heap.size, 1, none⟩ = false := frozen_of_row _ _ _ _ _ HPY.out
    have r2 : Y1.cell? ⟨y.heap.size, 2, none⟩ = some (.slice none 0 0) := by rw [cell_of_row _ _ _ _ _ _ HPY.out]; rfl
    have f2 : Y1.frozen? ⟨y.heap.size, 2, none⟩ = false := frozen_of_row _ _ _ _ _ HPY.out
    have r3 : Y1.cell? ⟨y.heap.size, 3, none⟩ = some (.slice none 0 0) := by rw [cell_of_row _ _ _ _ _ _ HPY.out]; rfl
    have f3 : Y1.frozen? ⟨y.heap.size, 3, none⟩ = false := frozen_of_row _ _ _ _ _ HPY.out
    obtain ⟨W4, hW4⟩ : ∃ W, W = (((Y1.setCell ⟨y.heap.size, 1, none⟩ (.slice (ua 0) l0 (uc 0))).setCell ⟨y.heap.size, 2, none⟩ (.slice (ua 1) l1 (uc 1))).setCell ⟨y.heap.size, 3, none⟩ (.slice (ua 2) l2 (uc 2))) := ⟨_, rfl⟩
    have hyw : Y1.grownBy W4 (some y.heap.size) := by rw [hW4]; exact grown3 _ _ _ _ _ _ _
    have HP4 : Hid (W4.heap[y.heap.size]? = some (.cells #[.slice da M dc, .slice (ua 0) l0 (uc 0), .slice (ua 1) l1 (uc 1), .slice (ua 2) l2 (uc 2), .slice none 0 0, .slice none 0 0, .slice none 0 0, .slice none 0 0] 45 (0, 0))) := by show _ = _; rw [hW4]; exact set3a HPY.out _ _ _
    have HO4 := hidM (row_beside (keep0 HO1.out hy1) HPY.out (by decide) hyw)
    have HT4 := hidM (HT1.out.beside HPY.out (by decide) hyw)
    have HZ4 : Hid (Z.grownBy W4 (some y.heap.size)) := grown_trans (grown_noneS HG1.out hy1) hyw
    have HW4 : Hid (w.grownBy W4 none) := grown_new HGZ.out HZ4.out (by have := HPB.out; omega)
    have HD4 := hidM (grown_box HDZ.out HZ4.out (by have := HPB.out; omega))
    have HB4 := hidM (grown_box HBZ.out HZ4.out (by have := HPB.out; omega))
    have HPV4 : Hid (y.heap.size < W4.heap.size) := Nat.lt_of_lt_of_le HPV.out HZ4.out.size
    clear hy1 ht1 hl0 hl1 hl2 hyw HL1
    go_wp2_with fail
    rw [← hW4]
    clear hW4 r1 r2 r3 f1 f2 f3
    refine rp_b (w := w) (Q := Q) (la := lg) (lc := ld) (T := T) hM0 h1 (fun i hi => by rw [HTE.out]; exact H33.out i hi) ht65 (fun i hi x hx => (H34.out i hi x hx).1) HQ.out HW4.out (by have := HPB.out; omega) HPV4.out HD4.out HP4.out (by have := HPB.out; omega) ?_
    intro X2 ga gc rb2 rd2 rb3 rd3 z13 z14 z15 z16 z17 z18 z119 z120 z121 z122 z123 z124 z125 z126 z127 z128 z129 z130 z131 z132 z133 z134 z135 z136 z137 z138 z139 z140 z141 z142 z143 z144 z145 z146 z147 z148 z149 z150 z151 z152 z153 z154 z155 z156 z157 z158 z159 z160 z161 z162 z163 z164 z165 z166 z167 z168 z169 z170 z171 z172 z173 z174 z175 z176 z177 z178 z179 z180 z181 z182 z183 z184 z185 hg2 hp2 ho2 hv2
    have HG2 := hidM hg2
    have HP2 := hidM hp2
    have HO2 := hidM ho2
    have HOA2 := hidM (row_beside HO4.out HP4.out (by decide) hg2)
    have HTA2 := hidM (HT4.out.beside HP4.out (by decide) hg2)
    have HL2 := hidM (rpLay_any rb2 T rd2 (fun i => colA Q M i) rb3 rd3 X2 hv2.rs (by omega) (fun i hi => by have h2 := (colT_asc Q i (mostF (colL Q M i)) M).2.2; show (colT _ _ _ _).length ≤ _; omega))
    clear hg2 hp2 ho2 hv2
    go_wp2_with fail
    refine Calls.mono HL2.out ?_
    rintro e Y2 (⟨hno, -, -⟩ | ⟨-, va, vc, rfl, ht2, hy2⟩)
    · exact absurd (by rw [HTE.out]; exact HM.out.cols) hno
    have HT2 := hidM ht2
    obtain ⟨k0, hk0⟩ : ∃ v, v = (lay (fun i => colA Q M i) T).bs.length := ⟨_, rfl⟩
    obtain ⟨k1, hk1⟩ : ∃ v, v = (lay (fun i => colA Q M i) T).va.length := ⟨_, rfl⟩
    obtain ⟨k2, hk2⟩ : ∃ v, v = (lay (fun i => colA Q M i) T).ow.length := ⟨_, rfl⟩
    rw [← hk0, ← hk1, ← hk2]
    have Hk0 := hidM hk0
    have Hk1 := hidM hk1
    have Hk2 := hidM hk2
    have HPY2 := hidM (box_kept HP2.out hy2)
    have r5 : Y2.cell? ⟨y.heap.size, 5, none⟩ = some (.slice none 0 0) := by rw [cell_of_row _ _ _ _ _ _ HPY2.out]; rfl
    have f5 : Y2.frozen? ⟨y.heap.size, 5, none⟩ = false := frozen_of_row _ _ _ _ _ HPY2.out
    have r6 : Y2.cell? ⟨y.heap.size, 6, none⟩ = some (.slice none 0 0) := by rw [cell_of_row _ _ _ _ _ _ HPY2.out]; rfl
    have f6 : Y2.frozen? ⟨y.heap.size, 6, none⟩ = false := frozen_of_row _ _ _ _ _ HPY2.out
    have r7 : Y2.cell? ⟨y.heap.size, 7, none⟩ = some (.slice none 0 0) := by rw [cell_of_row _ _ _ _ _ _ HPY2.out]; rfl
    have f7 : Y2.frozen? ⟨y.heap.size, 7, none⟩ = false := frozen_of_row _ _ _ _ _ HPY2.out
    obtain ⟨U, hU⟩ : ∃ W, W = (((Y2.setCell ⟨y.heap.size, 5, none⟩ (.slice (va 0) k0 (vc 0))).setCell ⟨y.heap.size, 6, none⟩ (.slice (va 1) k1 (vc 1))).setCell ⟨y.heap.size, 7, none⟩ (.slice (va 2) k2 (vc 2))) := ⟨_, rfl⟩
    have hyu : Y2.grownBy U (some y.heap.size) := by rw [hU]; exact grown3 _ _ _ _ _ _ _
    have hpu : U.heap[y.heap.size]? = some (.cells #[.slice da M dc, .slice (ua 0) l0 (uc 0), .slice (ua 1) l1 (uc 1), .slice (ua 2) l2 (uc 2), .slice ga T gc, .slice (va 0) k0 (vc 0), .slice (va 1) k1 (vc 1), .slice (va 2) k2 (vc 2)] 45 (0, 0)) := by rw [hU]; exact set3b HPY2.out _ _ _
    have HOU := hidM (row_beside (keep0 HOA2.out hy2) HPY2.out (by decide) hyu)
    have HTU := hidM ((HTA2.out.kept hy2).beside HPY2.out (by decide) hyu)
    have HOU2 := hidM (row_beside (keep0 HO2.out hy2) HPY2.out (by decide) hyu)
    have HTU2 := hidM (HT2.out.beside HPY2.out (by decide) hyu)
    have hgu : W4.grownBy U (some y.heap.size) := grown_trans (grown_noneS HG2.out hy2) hyu
    have HGU : Hid (w.grownBy U none) := grown_new HW4.out hgu (by have := HPB.out; omega)
    have HBU := hidM (grown_box HB4.out hgu (by have := HPB.out; omega))
    have q0 : (((Y2.setCell ⟨y.heap.size, 5, none⟩ (.slice (va 0) k0 (vc 0))).setCell ⟨y.heap.size, 6, none⟩ (.slice (va 1) k1 (vc 1))).setCell ⟨y.heap.size, 7, none⟩ (.slice (va 2) k2 (vc 2))).cell? ⟨y.heap.size, 0, none⟩ = some (.slice da M dc) := by rw [← hU, cell_of_row _ _ _ _ _ _ hpu]; rfl
    have s0 : (((Y2.setCell ⟨y.heap.size, 5, none⟩ (.slice (va 0) k0 (vc 0))).setCell ⟨y.heap.size, 6, none⟩ (.slice (va 1) k1 (vc 1))).setCell ⟨y.heap.size, 7, none⟩ (.slice (va 2) k2 (vc 2))).cell? ⟨w.heap.size + 1, 0, none⟩ = some (.slice none 0 0) := by rw [← hU, cell_of_row _ _ _ _ _ _ HBU.out]; rfl
    have t0 : (((Y2.setCell ⟨y.heap.size, 5, none⟩ (.slice (va 0) k0 (vc 0))).setCell ⟨y.heap.size, 6, none⟩ (.slice (va 1) k1 (vc 1))).setCell ⟨y.heap.size, 7, none⟩ (.slice (va 2) k2 (vc 2))).frozen? ⟨w.heap.size + 1, 0, none⟩ = false := by rw [← hU]; exact frozen_of_row _ _ _ _ _ HBU.out
    have q1 : (((Y2.setCell ⟨y.heap.size, 5, none⟩ (.slice (va 0) k0 (vc 0))).setCell ⟨y.heap.size, 6, none⟩ (.slice (va 1) k1 (vc 1))).setCell ⟨y.heap.size, 7, none⟩ (.slice (va 2) k2 (vc 2))).cell? ⟨y.heap.size, 1, none⟩ = some (.slice (ua 0) l0 (uc 0)) := by rw [← hU, cell_of_row _ _ _ _ _ _ hpu]; rfl
    have s1 : (((Y2.setCell ⟨y.heap.size, 5, none⟩ (.slice (va 0) k0 (vc 0))).setCell ⟨y.heap.size, 6, none⟩ (.slice (va 1) k1 (vc 1))).setCell ⟨y.heap.size, 7, none⟩ (.slice (va 2) k2 (vc 2))).cell? ⟨w.heap.size + 1, 1, none⟩ = some (.slice none 0 0) := by rw [← hU, cell_of_row _ _ _ _ _ _ HBU.out]; rfl
    have t1 : (((Y2.setCell ⟨y.heap.size, 5, none⟩ (.slice (va 0) k0 (vc 0))).setCell ⟨y.heap.size, 6, none⟩ (.slice (va 1) k1 (vc 1))).setCell ⟨y.heap.size, 7, none⟩ (.slice (va 2) k2 (vc 2))).frozen? ⟨w.heap.size + 1, 1, none⟩ = false := by rw [← hU]; exact frozen_of_row _ _ _ _ _ HBU.out
    have q2 : (((Y2.setCell ⟨y.heap.size, 5, none⟩ (.slice (va 0) k0 (vc 0))).setCell ⟨y.heap.size, 6, none⟩ (.slice (va 1) k1 (vc 1))).setCell ⟨y.heap.size, 7, none⟩ (.slice (va 2) k2 (vc 2))).cell? ⟨y.heap.size, 2, none⟩ = some (.slice (ua 1) l1 (uc 1)) := by rw [← hU, cell_of_row _ _ _ _ _ _ hpu]; rfl
    have s2 : (((Y2.setCell ⟨y.heap.size, 5, none⟩ (.slice (va 0) k0 (vc 0))).setCell ⟨y.heap.size, 6, none⟩ (.slice (va 1) k1 (vc 1))).setCell ⟨y.heap.size, 7, none⟩ (.slice (va 2) k2 (vc 2))).cell? ⟨w.heap.size + 1, 2, none⟩ = some (.slice none 0 0) := by rw [← hU, cell_of_row _ _ _ _ _ _ HBU.out]; rfl
    have t2 : (((Y2.setCell ⟨y.heap.size, 5, none⟩ (.slice (va 0) k0 (vc 0))).setCell ⟨y.heap.size, 6, none⟩ (.slice (va 1) k1 (vc 1))).setCell ⟨y.heap.size, 7, none⟩ (.slice (va 2) k2 (vc 2))).frozen? ⟨w.heap.size + 1, 2, none⟩ = false := by rw [← hU]; exact frozen_of_row _ _ _ _ _ HBU.out
    have q3 : (((Y2.setCell ⟨y.heap.size, 5, none⟩ (.slice (va 0) k0 (vc 0))).setCell ⟨y.heap.size, 6, none⟩ (.slice (va 1) k1 (vc 1))).setCell ⟨y.heap.size, 7, none⟩ (.slice (va 2) k2 (vc 2))).cell? ⟨y.heap.size, 3, none⟩ = some (.slice (ua 2) l2 (uc 2)) := by rw [← hU, cell_of_row _ _ _ _ _ _ hpu]; rfl
    have s3 : (((Y2.setCell ⟨y.heap.size, 5, none⟩ (.slice (va 0) k0 (vc 0))).setCell ⟨y.heap.size, 6, none⟩ (.slice (va 1) k1 (vc 1))).setCell ⟨y.heap.size, 7, none⟩ (.slice (va 2) k2 (vc 2))).cell? ⟨w.heap.size + 1, 3, none⟩ = some (.slice none 0 0) := by rw [← hU, cell_of_row _ _ _ _ _ _ HBU.out]; rfl
    have t3 : (((Y2.setCell ⟨y.heap.size, 5, none⟩ (.slice (va 0) k0 (vc 0))).setCell ⟨y.heap.size, 6, none⟩ (.slice (va 1) k1 (vc 1))).setCell ⟨y.heap.size, 7, none⟩ (.slice (va 2) k2 (vc 2))).frozen? ⟨w.heap.size + 1, 3, none⟩ = false := by rw [← hU]; exact frozen_of_row _ _ _ _ _ HBU.out
    have q4 : (((Y2.setCell ⟨y.heap.size, 5, none⟩ (.slice (va 0) k0 (vc 0))).setCell ⟨y.heap.size, 6, none⟩ (.slice (va 1) k1 (vc 1))).setCell ⟨y.heap.size, 7, none⟩ (.slice (va 2) k2 (vc 2))).cell? ⟨y.heap.size, 4, none⟩ = some (.slice ga T gc) := by rw [← hU, cell_of_row _ _ _ _ _ _ hpu]; rfl
    have s4 : (((Y2.setCell ⟨y.heap.size, 5, none⟩ (.slice (va 0) k0 (vc 0))).setCell ⟨y.heap.size, 6, none⟩ (.slice (va 1) k1 (vc 1))).setCell ⟨y.heap.size, 7, none⟩ (.slice (va 2) k2 (vc 2))).cell? ⟨w.heap.size + 1, 4, none⟩ = some (.slice none 0 0) := by rw [← hU, cell_of_row _ _ _ _ _ _ HBU.out]; rfl
    have t4 : (((Y2.setCell ⟨y.heap.size, 5, none⟩ (.slice (va 0) k0 (vc 0))).setCell ⟨y.heap.size, 6, none⟩ (.slice (va 1) k1 (vc 1))).setCell ⟨y.heap.size, 7, none⟩ (.slice (va 2) k2 (vc 2))).frozen? ⟨w.heap.size + 1, 4, none⟩ = false := by rw [← hU]; exact frozen_of_row _ _ _ _ _ HBU.out
    have q5 : (((Y2.setCell ⟨y.heap.size, 5, none⟩ (.slice (va 0) k0 (vc 0))).setCell ⟨y.heap.size, 6, none⟩ (.slice (va 1) k1 (vc 1))).setCell ⟨y.heap.size, 7, none⟩ (.slice (va 2) k2 (vc 2))).cell? ⟨y.heap.size, 5, none⟩ = some (.slice (va 0) k0 (vc 0)) := by rw [← hU, cell_of_row _ _ _ _ _ _ hpu]; rfl
    have s5 : (((Y2.setCell ⟨y.heap.size, 5, none⟩ (.slice (va 0) k0 (vc 0))).setCell ⟨y.heap.size, 6, none⟩ (.slice (va 1) k1 (vc 1))).setCell ⟨y.heap.size, 7, none⟩ (.slice (va 2) k2 (vc 2))).cell? ⟨w.heap.size + 1, 5, none⟩ = some (.slice none 0 0) := by rw [← hU, cell_of_row _ _ _ _ _ _ HBU.out]; rfl
    have t5 : (((Y2.setCell ⟨y.heap.size, 5, none⟩ (.slice (va 0) k0 (vc 0))).setCell ⟨y.heap.size, 6, none⟩ (.slice (va 1) k1 (vc 1))).setCell ⟨y.heap.size, 7, none⟩ (.slice (va 2) k2 (vc 2))).frozen? ⟨w.heap.size + 1, 5, none⟩ = false := by rw [← hU]; exact frozen_of_row _ _ _ _ _ HBU.out
    have q6 : (((Y2.setCell ⟨y.heap.size, 5, none⟩ (.slice (va 0) k0 (vc 0))).setCell ⟨y.heap.size, 6, none⟩ (.slice (va 1) k1 (vc 1))).setCell ⟨y.heap.size, 7, none⟩ (.slice (va 2) k2 (vc 2))).cell? ⟨y.heap.size, 6, none⟩ = some (.slice (va 1) k1 (vc 1)) := by rw [← hU, cell_of_row _ _ _ _ _ _ hpu]; rfl
    have s6 : (((Y2.setCell ⟨y.heap.size, 5, none⟩ (.slice (va 0) k0 (vc 0))).setCell ⟨y.heap.size, 6, none⟩ (.slice (va 1) k1 (vc 1))).setCell ⟨y.heap.size, 7, none⟩ (.slice (va 2) k2 (vc 2))).cell? ⟨w.heap.size + 1, 6, none⟩ = some (.slice none 0 0) := by rw [← hU, cell_of_row _ _ _ _ _ _ HBU.out]; rfl
    have t6 : (((Y2.setCell ⟨y.heap.size, 5, none⟩ (.slice (va 0) k0 (vc 0))).setCell ⟨y.heap.size, 6, none⟩ (.slice (va 1) k1 (vc 1))).setCell ⟨y.heap.size, 7, none⟩ (.slice (va 2) k2 (vc 2))).frozen? ⟨w.heap.size + 1, 6, none⟩ = false := by rw [← hU]; exact frozen_of_row _ _ _ _ _ HBU.out
    have q7 : (((Y2.setCell ⟨y.heap.size, 5, none⟩ (.slice (va 0) k0 (vc 0))).setCell ⟨y.heap.size, 6, none⟩ (.slice (va 1) k1 (vc 1))).setCell ⟨y.heap.size, 7, none⟩ (.slice (va 2) k2 (vc 2))).cell? ⟨y.heap.size, 7, none⟩ = some (.slice (va 2) k2 (vc 2)) := by rw [← hU, cell_of_row _ _ _ _ _ _ hpu]; rfl
    have s7 : (((Y2.setCell ⟨y.heap.size, 5, none⟩ (.slice (va 0) k0 (vc 0))).setCell ⟨y.heap.size, 6, none⟩ (.slice (va 1) k1 (vc 1))).setCell ⟨y.heap.size, 7, none⟩ (.slice (va 2) k2 (vc 2))).cell? ⟨w.heap.size + 1, 7, none⟩ = some (.slice none 0 0) := by rw [← hU, cell_of_row _ _ _ _ _ _ HBU.out]; rfl
    have t7 : (((Y2.setCell ⟨y.heap.size, 5, none⟩ (.slice (va 0) k0 (vc 0))).setCell ⟨y.heap.size, 6, none⟩ (.slice (va 1) k1 (vc 1))).setCell ⟨y.heap.size, 7, none⟩ (.slice (va 2) k2 (vc 2))).frozen? ⟨w.heap.size + 1, 7, none⟩ = false := by rw [← hU]; exact frozen_of_row _ _ _ _ _ HBU.out
    clear ht2 hk0 hk1 hk2 hy2 hyu hgu hpu HL2
    go_wp2_with fail
    rw [← hU]
    have HF : Hid (U.grownBy _ (some (w.heap.size + 1))) := grown8 (X := U) (w.heap.size + 1) (.slice da M dc) (.slice (ua 0) l0 (uc 0)) (.slice (ua 1) l1 (uc 1)) (.slice (ua 2) l2 (uc 2)) (.slice ga T gc) (.slice (va 0) k0 (vc 0)) (.slice (va 1) k1 (vc 1)) (.slice (va 2) k2 (vc 2))
    refine ⟨rfl, _, results_rpack _ _ (w.heap.size + 1) _ _ rfl rfl (set8 HBU.out _ _ _ _ _ _ _ _) rfl, .inr ⟨HM.out, ?_⟩⟩
    have b1 := owns_lowP (row_beside HOU.out HBU.out (by decide) HF.out) HGZ.out.size
    have b2 := (HTU.out.beside HBU.out (by decide) HF.out).lower HWX1.out.size
    have b3 := owns_lowP (row_beside HOU2.out HBU.out (by decide) HF.out) HW4.out.size
    have b4 := (HTU2.out.beside HBU.out (by decide) HF.out).lower (Nat.le_trans HW4.out.size HG2.out.size)
    rw [defL_len, tgtL_len]
    refine ⟨da, dc, ua, uc, ga, gc, va, vc, ?_, b1, b2, by rw [← HTE.out]; exact b3, by rw [← HTE.out]; exact b4, grown_new HGU.out HF.out (by omega)⟩
    rw [← HTE.out, ← Hl0.out, ← Hl1.out, ← Hl2.out, ← Hk0.out, ← Hk1.out, ← Hk2.out]
    rfl

end Go.Proofs.Ytgmljpkenipgjaa.J
