/-
  Grammar of the document's builder: the loop over the rules, a declaration of its own.
-/
import Derived.Test.YtkbpnafahimeiaaRbGramI
namespace Go.Proofs.Ytkbpnafahimeiaa
open Go.RowKit Go.Maps Go.Shelf

attribute [local go_sem] Oper.semAt_some

theorem owns_down {w : World} {base base' e size n : Nat} {v : Value} {xs : List Value} (h : w.ownsRow base e size v n xs) (hb : base' ≤ base) : w.ownsRow base' e size v n xs := by
  refine ⟨h.1, ?_⟩
  rcases h.2 with h | ⟨g, cap, cur, h1, h2, h3⟩
  · exact .inl h
  · exact .inr ⟨g, cap, cur, h1, Nat.le_trans hb h2, h3⟩

/-- What a loop hands on that is left by one exit alone: a panic is no way out, whatever the frame. -/
def OutEnd (P : Act → World → Prop) (n : Nat) : Exit → Act → World → Prop
  | .exit m, a, w => m = n ∧ P a w
  | _, _, _ => False

set_option maxRecDepth 100000 in
set_option maxHeartbeats 8000000 in
theorem rg_outer {P0 : Act → World → Prop} {w Z0 : World} {H r gp nn tn ln pn tc pc : Nat} {ta : Option Addr} {S : BS} {vT vN vL : Value} {st : Int} {ts : List (ByteArray × Int)} {ns : List ByteArray} {lv : List Int} {pl : Nat → Int}
    {c1 c2 c3 c6 c7 c8 c10 c11 c12 c13 c14 c15 c16 c17 c18 c19 c20 c21 c22 c23 c24 c25 c26 c27 c28 c29 c30 c31 c32 c33 c34 c35 c36 c37 c38 c39 c40 c41 c42 c43 c44 c45 c46 c47 c48 c49 c50 c51 c52 c53 c54 c55 c56 c57 c58 c59 c60 c61 c62 c63 c64 c65 c66 c67 c68 c69 c70 c71 c72 c73 c74 c75 c76 c77 c78 c79 c80 c81 c82 c83 c84 c85 c86 c87 c88 c89 c90 c91 c92 c93 c94 c95 c96 c97 c98 c99 c100 c101 c102 c103 c104 c105 c106 c107 c108 c109 c110 c111 c112 c113 c114 c115 c116 c117 c118 c119 c120 c121 c122 c123 c124 c125 c126 c127 c128 c129 c130 c131 c132 c133 c134 c135 c136 c137 c138 c139 c140 c141 c142 c143 c144 c145 c146 c147 c148 c149 c150 c151 c152 c153 c154 c155 c156 c157 c158 c159 c160 c161 c162 c163 c164 c165 c166 c167 c168 c169 c170 c171 c172 c173 c174 c175 c176 c177 c178 c179 c180 c181 c182 c183 c184 c185 c186 c187 c188 c189 c190 : Value}
    (hok : S.OK) (hls : S.terms.length = tn ∧ S.nons.length = nn ∧ S.sides.length = ln ∧ S.prods.length = pn) (hrow : ∀ Z, w.grownBy Z none → Z.cell? ⟨r, 0, none⟩ = some (.slice ta tn tc) ∧ Z.cell? ⟨r, 3, none⟩ = some (.slice (some ⟨gp, 0, none⟩) pn pc))
    (hrl : ∀ k, k < pn → ∃ g a c, (some ⟨gp, 0, none⟩ : Option Addr) = some ⟨g, 0, none⟩ ∧ ∀ W, w.grownBy W none → W.cell? ⟨g, k * 3, none⟩ = some (.int .i64 (S.prods.getD k ⟨0, [], 0⟩).left) ∧ W.cell? ⟨g, k * 3 + 1, none⟩ = some (.slice a (S.prods.getD k ⟨0, [], 0⟩).right.length c) ∧ W.cell? ⟨g, k * 3 + 2, none⟩ = some (.int .i64 (S.prods.getD k ⟨0, [], 0⟩).level) ∧ IntsAt W a (S.prods.getD k ⟨0, [], 0⟩).right)
    (hpla : ∀ y : Nat, y < nn → (tn : Int) + pl y = S.sym (y + 1) ∧ 0 ≤ pl y ∧ pl y ≤ 65)
    (hst : GbAt w H Z0 vT vN vL (.slice none 0 0) st ts ns lv nn pl [])
    (hexit : ∀ (wz : World) (v u9 u10 u11 u12 u13 u122 u123 u124 u125 u126 u127 u128 u129 u130 u131 u132 u133 u134 u135 u136 u137 u138 u139 u140 u141 u142 u143 u144 u145 u146 u147 u148 u149 u150 u151 u152 u153 u154 u155 u156 u157 u158 u159 u160 u161 u162 u163 u164 u165 u166 u167 u168 u169 u170 u171 u172 u173 u174 u175 u176 u177 u178 u179 u180 u181 u182 u183 u184 u185 u186 u187 u188 u189 : Value), GbAt w H wz vT vN vL v st ts ns lv nn pl S.gram.prods → P0 ⟨List.toArray (.pointer (some ⟨r, 0, none⟩) :: c1 :: c2 :: c3 :: .slice (some ⟨w.heap.size + 1, 0, none⟩) nn nn :: .pointer (some ⟨H + 1, 0, none⟩) :: c6 :: c7 :: c8 :: u9 :: u10 :: u11 :: u12 :: u13 :: c14 :: c15 :: c16 :: c17 :: c18 :: c19 :: c20 :: c21 :: c22 :: c23 :: c24 :: c25 :: c26 :: c27 :: c28 :: c29 :: c30 :: c31 :: c32 :: c33 :: c34 :: c35 :: c36 :: c37 :: c38 :: c39 :: c40 :: c41 :: c42 :: c43 :: c44 :: c45 :: c46 :: c47 :: c48 :: c49 :: c50 :: c51 :: c52 :: c53 :: c54 :: c55 :: c56 :: c57 :: c58 :: c59 :: c60 :: c61 :: c62 :: c63 :: c64 :: c65 :: c66 :: c67 :: c68 :: c69 :: c70 :: c71 :: c72 :: c73 :: c74 :: c75 :: c76 :: c77 :: c78 :: c79 :: c80 :: c81 :: c82 :: c83 :: c84 :: c85 :: c86 :: c87 :: c88 :: c89 :: c90 :: c91 :: c92 :: c93 :: c94 :: c95 :: c96 :: c97 :: c98 :: c99 :: c100 :: c101 :: c102 :: c103 :: c104 :: c105 :: c106 :: c107 :: c108 :: c109 :: c110 :: c111 :: c112 :: c113 :: c114 :: c115 :: c116 :: c117 :: c118 :: c119 :: c120 :: c121 :: u122 :: u123 :: u124 :: u125 :: u126 :: u127 :: u128 :: u129 :: u130 :: u131 :: u132 :: u133 :: u134 :: u135 :: u136 :: u137 :: u138 :: u139 :: u140 :: u141 :: u142 :: u143 :: u144 :: u145 :: u146 :: u147 :: u148 :: u149 :: u150 :: u151 :: u152 :: u153 :: u154 :: u155 :: u156 :: u157 :: u158 :: u159 :: u160 :: u161 :: u162 :: u163 :: u164 :: u165 :: u166 :: u167 :: u168 :: u169 :: u170 :: u171 :: u172 :: u173 :: u174 :: u175 :: u176 :: u177 :: u178 :: u179 :: u180 :: u181 :: u182 :: u183 :: u184 :: u185 :: u186 :: u187 :: u188 :: u189 :: c190 :: []), []⟩ wz) :
    Code.wp Try.prog rgOuter (OutEnd P0 2) ⟨List.toArray (.pointer (some ⟨r, 0, none⟩) :: c1 :: c2 :: c3 :: .slice (some ⟨w.heap.size + 1, 0, none⟩) nn nn :: .pointer (some ⟨H + 1, 0, none⟩) :: c6 :: c7 :: c8 :: .int .i64 0 :: c10 :: c11 :: c12 :: c13 :: c14 :: c15 :: c16 :: c17 :: c18 :: c19 :: c20 :: c21 :: c22 :: c23 :: c24 :: c25 :: c26 :: c27 :: c28 :: c29 :: c30 :: c31 :: c32 :: c33 :: c34 :: c35 :: c36 :: c37 :: c38 :: c39 :: c40 :: c41 :: c42 :: c43 :: c44 :: c45 :: c46 :: c47 :: c48 :: c49 :: c50 :: c51 :: c52 :: c53 :: c54 :: c55 :: c56 :: c57 :: c58 :: c59 :: c60 :: c61 :: c62 :: c63 :: c64 :: c65 :: c66 :: c67 :: c68 :: c69 :: c70 :: c71 :: c72 :: c73 :: c74 :: c75 :: c76 :: c77 :: c78 :: c79 :: c80 :: c81 :: c82 :: c83 :: c84 :: c85 :: c86 :: c87 :: c88 :: c89 :: c90 :: c91 :: c92 :: c93 :: c94 :: c95 :: c96 :: c97 :: c98 :: c99 :: c100 :: c101 :: c102 :: c103 :: c104 :: c105 :: c106 :: c107 :: c108 :: c109 :: c110 :: c111 :: c112 :: c113 :: c114 :: c115 :: c116 :: c117 :: c118 :: c119 :: c120 :: c121 :: c122 :: c123 :: c124 :: c125 :: c126 :: c127 :: c128 :: c129 :: c130 :: c131 :: c132 :: c133 :: c134 :: c135 :: c136 :: c137 :: c138 :: c139 :: c140 :: c141 :: c142 :: c143 :: c144 :: c145 :: c146 :: c147 :: c148 :: c149 :: c150 :: c151 :: c152 :: c153 :: c154 :: c155 :: c156 :: c157 :: c158 :: c159 :: c160 :: c161 :: c162 :: c163 :: c164 :: c165 :: c166 :: c167 :: c168 :: c169 :: c170 :: c171 :: c172 :: c173 :: c174 :: c175 :: c176 :: c177 :: c178 :: c179 :: c180 :: c181 :: c182 :: c183 :: c184 :: c185 :: c186 :: c187 :: c188 :: c189 :: c190 :: []), []⟩ Z0 := by
  have hsy := hok.syms
  have hp96 := hok.prods
  rw [hls.1, hls.2.1] at hsy
  rw [hls.2.2.2] at hp96
  have HOK : Hid S.OK := hok
  have HLS : Hid (S.terms.length = tn ∧ S.nons.length = nn ∧ S.sides.length = ln ∧ S.prods.length = pn) := hls
  have HROW : Hid (∀ Z, w.grownBy Z none → Z.cell? ⟨r, 0, none⟩ = some (.slice ta tn tc) ∧ Z.cell? ⟨r, 3, none⟩ = some (.slice (some ⟨gp, 0, none⟩) pn pc)) := hrow
  have HRL : Hid (∀ k, k < pn → ∃ g a c, (some ⟨gp, 0, none⟩ : Option Addr) = some ⟨g, 0, none⟩ ∧ ∀ W, w.grownBy W none → W.cell? ⟨g, k * 3, none⟩ = some (.int .i64 (S.prods.getD k ⟨0, [], 0⟩).left) ∧ W.cell? ⟨g, k * 3 + 1, none⟩ = some (.slice a (S.prods.getD k ⟨0, [], 0⟩).right.length c) ∧ W.cell? ⟨g, k * 3 + 2, none⟩ = some (.int .i64 (S.prods.getD k ⟨0, [], 0⟩).level) ∧ IntsAt W a (S.prods.getD k ⟨0, [], 0⟩).right) := hrl
  have HPLA : Hid (∀ y : Nat, y < nn → (tn : Int) + pl y = S.sym (y + 1) ∧ 0 ≤ pl y ∧ pl y ≤ 65) := hpla
  have HGS : Hid (GbAt w H Z0 vT vN vL (.slice none 0 0) st ts ns lv nn pl []) := hst
  have HEX : Hid (∀ (wz : World) (v u9 u10 u11 u12 u13 u122 u123 u124 u125 u126 u127 u128 u129 u130 u131 u132 u133 u134 u135 u136 u137 u138 u139 u140 u141 u142 u143 u144 u145 u146 u147 u148 u149 u150 u151 u152 u153 u154 u155 u156 u157 u158 u159 u160 u161 u162 u163 u164 u165 u166 u167 u168 u169 u170 u171 u172 u173 u174 u175 u176 u177 u178 u179 u180 u181 u182 u183 u184 u185 u186 u187 u188 u189 : Value), GbAt w H wz vT vN vL v st ts ns lv nn pl S.gram.prods → P0 ⟨List.toArray (.pointer (some ⟨r, 0, none⟩) :: c1 :: c2 :: c3 :: .slice (some ⟨w.heap.size + 1, 0, none⟩) nn nn :: .pointer (some ⟨H + 1, 0, none⟩) :: c6 :: c7 :: c8 :: u9 :: u10 :: u11 :: u12 :: u13 :: c14 :: c15 :: c16 :: c17 :: c18 :: c19 :: c20 :: c21 :: c22 :: c23 :: c24 :: c25 :: c26 :: c27 :: c28 :: c29 :: c30 :: c31 :: c32 :: c33 :: c34 :: c35 :: c36 :: c37 :: c38 :: c39 :: c40 :: c41 :: c42 :: c43 :: c44 :: c45 :: c46 :: c47 :: c48 :: c49 :: c50 :: c51 :: c52 :: c53 :: c54 :: c55 :: c56 :: c57 :: c58 :: c59 :: c60 :: c61 :: c62 :: c63 :: c64 :: c65 :: c66 :: c67 :: c68 :: c69 :: c70 :: c71 :: c72 :: c73 :: c74 :: c75 :: c76 :: c77 :: c78 :: c79 :: c80 :: c81 :: c82 :: c83 :: c84 :: c85 :: c86 :: c87 :: c88 :: c89 :: c90 :: c91 :: c92 :: c93 :: c94 :: c95 :: c96 :: c97 :: c98 :: c99 :: c100 :: c101 :: c102 :: c103 :: c104 :: c105 :: c106 :: c107 :: c108 :: c109 :: c110 :: c111 :: c112 :: c113 :: c114 :: c115 :: c116 :: c117 :: c118 :: c119 :: c120 :: c121 :: u122 :: u123 :: u124 :: u125 :: u126 :: u127 :: u128 :: u129 :: u130 :: u131 :: u132 :: u133 :: u134 :: u135 :: u136 :: u137 :: u138 :: u139 :: u140 :: u141 :: u142 :: u143 :: u144 :: u145 :: u146 :: u147 :: u148 :: u149 :: u150 :: u151 :: u152 :: u153 :: u154 :: u155 :: u156 :: u157 :: u158 :: u159 :: u160 :: u161 :: u162 :: u163 :: u164 :: u165 :: u166 :: u167 :: u168 :: u169 :: u170 :: u171 :: u172 :: u173 :: u174 :: u175 :: u176 :: u177 :: u178 :: u179 :: u180 :: u181 :: u182 :: u183 :: u184 :: u185 :: u186 :: u187 :: u188 :: u189 :: c190 :: []), []⟩ wz) := hexit
  clear hok hls hrow hrl hpla hst hexit
  conv => arg 2; whnf
  go_loopg [9] pn (fun gk i wz => ∃ (k : Nat) (vP : Value), k ≤ pn ∧ gk = pn - k ∧ i = .int .i64 k ∧ GbAt w H wz vT vN vL vP st ts ns lv nn pl (S.gram.prods.take k))
  case atStart => exact ⟨0, _, Nat.zero_le _, rfl, rfl, HGS.out⟩
  case round =>
    obtain ⟨k, vP, hk, hgk, rfl, hgb⟩ := hrel
    have HGK : Hid (gk = pn - k) := hgk
    clear hgk HGS
    obtain ⟨q0, q3⟩ := HROW.out _ hgb.grown
    by_cases hlt : k < pn
    · have hkl : k < S.prods.length := by rw [HLS.out.2.2.2]; exact hlt
      obtain ⟨gp', ap, cp, hgp', hcells⟩ := HRL.out k hlt
      have hgpe : gp' = gp := by simpa using hgp'.symm
      subst hgpe
      obtain ⟨u0, u1, u2, _⟩ := hcells wr hgb.grown
      have HRI : Hid (∀ Z, w.grownBy Z none → IntsAt Z ap (S.prods.getD k ⟨0, [], 0⟩).right) := fun Z hZ => (hcells Z hZ).2.2.2
      have hmemk : S.prods.getD k ⟨0, [], 0⟩ ∈ S.prods := by
        have : S.prods.getD k ⟨0, [], 0⟩ = S.prods[k] := by simp [List.getD, hkl]
        rw [this]; exact List.getElem_mem _
      have hpl := HOK.out.pl _ hmemk
      have hplen := HOK.out.plen _ hmemk
      have HPR : Hid (∀ h ∈ (S.prods.getD k ⟨0, [], 0⟩).right, (0 < h ∧ h ≤ tn) ∨ (h < 0 ∧ -(nn : Int) ≤ h)) := fun h hh => by have := HOK.out.pr _ hmemk h hh; rw [HLS.out.1, HLS.out.2.1] at this; exact this
      rw [HLS.out.2.1] at hpl
      have HGP : Hid (S.gram.prods.take (k + 1) = S.gram.prods.take k ++ [⟨sg S.sym (S.prods.getD k ⟨0, [], 0⟩).left, (S.prods.getD k ⟨0, [], 0⟩).right.map (sg S.sym), (S.prods.getD k ⟨0, [], 0⟩).level⟩]) := by
        have hl2 : k < S.gram.prods.length := by show k < (S.prods.map _).length; rw [List.length_map]; exact hkl
        have e2 := gram_prods S k hkl
        show _ = _
        rw [List.take_succ_eq_append_getElem hl2]
        rw [show S.gram.prods.getD k ⟨0, [], 0⟩ = S.gram.prods[k] by simp [List.getD, hl2]] at e2
        rw [e2]
      clear hcells hgp' hmemk hkl
      generalize (S.prods.getD k ⟨0, [], 0⟩).level = lev at *
      generalize (S.prods.getD k ⟨0, [], 0⟩).left = plf at *
      generalize hrt : (S.prods.getD k ⟨0, [], 0⟩).right = rt at *
      clear hrt
      obtain ⟨m, rfl⟩ : ∃ m : Nat, plf = -((m : Int) + 1) := ⟨(-plf - 1).toNat, by omega⟩
      have hmn : m < nn := by omega
      have e1 : (-1 : Int) - (-((m : Int) + 1)) = (m : Int) := by omega
      obtain ⟨hsy1, hsy2, hsy3⟩ := HPLA.out m hmn
      have HSGL : Hid ((tn : Int) + pl m = sg S.sym (-((m : Int) + 1))) := by
        show _ = _
        rw [hsy1]
        unfold sg
        rw [if_pos (by omega), show (-(-((m : Int) + 1))).toNat = m + 1 by omega]
      obtain ⟨len, hle⟩ : ∃ len, len = rt.length := ⟨_, rfl⟩
      have HLE : Hid (rt.length = len) := hle.symm
      rw [← hle] at u1 hplen
      have HGB : Hid (GbAt w H wr vT vN vL vP st ts ns lv nn pl (S.gram.prods.take k)) := hgb
      have hplc := (hgb.placeAt hmn).1
      clear hgb hle hpl hsy1
      generalize pl m = sm at *
      have HGX : Hid (GbAt w H (wr.alloc (.cells #[.int .i64 (-((m : Int) + 1)), .slice ap len cp, .int .i64 lev] 100)) vT vN vL vP st ts ns lv nn pl (S.gram.prods.take k)) := HGB.out.kept (World.grownBy_alloc _ _ none)
      have HBX : Hid ((wr.alloc (.cells #[.int .i64 (-((m : Int) + 1)), .slice ap len cp, .int .i64 lev] 100)).heap[wr.heap.size]? = some (.cells #[.int .i64 (-((m : Int) + 1)), .slice ap len cp, .int .i64 lev] 100 (0, 0))) := heap_alloc_last wr _
      have hplX : (wr.alloc (.cells #[.int .i64 (-((m : Int) + 1)), .slice ap len cp, .int .i64 lev] 100)).cell? ⟨w.heap.size + 1, m, none⟩ = some (.int .i64 sm) := (World.grownBy_alloc _ _ none).cell hplc (by simp)
      go_wp2_with fail
      generalize wr.alloc (.cells #[.int .i64 (-((m : Int) + 1)), .slice ap len cp, .int .i64 lev] 100) = X at *
      generalize wr.heap.size = Br at *
      have x0 : X.drew.cell? ⟨r, 0, none⟩ = some (.slice ta tn tc) := (HROW.out _ HGX.out.grown).1
      have x1 : X.drew.cell? ⟨Br, 0, none⟩ = some (.int .i64 (-((m : Int) + 1))) := by
        show X.cell? _ = _; rw [cell_of_row _ _ _ _ _ _ HBX.out]; rfl
      have x2 : X.drew.cell? ⟨Br, 2, none⟩ = some (.int .i64 lev) := by
        show X.cell? _ = _; rw [cell_of_row _ _ _ _ _ _ HBX.out]; rfl
      have x3 : X.drew.cell? ⟨w.heap.size + 1, m, none⟩ = some (.int .i64 sm) := hplX
      have x0' : ∀ o, (X.alloc o).drew.cell? ⟨r, 0, none⟩ = some (.slice ta tn tc) := fun o => (World.grownBy_alloc X o none).cell (show X.cell? _ = _ from x0) (by simp)
      have x1' : ∀ o, (X.alloc o).drew.cell? ⟨Br, 0, none⟩ = some (.int .i64 (-((m : Int) + 1))) := fun o => (World.grownBy_alloc X o none).cell (show X.cell? _ = _ from x1) (by simp)
      have x2' : ∀ o, (X.alloc o).drew.cell? ⟨Br, 2, none⟩ = some (.int .i64 lev) := fun o => (World.grownBy_alloc X o none).cell (show X.cell? _ = _ from x2) (by simp)
      have x3' : ∀ o, (X.alloc o).drew.cell? ⟨w.heap.size + 1, m, none⟩ = some (.int .i64 sm) := fun o => (World.grownBy_alloc X o none).cell (show X.cell? _ = _ from x3) (by simp)
      clear q0 q3 u0 u1 u2 hplc hplX HGB
      go_region
      clear x0 x1 x2 x3 x0' x1' x2' x3'
      have HPU : Hid (PuAt X (X.alloc (.cells #[.int .i64 ((tn : Int) + sm), .slice none 0 0, .int .i64 lev] 52)).drew ((tn : Int) + sm) [] lev (.slice none 0 0)) := ⟨grown_trans (World.grownBy_alloc _ _ none) (grown_drewN _ 1), heap_alloc_last X _, World.ownsRow_nil _ _ _ _⟩
      go_wp2_with fail
      generalize (X.alloc (.cells #[.int .i64 ((tn : Int) + sm), .slice none 0 0, .int .i64 lev] 52)).drew = Z0 at *
      refine rg_inner (X := X) (r := r) (pb := w.heap.size + 1) (Br := Br) (nn := nn) (tn := tn) (len := len) (ta := ta) (ap := ap) (lf := (tn : Int) + sm) (lev := lev) (f := sg S.sym) (rt := rt) HLE.out hplen (by omega) (by omega) (fun Z hZ => (HROW.out Z (grown_trans HGX.out.grown hZ)).1) (fun y hy => ⟨pl y, fun Z hZ => hZ.cell (HGX.out.placeAt hy).1 (by simp), ?_, (HPLA.out y hy).2⟩) (fun Z hZ => hZ.cell (by rw [cell_of_row _ _ _ _ _ _ HBX.out]; rfl) (by simp)) (fun Z hZ => HRI.out Z (grown_trans HGX.out.grown hZ)) HPR.out (fun h hh => ?_) HPU.out ?_
      · rw [(HPLA.out y hy).1]
        unfold sg
        rw [if_pos (by omega), show (-(-((y : Int) + 1))).toNat = y + 1 by omega]
      · unfold sg
        rw [if_neg (by omega)]
      · clear HPU
        intro wz v z12 z13 z153 z154 z155 z156 z157 z158 z159 z160 z161 z162 z163 z164 z165 z166 z167 z168 z169 z170 z171 z172 z173 z174 z175 z176 z177 z178 z179 z180 z181 z182 z183 hU
        have HGW : Hid (GbAt w H wz vT vN vL vP st ts ns lv nn pl (S.gram.prods.take k)) := HGX.out.kept hU.grown
        have hXl := HGX.out.lt
        obtain ⟨rs, e1', e2', e3'⟩ := HGW.out.pr
        have htk : (S.gram.prods.take k).length = k := by
          rw [List.length_take]
          have : S.gram.prods.length = pn := by show (S.prods.map _).length = pn; rw [List.length_map]; exact HLS.out.2.2.2
          omega
        obtain ⟨aP, cP, hv⟩ := owns_slice e2'
        rw [htk] at hv
        subst hv
        obtain ⟨ra, rcap, hv⟩ := owns_slice hU.row
        rw [List.length_map, HLE.out] at hv
        subst hv
        obtain ⟨s0, s1, s2⟩ := hU.cells
        have hZsz : H + 2 ≤ wz.heap.size := by have := hU.grown.size; omega
        have hA : ∀ o, GbAt w H (wz.alloc o) vT vN vL (.slice aP k cP) st ts ns lv nn pl (S.gram.prods.take k) := fun o => HGW.out.kept (World.grownBy_alloc wz o none)
        have HRA : Hid (∀ o, (wz.alloc o).ownsRow (H + 2) 52 3 (.slice aP k cP) k (((S.gram.prods.take k).zip rs).flatMap fun x => prL x.1 x.2)) := fun o => by
          have h9 := e2'.kept (World.grownBy_alloc wz o none) (none_ne rfl)
          rw [htk] at h9
          exact h9
        have HVR : Hid (∀ o, (wz.alloc o).ownsRow (H + 2) 3 1 (.slice ra len rcap) (rt.map (sg S.sym)).length ((rt.map (sg S.sym)).map (Value.int .i64))) := fun o => (owns_down hU.row (by omega)).kept (World.grownBy_alloc wz o none) (none_ne rfl)
        have HPUSH : Hid (∀ o w4 g2 c2, (wz.alloc o).grownBy w4 (Value.slice aP k cP).ownBlock → w4.ownsRow (H + 2) 52 3 (.slice (some ⟨g2, 0, none⟩) (k + 1) c2) (k + 1) ((((S.gram.prods.take k).zip rs).flatMap fun x => prL x.1 x.2) ++ prL ⟨(tn : Int) + sm, [], lev⟩ (.slice ra len rcap)) →
            GbAt w H (w4.setCell ⟨H + 1, 4, none⟩ (.slice (some ⟨g2, 0, none⟩) (k + 1) c2)) vT vN vL (.slice (some ⟨g2, 0, none⟩) (k + 1) c2) st ts ns lv nn pl (S.gram.prods.take (k + 1)) ∧ w4.cell? ⟨H + 1, 4, none⟩ = some (.slice aP k cP) ∧ w4.frozen? ⟨H + 1, 4, none⟩ = false) := fun o w4 g2 c2 h1 h2 => by
          have hb := ((hA o).grew (HRA.out o) (by omega) (by decide) h1).2.2.2
          refine ⟨?_, by rw [cell_of_row _ _ _ _ _ _ hb]; rfl, frozen_of_row _ _ 4 _ _ hb⟩
          rw [HGP.out]
          refine (hA o).pushP (p := ⟨sg S.sym (-((m : Int) + 1)), rt.map (sg S.sym), lev⟩) h1 (HVR.out o) rs e1' (by rw [htk]; exact HRA.out o) (fun i hi => (e3' i hi).kept (World.grownBy_alloc wz o none) (none_ne rfl)) ?_
          rw [htk, show prL ⟨sg S.sym (-((m : Int) + 1)), rt.map (sg S.sym), lev⟩ (.slice ra len rcap) = prL ⟨(tn : Int) + sm, [], lev⟩ (.slice ra len rcap) by unfold prL; rw [HSGL.out]]
          exact h2
        have b4 := HGW.out.cells.2.2.2.2
        have b4' := fun o => (hA o).cells.2.2.2.2
        clear hA HVR e1' e2' e3' HGW hU htk HGP HSGL HGX HBX
        obtain ⟨j0, hj, hy0, hy1, hy2⟩ := info_parts infoProd
        generalize (((S.gram.prods.take k).zip rs).flatMap fun x => prL x.1 x.2) = fl at *
        go_wp2_with (at_builtin; refine wpList_append_lies _ rfl _ _ 40 rfl (H + 2) 52 j0 (.agg #[.int .i64 0, .slice none 0 0, .int .i64 0]) 3 40 Try.underlying40 hj hy0 hy1 hy2 rfl (by decide) (.slice aP k cP) k fl rfl (HRA.out _) ⟨wz.heap.size, 0, none⟩ 1 1 (prL ⟨(tn : Int) + sm, [], lev⟩ (.slice ra len rcap)) rfl rfl (fun j u hu => World.news_of_block (heap_alloc_last _ _) j u hu) (prL_oneCell _) (by omega) (by unfold maxLen; omega) (by omega) (by simp; omega) _ rfl ?_)
        intro g2 c2 w4 hown4 hg4 hloc4 hlt4
        obtain ⟨z0, z2, z3⟩ := HPUSH.out _ _ _ _ hg4 hown4
        have HZ : Hid (GbAt w H (w4.setCell ⟨H + 1, 4, none⟩ (.slice (some ⟨g2, 0, none⟩) (k + 1) c2)) vT vN vL (.slice (some ⟨g2, 0, none⟩) (k + 1) c2) st ts ns lv nn pl (S.gram.prods.take (k + 1))) := z0
        clear z0 b4 b4' hown4 hg4 hloc4 hlt4 HPUSH HRA s0 s1 s2
        go_wp2_with fail
        go_roundg (pn - (k + 1))
        case measure => have := HGK.out; omega
        case rel => exact ⟨k + 1, _, by omega, rfl, by go_num, HZ.out⟩
    · have HTA : Hid (S.gram.prods.take k = S.gram.prods) := by
        show _ = _
        refine List.take_of_length_le ?_
        show (S.prods.map _).length ≤ k
        rw [List.length_map, HLS.out.2.2.2]
        omega
      have dx : decide ((k : Int) < pn) = false := decide_eq_false (by omega)
      have dx' : decide (k < pn) = false := decide_eq_false hlt
      have HFIN : Hid (GbAt w H wr vT vN vL vP st ts ns lv nn pl S.gram.prods) := by
        have h9 := hgb
        rw [HTA.out] at h9
        exact h9
      clear hgb HTA
      go_wp2_with fail
      exact ⟨rfl, HEX.out _ _ _ _ _ _ _ _ _ _ _ _ _ _ _ _ _ _ _ _ _ _ _ _ _ _ _ _ _ _ _ _ _ _ _ _ _ _ _ _ _ _ _ _ _ _ _ _ _ _ _ _ _ _ _ _ _ _ _ _ _ _ _ _ _ _ _ _ _ _ _ _ _ _ _ HFIN.out⟩

end Go.Proofs.Ytkbpnafahimeiaa
