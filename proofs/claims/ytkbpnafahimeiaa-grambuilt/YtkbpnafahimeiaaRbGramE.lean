/-
  Grammar of the document's builder: the loop over the rules behind any exit; what has been built is the grammar.
-/
import Derived.Test.YtkbpnafahimeiaaRbGramO
namespace Go.Proofs.Ytkbpnafahimeiaa
open Go.RowKit Go.Maps Go.Shelf

set_option maxRecDepth 100000 in
theorem rg_loop {Q0 : Exit → Act → World → Prop} {w Z0 : World} {H r gp nn tn ln pn tc pc : Nat} {ta : Option Addr} {S : BS} {vT vN vL : Value} {st : Int} {ts : List (ByteArray × Int)} {ns : List ByteArray} {lv : List Int} {pl : Nat → Int}
    {c1 c2 c3 c6 c7 c8 c10 c11 c12 c13 c14 c15 c16 c17 c18 c19 c20 c21 c22 c23 c24 c25 c26 c27 c28 c29 c30 c31 c32 c33 c34 c35 c36 c37 c38 c39 c40 c41 c42 c43 c44 c45 c46 c47 c48 c49 c50 c51 c52 c53 c54 c55 c56 c57 c58 c59 c60 c61 c62 c63 c64 c65 c66 c67 c68 c69 c70 c71 c72 c73 c74 c75 c76 c77 c78 c79 c80 c81 c82 c83 c84 c85 c86 c87 c88 c89 c90 c91 c92 c93 c94 c95 c96 c97 c98 c99 c100 c101 c102 c103 c104 c105 c106 c107 c108 c109 c110 c111 c112 c113 c114 c115 c116 c117 c118 c119 c120 c121 c122 c123 c124 c125 c126 c127 c128 c129 c130 c131 c132 c133 c134 c135 c136 c137 c138 c139 c140 c141 c142 c143 c144 c145 c146 c147 c148 c149 c150 c151 c152 c153 c154 c155 c156 c157 c158 c159 c160 c161 c162 c163 c164 c165 c166 c167 c168 c169 c170 c171 c172 c173 c174 c175 c176 c177 c178 c179 c180 c181 c182 c183 c184 c185 c186 c187 c188 c189 c190 : Value}
    (hok : S.OK) (hls : S.terms.length = tn ∧ S.nons.length = nn ∧ S.sides.length = ln ∧ S.prods.length = pn) (hrow : ∀ Z, w.grownBy Z none → Z.cell? ⟨r, 0, none⟩ = some (.slice ta tn tc) ∧ Z.cell? ⟨r, 3, none⟩ = some (.slice (some ⟨gp, 0, none⟩) pn pc))
    (hrl : ∀ k, k < pn → ∃ g a c, (some ⟨gp, 0, none⟩ : Option Addr) = some ⟨g, 0, none⟩ ∧ ∀ W, w.grownBy W none → W.cell? ⟨g, k * 3, none⟩ = some (.int .i64 (S.prods.getD k ⟨0, [], 0⟩).left) ∧ W.cell? ⟨g, k * 3 + 1, none⟩ = some (.slice a (S.prods.getD k ⟨0, [], 0⟩).right.length c) ∧ W.cell? ⟨g, k * 3 + 2, none⟩ = some (.int .i64 (S.prods.getD k ⟨0, [], 0⟩).level) ∧ IntsAt W a (S.prods.getD k ⟨0, [], 0⟩).right)
    (hpla : ∀ y : Nat, y < nn → (tn : Int) + pl y = S.sym (y + 1) ∧ 0 ≤ pl y ∧ pl y ≤ 65)
    (hst : GbAt w H Z0 vT vN vL (.slice none 0 0) st ts ns lv nn pl [])
    (hexit : ∀ (wz : World) (v u9 u10 u11 u12 u13 u122 u123 u124 u125 u126 u127 u128 u129 u130 u131 u132 u133 u134 u135 u136 u137 u138 u139 u140 u141 u142 u143 u144 u145 u146 u147 u148 u149 u150 u151 u152 u153 u154 u155 u156 u157 u158 u159 u160 u161 u162 u163 u164 u165 u166 u167 u168 u169 u170 u171 u172 u173 u174 u175 u176 u177 u178 u179 u180 u181 u182 u183 u184 u185 u186 u187 u188 u189 : Value), GbAt w H wz vT vN vL v st ts ns lv nn pl S.gram.prods → Q0 (.exit 2) ⟨List.toArray (.pointer (some ⟨r, 0, none⟩) :: c1 :: c2 :: c3 :: .slice (some ⟨w.heap.size + 1, 0, none⟩) nn nn :: .pointer (some ⟨H + 1, 0, none⟩) :: c6 :: c7 :: c8 :: u9 :: u10 :: u11 :: u12 :: u13 :: c14 :: c15 :: c16 :: c17 :: c18 :: c19 :: c20 :: c21 :: c22 :: c23 :: c24 :: c25 :: c26 :: c27 :: c28 :: c29 :: c30 :: c31 :: c32 :: c33 :: c34 :: c35 :: c36 :: c37 :: c38 :: c39 :: c40 :: c41 :: c42 :: c43 :: c44 :: c45 :: c46 :: c47 :: c48 :: c49 :: c50 :: c51 :: c52 :: c53 :: c54 :: c55 :: c56 :: c57 :: c58 :: c59 :: c60 :: c61 :: c62 :: c63 :: c64 :: c65 :: c66 :: c67 :: c68 :: c69 :: c70 :: c71 :: c72 :: c73 :: c74 :: c75 :: c76 :: c77 :: c78 :: c79 :: c80 :: c81 :: c82 :: c83 :: c84 :: c85 :: c86 :: c87 :: c88 :: c89 :: c90 :: c91 :: c92 :: c93 :: c94 :: c95 :: c96 :: c97 :: c98 :: c99 :: c100 :: c101 :: c102 :: c103 :: c104 :: c105 :: c106 :: c107 :: c108 :: c109 :: c110 :: c111 :: c112 :: c113 :: c114 :: c115 :: c116 :: c117 :: c118 :: c119 :: c120 :: c121 :: u122 :: u123 :: u124 :: u125 :: u126 :: u127 :: u128 :: u129 :: u130 :: u131 :: u132 :: u133 :: u134 :: u135 :: u136 :: u137 :: u138 :: u139 :: u140 :: u141 :: u142 :: u143 :: u144 :: u145 :: u146 :: u147 :: u148 :: u149 :: u150 :: u151 :: u152 :: u153 :: u154 :: u155 :: u156 :: u157 :: u158 :: u159 :: u160 :: u161 :: u162 :: u163 :: u164 :: u165 :: u166 :: u167 :: u168 :: u169 :: u170 :: u171 :: u172 :: u173 :: u174 :: u175 :: u176 :: u177 :: u178 :: u179 :: u180 :: u181 :: u182 :: u183 :: u184 :: u185 :: u186 :: u187 :: u188 :: u189 :: c190 :: []), []⟩ wz) :
    Code.wp Try.prog rgOuter Q0 ⟨List.toArray (.pointer (some ⟨r, 0, none⟩) :: c1 :: c2 :: c3 :: .slice (some ⟨w.heap.size + 1, 0, none⟩) nn nn :: .pointer (some ⟨H + 1, 0, none⟩) :: c6 :: c7 :: c8 :: .int .i64 0 :: c10 :: c11 :: c12 :: c13 :: c14 :: c15 :: c16 :: c17 :: c18 :: c19 :: c20 :: c21 :: c22 :: c23 :: c24 :: c25 :: c26 :: c27 :: c28 :: c29 :: c30 :: c31 :: c32 :: c33 :: c34 :: c35 :: c36 :: c37 :: c38 :: c39 :: c40 :: c41 :: c42 :: c43 :: c44 :: c45 :: c46 :: c47 :: c48 :: c49 :: c50 :: c51 :: c52 :: c53 :: c54 :: c55 :: c56 :: c57 :: c58 :: c59 :: c60 :: c61 :: c62 :: c63 :: c64 :: c65 :: c66 :: c67 :: c68 :: c69 :: c70 :: c71 :: c72 :: c73 :: c74 :: c75 :: c76 :: c77 :: c78 :: c79 :: c80 :: c81 :: c82 :: c83 :: c84 :: c85 :: c86 :: c87 :: c88 :: c89 :: c90 :: c91 :: c92 :: c93 :: c94 :: c95 :: c96 :: c97 :: c98 :: c99 :: c100 :: c101 :: c102 :: c103 :: c104 :: c105 :: c106 :: c107 :: c108 :: c109 :: c110 :: c111 :: c112 :: c113 :: c114 :: c115 :: c116 :: c117 :: c118 :: c119 :: c120 :: c121 :: c122 :: c123 :: c124 :: c125 :: c126 :: c127 :: c128 :: c129 :: c130 :: c131 :: c132 :: c133 :: c134 :: c135 :: c136 :: c137 :: c138 :: c139 :: c140 :: c141 :: c142 :: c143 :: c144 :: c145 :: c146 :: c147 :: c148 :: c149 :: c150 :: c151 :: c152 :: c153 :: c154 :: c155 :: c156 :: c157 :: c158 :: c159 :: c160 :: c161 :: c162 :: c163 :: c164 :: c165 :: c166 :: c167 :: c168 :: c169 :: c170 :: c171 :: c172 :: c173 :: c174 :: c175 :: c176 :: c177 :: c178 :: c179 :: c180 :: c181 :: c182 :: c183 :: c184 :: c185 :: c186 :: c187 :: c188 :: c189 :: c190 :: []), []⟩ Z0 := by
  refine wp_mono (rg_outer (P0 := fun a w => Q0 (.exit 2) a w) hok hls hrow hrl hpla hst hexit) ?_
  intro e a x h
  cases e with
  | exit m => obtain ⟨rfl, h⟩ := h; exact h
  | _ => exact False.elim h

theorem zip_prodRow (ps : List PR) (rs : List Value) (h : rs.length = ps.length) : ((ps.zip rs).flatMap fun x => prL x.1 x.2) = prodRow ps.length (fun i => (ps.getD i ⟨0, [], 0⟩).left) (fun i => rs.getD i undef) (fun i => (ps.getD i ⟨0, [], 0⟩).level) := by
  have e : ps.zip rs = (List.range ps.length).map fun i => (ps.getD i ⟨0, [], 0⟩, rs.getD i undef) := by
    apply List.ext_getElem
    · simp [h]
    · intro i h1 h2
      have a1 : i < ps.length := by simp at h2; exact h2
      have a2 : i < rs.length := by omega
      simp [List.getD, a1, a2]
  rw [e, List.flatMap_map]
  rfl

theorem gb_new {w wz w' : World} {H nn : Nat} {S : BS} {vt vn vl vp : Value} {pl : Nat → Int} (h : GbAt w H wz vt vn vl vp S.gram.start ((⟨#[]⟩, 0) :: rts S) ((ordOf S.prods).map fun i => S.nons.getD (i - 1) ⟨#[]⟩) S.sides nn pl S.gram.prods) (hg : wz.grownBy w' (some w.heap.size)) : GramNew w' w.heap.size S.gram vt vn vl vp := by
  have hH := h.hH
  obtain ⟨rs, e1, e2, e3⟩ := h.pr
  rw [zip_prodRow _ _ e1] at e2
  exact ⟨owns_off (owns_lower h.tr (show w.heap.size + 1 ≤ H by omega)) hg (Nat.le_refl _), owns_off (owns_lower h.nr (show w.heap.size + 1 ≤ H + 2 by omega)) hg (Nat.le_refl _), owns_off (owns_lower h.lr (show w.heap.size + 1 ≤ H + 2 by omega)) hg (Nat.le_refl _), _, owns_off (owns_lower e2 (show w.heap.size + 1 ≤ H + 2 by omega)) hg (Nat.le_refl _), fun i hi => owns_off (owns_lower (e3 i hi) (show w.heap.size + 1 ≤ H + 2 by omega)) hg (Nat.le_refl _)⟩

end Go.Proofs.Ytkbpnafahimeiaa
