/-
  Grammar of the document's builder: the innermost loop, a declaration of its own.
-/
import Derived.Test.YtkbpnafahimeiaaRbGramM
namespace Go.Proofs.Ytkbpnafahimeiaa
open Go.RowKit Go.Maps Go.Shelf

attribute [local go_sem] Oper.semAt_some

/-- The loops of a piece of code, the outer ahead of the inner. -/
def loopsOf : Code → List Code
  | .loop c => .loop c :: loopsOf c
  | .seq a b => loopsOf a ++ loopsOf b
  | .block _ c => loopsOf c
  | .scope c => loopsOf c
  | .cond _ a b => loopsOf a ++ loopsOf b
  | _ => []

noncomputable def rgInner : Code := ((Try.f28.body.map loopsOf).getD []).getD 2 .skip
noncomputable def rgOuter : Code := ((Try.f28.body.map loopsOf).getD []).getD 1 .skip

set_option maxRecDepth 100000 in
set_option maxHeartbeats 4000000 in
theorem rg_inner {Q0 : Exit → Act → World → Prop} {X Z0 : World} {r pb Br nn tn len tc cp : Nat} {ta ap : Option Addr} {lf lev : Int} {f : Int → Int} {rt : List Int}
    {c1 c2 c3 c5 c6 c7 c8 c9 c13 c14 c15 c16 c17 c18 c19 c20 c21 c22 c23 c24 c25 c26 c27 c28 c29 c30 c31 c32 c33 c34 c35 c36 c37 c38 c39 c40 c41 c42 c43 c44 c45 c46 c47 c48 c49 c50 c51 c52 c53 c54 c55 c56 c57 c58 c59 c60 c61 c62 c63 c64 c65 c66 c67 c68 c69 c70 c71 c72 c73 c74 c75 c76 c77 c78 c79 c80 c81 c82 c83 c84 c85 c86 c87 c88 c89 c90 c91 c92 c93 c94 c95 c96 c97 c98 c99 c100 c101 c102 c103 c104 c105 c106 c107 c108 c109 c110 c111 c112 c113 c114 c115 c116 c117 c118 c119 c120 c121 c122 c123 c124 c125 c126 c127 c128 c129 c130 c131 c132 c133 c134 c135 c136 c137 c138 c139 c140 c141 c142 c143 c144 c145 c146 c147 c148 c149 c150 c151 c152 c153 c154 c155 c156 c157 c158 c159 c160 c161 c162 c163 c164 c165 c166 c167 c168 c169 c170 c171 c172 c173 c174 c175 c176 c177 c178 c179 c180 c181 c182 c183 c184 c185 c186 c187 c188 c189 c190 : Value}
    (hlen : rt.length = len) (hll : len ≤ 17592186044416) (htl : tn ≤ 1099511627776) (hnl : nn ≤ 1099511627776)
    (hrow : ∀ Z, X.grownBy Z none → Z.cell? ⟨r, 0, none⟩ = some (.slice ta tn tc))
    (hplace : ∀ y : Nat, y < nn → ∃ sy : Int, (∀ Z, X.grownBy Z none → Z.cell? ⟨pb, y, none⟩ = some (.int .i64 sy)) ∧ (tn : Int) + sy = f (-((y : Int) + 1)) ∧ 0 ≤ sy ∧ sy ≤ 65)
    (hbr : ∀ Z, X.grownBy Z none → Z.cell? ⟨Br, 1, none⟩ = some (.slice ap len cp))
    (hri : ∀ Z, X.grownBy Z none → IntsAt Z ap rt)
    (hpr : ∀ h ∈ rt, (0 < h ∧ h ≤ (tn : Int)) ∨ (h < 0 ∧ -(nn : Int) ≤ h))
    (hf : ∀ h, 0 < h → f h = h)
    (hst : PuAt X Z0 lf [] lev (.slice none 0 0))
    (hexit : ∀ (wz : World) (v u12 u13 u153 u154 u155 u156 u157 u158 u159 u160 u161 u162 u163 u164 u165 u166 u167 u168 u169 u170 u171 u172 u173 u174 u175 u176 u177 u178 u179 u180 u181 u182 u183 : Value), PuAt X wz lf (rt.map f) lev v → Q0 (.exit 4) ⟨List.toArray (.pointer (some ⟨r, 0, none⟩) :: c1 :: c2 :: c3 :: .slice (some ⟨pb, 0, none⟩) nn nn :: c5 :: c6 :: c7 :: c8 :: c9 :: .pointer (some ⟨Br, 0, none⟩) :: .pointer (some ⟨X.heap.size, 0, none⟩) :: u12 :: u13 :: c14 :: c15 :: c16 :: c17 :: c18 :: c19 :: c20 :: c21 :: c22 :: c23 :: c24 :: c25 :: c26 :: c27 :: c28 :: c29 :: c30 :: c31 :: c32 :: c33 :: c34 :: c35 :: c36 :: c37 :: c38 :: c39 :: c40 :: c41 :: c42 :: c43 :: c44 :: c45 :: c46 :: c47 :: c48 :: c49 :: c50 :: c51 :: c52 :: c53 :: c54 :: c55 :: c56 :: c57 :: c58 :: c59 :: c60 :: c61 :: c62 :: c63 :: c64 :: c65 :: c66 :: c67 :: c68 :: c69 :: c70 :: c71 :: c72 :: c73 :: c74 :: c75 :: c76 :: c77 :: c78 :: c79 :: c80 :: c81 :: c82 :: c83 :: c84 :: c85 :: c86 :: c87 :: c88 :: c89 :: c90 :: c91 :: c92 :: c93 :: c94 :: c95 :: c96 :: c97 :: c98 :: c99 :: c100 :: c101 :: c102 :: c103 :: c104 :: c105 :: c106 :: c107 :: c108 :: c109 :: c110 :: c111 :: c112 :: c113 :: c114 :: c115 :: c116 :: c117 :: c118 :: c119 :: c120 :: c121 :: c122 :: c123 :: c124 :: c125 :: c126 :: c127 :: c128 :: c129 :: c130 :: c131 :: c132 :: c133 :: c134 :: c135 :: c136 :: c137 :: c138 :: c139 :: c140 :: c141 :: c142 :: c143 :: c144 :: c145 :: c146 :: c147 :: c148 :: c149 :: c150 :: c151 :: c152 :: u153 :: u154 :: u155 :: u156 :: u157 :: u158 :: u159 :: u160 :: u161 :: u162 :: u163 :: u164 :: u165 :: u166 :: u167 :: u168 :: u169 :: u170 :: u171 :: u172 :: u173 :: u174 :: u175 :: u176 :: u177 :: u178 :: u179 :: u180 :: u181 :: u182 :: u183 :: c184 :: c185 :: c186 :: c187 :: c188 :: c189 :: c190 :: []), []⟩ wz) :
    Code.wp Try.prog rgInner Q0 ⟨List.toArray (.pointer (some ⟨r, 0, none⟩) :: c1 :: c2 :: c3 :: .slice (some ⟨pb, 0, none⟩) nn nn :: c5 :: c6 :: c7 :: c8 :: c9 :: .pointer (some ⟨Br, 0, none⟩) :: .pointer (some ⟨X.heap.size, 0, none⟩) :: .int .i64 0 :: c13 :: c14 :: c15 :: c16 :: c17 :: c18 :: c19 :: c20 :: c21 :: c22 :: c23 :: c24 :: c25 :: c26 :: c27 :: c28 :: c29 :: c30 :: c31 :: c32 :: c33 :: c34 :: c35 :: c36 :: c37 :: c38 :: c39 :: c40 :: c41 :: c42 :: c43 :: c44 :: c45 :: c46 :: c47 :: c48 :: c49 :: c50 :: c51 :: c52 :: c53 :: c54 :: c55 :: c56 :: c57 :: c58 :: c59 :: c60 :: c61 :: c62 :: c63 :: c64 :: c65 :: c66 :: c67 :: c68 :: c69 :: c70 :: c71 :: c72 :: c73 :: c74 :: c75 :: c76 :: c77 :: c78 :: c79 :: c80 :: c81 :: c82 :: c83 :: c84 :: c85 :: c86 :: c87 :: c88 :: c89 :: c90 :: c91 :: c92 :: c93 :: c94 :: c95 :: c96 :: c97 :: c98 :: c99 :: c100 :: c101 :: c102 :: c103 :: c104 :: c105 :: c106 :: c107 :: c108 :: c109 :: c110 :: c111 :: c112 :: c113 :: c114 :: c115 :: c116 :: c117 :: c118 :: c119 :: c120 :: c121 :: c122 :: c123 :: c124 :: c125 :: c126 :: c127 :: c128 :: c129 :: c130 :: c131 :: c132 :: c133 :: c134 :: c135 :: c136 :: c137 :: c138 :: c139 :: c140 :: c141 :: c142 :: c143 :: c144 :: c145 :: c146 :: c147 :: c148 :: c149 :: c150 :: c151 :: c152 :: c153 :: c154 :: c155 :: c156 :: c157 :: c158 :: c159 :: c160 :: c161 :: c162 :: c163 :: c164 :: c165 :: c166 :: c167 :: c168 :: c169 :: c170 :: c171 :: c172 :: c173 :: c174 :: c175 :: c176 :: c177 :: c178 :: c179 :: c180 :: c181 :: c182 :: c183 :: c184 :: c185 :: c186 :: c187 :: c188 :: c189 :: c190 :: []), []⟩ Z0 := by
  have HLE : Hid (rt.length = len) := hlen
  have HROW : Hid (∀ Z, X.grownBy Z none → Z.cell? ⟨r, 0, none⟩ = some (.slice ta tn tc)) := hrow
  have HPLA : Hid (∀ y : Nat, y < nn → ∃ sy : Int, (∀ Z, X.grownBy Z none → Z.cell? ⟨pb, y, none⟩ = some (.int .i64 sy)) ∧ (tn : Int) + sy = f (-((y : Int) + 1)) ∧ 0 ≤ sy ∧ sy ≤ 65) := hplace
  have HBR : Hid (∀ Z, X.grownBy Z none → Z.cell? ⟨Br, 1, none⟩ = some (.slice ap len cp)) := hbr
  have HRI : Hid (∀ Z, X.grownBy Z none → IntsAt Z ap rt) := hri
  have HPR : Hid (∀ h ∈ rt, (0 < h ∧ h ≤ (tn : Int)) ∨ (h < 0 ∧ -(nn : Int) ≤ h)) := hpr
  have HF : Hid (∀ h, 0 < h → f h = h) := hf
  have HPU : Hid (PuAt X Z0 lf ((rt.take 0).map f) lev (.slice none 0 0)) := hst
  clear hlen hrow hplace hbr hri hpr hf hst
  obtain ⟨i0, hi, hz0, hz1, hz2⟩ := info_parts infoInt
  conv => arg 2; whnf
  go_loopg [12] len (fun gx i wz => ∃ (x : Nat) (v : Value), x ≤ len ∧ gx = len - x ∧ i = .int .i64 x ∧ PuAt X wz lf ((rt.take x).map f) lev v)
  case atStart => exact ⟨0, _, Nat.zero_le _, rfl, rfl, HPU.out⟩
  case round =>
    obtain ⟨x, v, hx, hgx, rfl, hU⟩ := hrel
    have HGX2 : Hid (gk = len - x) := hgx
    clear hgx HPU
    have HU : Hid (PuAt X wr lf ((rt.take x).map f) lev v) := hU
    clear hU
    have y1 := HBR.out wr HU.out.grown
    obtain ⟨ra, rcap, hv⟩ := owns_slice HU.out.row
    have hxt : (rt.take x).length = x := by rw [List.length_take]; have := HLE.out; omega
    rw [List.length_map, hxt] at hv
    subst hv
    have HXT : Hid ((rt.take x).length = x) := hxt
    clear hxt
    by_cases hlx : x < len
    · have hxl : x < rt.length := by rw [HLE.out]; exact hlx
      obtain ⟨bl, of2, rfl, hcs⟩ : ∃ b off, ap = some ⟨b, off, none⟩ ∧ ∀ i, i < rt.length → wr.cell? ⟨b, off + i, none⟩ = some (.int .i64 (rt.getD i 0)) := by
        rcases HRI.out wr HU.out.grown with h | h
        · rw [h] at hxl; simp at hxl
        · exact h
      have ch := hcs x hxl
      have hposs := HPR.out (rt.getD x 0) (getD_mem_int hxl)
      have HTKX : Hid (rt.take (x + 1) = rt.take x ++ [rt.getD x 0]) := take_succ_at hxl
      clear hcs hxl
      generalize rt.getD x 0 = h at *
      rcases hposs with hpos | hneg
      · have d9 : decide (h < 0) = false := decide_eq_false (by omega)
        have HSX : Hid (f h = h) := HF.out h hpos.1
        have HUA : Hid (∀ o, PuAt X (wr.alloc o) lf ((rt.take x).map f) lev (.slice ra x rcap)) := fun o => HU.out.kept (World.grownBy_alloc wr o none)
        have z1 := HU.out.cells.2.1
        have z1' := fun o => (HUA.out o).cells.2.1
        have HROWA : Hid (∀ o, (wr.alloc o).ownsRow (X.heap.size + 1) 3 1 (.slice ra x rcap) x (((rt.take x).map f).map (Value.int .i64))) := fun o => by
          have h9 := (HUA.out o).row
          rw [List.length_map, HXT.out] at h9
          exact h9
        have HPUSH : Hid (∀ o w4 g2 c2, (wr.alloc o).grownBy w4 (Value.slice ra x rcap).ownBlock → w4.ownsRow (X.heap.size + 1) 3 1 (.slice (some ⟨g2, 0, none⟩) (x + 1) c2) (x + 1) (((rt.take x).map f).map (Value.int .i64) ++ [.int .i64 h]) →
            PuAt X (w4.setCell ⟨X.heap.size, 1, none⟩ (.slice (some ⟨g2, 0, none⟩) (x + 1) c2)) lf ((rt.take (x + 1)).map f) lev (.slice (some ⟨g2, 0, none⟩) (x + 1) c2) ∧ w4.cell? ⟨X.heap.size, 1, none⟩ = some (.slice ra x rcap) ∧ w4.frozen? ⟨X.heap.size, 1, none⟩ = false) := fun o w4 g2 c2 h1 h2 => by
          have hb := ((HUA.out o).grew h1).1
          refine ⟨?_, by rw [cell_of_row _ _ _ _ _ _ hb]; rfl, frozen_of_row _ _ 1 _ _ hb⟩
          have h9 := (HUA.out o).push (x := h) h1 (by rw [List.length_map, HXT.out]; exact h2)
          rw [HTKX.out, List.map_append, List.map_cons, List.map_nil, HSX.out]
          exact h9
        have hZsz : X.heap.size < wr.heap.size := HU.out.lt
        clear HU HUA
        generalize (((rt.take x).map f).map (Value.int .i64)) = xs at *
        go_wp2_with (at_builtin; refine wpList_append_lies _ rfl _ _ 30 rfl (X.heap.size + 1) 3 i0 (.int .i64 0) 1 8 Try.underlying30 hi hz0 hz1 hz2 rfl (by decide) (.slice ra x rcap) x xs rfl (HROWA.out _) ⟨wr.heap.size, 0, none⟩ 1 1 [.int .i64 h] rfl rfl (cell_one_new _ _ _) (ints_oneCell' [h]) (by omega) (by unfold maxLen; omega) (by omega) (by simp; omega) _ rfl ?_)
        intro g2 c2 w4 hown4 hg4 hloc4 hlt4
        obtain ⟨z0, z2, z3⟩ := HPUSH.out _ _ _ _ hg4 hown4
        have HZ : Hid (PuAt X (w4.setCell ⟨X.heap.size, 1, none⟩ (.slice (some ⟨g2, 0, none⟩) (x + 1) c2)) lf ((rt.take (x + 1)).map f) lev (.slice (some ⟨g2, 0, none⟩) (x + 1) c2)) := z0
        clear z0 z1 z1' hown4 hg4 hloc4 hlt4 HPUSH HROWA
        go_wp2_with fail
        go_roundg (len - (x + 1))
        case measure => have := HGX2.out; omega
        case rel => exact ⟨x + 1, _, by omega, rfl, by go_num, HZ.out⟩
      · obtain ⟨y, rfl⟩ : ∃ y : Nat, h = -((y : Int) + 1) := ⟨(-h - 1).toNat, by omega⟩
        have hyn : y < nn := by omega
        have d9 : decide (-((y : Int) + 1) < 0) = true := decide_eq_true (by omega)
        have e2 : (-1 : Int) - (-((y : Int) + 1)) = (y : Int) := by omega
        obtain ⟨sy, hsc, hs1, hs2, hs3⟩ := HPLA.out y hyn
        have HSX : Hid (f (-((y : Int) + 1)) = (tn : Int) + sy) := hs1.symm
        have p0 := HROW.out _ HU.out.grown
        have p1 := hsc _ HU.out.grown
        clear hs1 hneg hsc
        go_wp2_with fail
        go_quiet (fail)
        have HU2 : Hid (PuAt X (wr.drewN nq) lf ((rt.take x).map f) lev (.slice ra x rcap)) := HU.out.kept (grown_drewN _ _)
        clear HU p0 p1 y1 ch
        generalize wr.drewN nq = Z at *
        have HU : Hid (PuAt X Z lf ((rt.take x).map f) lev (.slice ra x rcap)) := HU2.out
        clear HU2
        have HUA : Hid (∀ o, PuAt X (Z.alloc o) lf ((rt.take x).map f) lev (.slice ra x rcap)) := fun o => HU.out.kept (World.grownBy_alloc Z o none)
        have z1 := HU.out.cells.2.1
        have z1' := fun o => (HUA.out o).cells.2.1
        have HROWA : Hid (∀ o, (Z.alloc o).ownsRow (X.heap.size + 1) 3 1 (.slice ra x rcap) x (((rt.take x).map f).map (Value.int .i64))) := fun o => by
          have h9 := (HUA.out o).row
          rw [List.length_map, HXT.out] at h9
          exact h9
        have HPUSH : Hid (∀ o w4 g2 c2, (Z.alloc o).grownBy w4 (Value.slice ra x rcap).ownBlock → w4.ownsRow (X.heap.size + 1) 3 1 (.slice (some ⟨g2, 0, none⟩) (x + 1) c2) (x + 1) (((rt.take x).map f).map (Value.int .i64) ++ [.int .i64 ((tn : Int) + sy)]) →
            PuAt X (w4.setCell ⟨X.heap.size, 1, none⟩ (.slice (some ⟨g2, 0, none⟩) (x + 1) c2)) lf ((rt.take (x + 1)).map f) lev (.slice (some ⟨g2, 0, none⟩) (x + 1) c2) ∧ w4.cell? ⟨X.heap.size, 1, none⟩ = some (.slice ra x rcap) ∧ w4.frozen? ⟨X.heap.size, 1, none⟩ = false) := fun o w4 g2 c2 h1 h2 => by
          have hb := ((HUA.out o).grew h1).1
          refine ⟨?_, by rw [cell_of_row _ _ _ _ _ _ hb]; rfl, frozen_of_row _ _ 1 _ _ hb⟩
          have h9 := (HUA.out o).push (x := ((tn : Int) + sy)) h1 (by rw [List.length_map, HXT.out]; exact h2)
          rw [HTKX.out, List.map_append, List.map_cons, List.map_nil, HSX.out]
          exact h9
        have hZsz : X.heap.size < Z.heap.size := HU.out.lt
        clear HU HUA
        generalize (((rt.take x).map f).map (Value.int .i64)) = xs at *
        go_wp2_with (at_builtin; refine wpList_append_lies _ rfl _ _ 30 rfl (X.heap.size + 1) 3 i0 (.int .i64 0) 1 8 Try.underlying30 hi hz0 hz1 hz2 rfl (by decide) (.slice ra x rcap) x xs rfl (HROWA.out _) ⟨Z.heap.size, 0, none⟩ 1 1 [.int .i64 ((tn : Int) + sy)] rfl rfl (cell_one_new _ _ _) (ints_oneCell' [((tn : Int) + sy)]) (by omega) (by unfold maxLen; omega) (by omega) (by simp; omega) _ rfl ?_)
        intro g2 c2 w4 hown4 hg4 hloc4 hlt4
        obtain ⟨z0, z2, z3⟩ := HPUSH.out _ _ _ _ hg4 hown4
        have HZ : Hid (PuAt X (w4.setCell ⟨X.heap.size, 1, none⟩ (.slice (some ⟨g2, 0, none⟩) (x + 1) c2)) lf ((rt.take (x + 1)).map f) lev (.slice (some ⟨g2, 0, none⟩) (x + 1) c2)) := z0
        clear z0 z1 z1' hown4 hg4 hloc4 hlt4 HPUSH HROWA
        go_wp2_with fail
        go_roundg (len - (x + 1))
        case measure => have := HGX2.out; omega
        case rel => exact ⟨x + 1, _, by omega, rfl, by go_num, HZ.out⟩
    · have HTA : Hid (rt.take x = rt) := List.take_of_length_le (by have := HLE.out; omega)
      have hxe : x = len := by omega
      have dx : decide ((x : Int) < len) = false := decide_eq_false (by omega)
      have dx' : decide (x < len) = false := decide_eq_false hlx
      have HFIN : Hid (PuAt X wr lf (rt.map f) lev (.slice ra x rcap)) := by
        have h9 := HU.out
        rw [HTA.out] at h9
        exact h9
      clear HU hxe
      go_wp2_with fail
      exact hexit _ _ _ _ _ _ _ _ _ _ _ _ _ _ _ _ _ _ _ _ _ _ _ _ _ _ _ _ _ _ _ _ _ _ _ HFIN.out

end Go.Proofs.Ytkbpnafahimeiaa
