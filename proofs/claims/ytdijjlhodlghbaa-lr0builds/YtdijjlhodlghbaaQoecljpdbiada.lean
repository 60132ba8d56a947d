import Derived.Test.YtdijjlhodlghbaaQlcigljjidkik
import Derived.Test.YtdijjlhodlghbaaQeobbkpnlgmfp
import Derived.Test.YtdijjlhodlghbaaQjlakmkboddkj

/-
  lr0: an automaton that is spoilt, in memory.
-/
namespace Go.Proofs.Ytdijjlhodlghbaa.J
open Go.RowKit Go.Maps Go.Shelf

/-- A row of one's own, whatever it holds. -/
def Like2 (X : World) (B e : Nat) (v : Value) (n : Nat) : Prop := ∃ xs, X.ownsRow B e 2 v n xs
/-- Each block of cells stays one of its type and size. -/
def Sizes (X Y : World) : Prop := ∀ (b : Nat) (cs : Array Value) (e : TypeId), X.heap[b]? = some (.cells cs e (0, 0)) → ∃ cs', Y.heap[b]? = some (.cells cs' e (0, 0)) ∧ cs'.size = cs.size
theorem Sizes.ofG {X Y : World} (h : X.grownBy Y none) : Sizes X Y := fun _ cs _ hb => ⟨cs, box_kept hb h, rfl⟩
theorem Sizes.trans {X Y Z : World} (h : Sizes X Y) (k : Sizes Y Z) : Sizes X Z := fun b cs e hb => by
  obtain ⟨cs1, h1, h2⟩ := h b cs e hb
  obtain ⟨cs2, h3, h4⟩ := k b cs1 e h1
  exact ⟨cs2, h3, h4.trans h2⟩
theorem Sizes.set (X : World) (g o : Nat) (u : Value) : Sizes X (X.setCell ⟨g, o, none⟩ u) := fun b cs e hb => by
  by_cases h : b = g
  · subst h
    exact ⟨_, heap_setCell_same _ _ _ _ _ _ hb, Array.size_setIfInBounds⟩
  · have hg : X.grownBy (X.setCell ⟨g, o, none⟩ u) (some g) := grown_setCell _ _ _
    exact ⟨cs, (hg.block b (Array.getElem?_eq_some_iff.1 hb).1 (by simpa using h)).trans hb, rfl⟩
theorem Like2.sized {X Y : World} {B e n : Nat} {v : Value} (h : Like2 X B e v n) (hs : Sizes X Y) : Like2 Y B e v n := by
  obtain ⟨xs, h1, h2⟩ := h
  rcases h2 with ⟨rfl, rfl⟩ | ⟨g, cap, cur, rfl, hB, hh, h3, h4, h5, h6⟩
  · exact ⟨xs, h1, .inl ⟨rfl, rfl⟩⟩
  · obtain ⟨cur', h7, h8⟩ := hs g cur e hh
    refine ⟨cur'.toList.take (n * 2), ?_, .inr ⟨g, cap, cur', rfl, hB, h7, h3, h4, by rw [h8]; exact h5, rfl⟩⟩
    have h9 : n * 2 ≤ cap * 2 := Nat.mul_le_mul_right _ h3
    rw [List.length_take, Array.length_toList, h8, h5]
    omega
theorem Like2.at {X : World} {B e n i : Nat} {v : Value} (h : Like2 X B e v n) (hi : i < n) : ∃ g c u0 u1 cur, v = .slice (some ⟨g, 0, none⟩) n c ∧ B ≤ g ∧ X.cell? ⟨g, i * 2, none⟩ = some u0 ∧ X.cell? ⟨g, i * 2 + 1, none⟩ = some u1 ∧ (∀ o, X.frozen? ⟨g, o, none⟩ = false) ∧ X.heap[g]? = some (.cells cur e (0, 0)) := by
  obtain ⟨xs, h1, h2⟩ := h
  rcases h2 with ⟨rfl, rfl⟩ | ⟨g, cap, cur, rfl, hB, hh, h3, h4, h5, h6⟩
  · omega
  · refine ⟨g, cap, cur[i * 2]'(by omega), cur[i * 2 + 1]'(by omega), cur, rfl, hB, ?_, ?_, fun o => frozen_of_row _ _ _ _ _ hh, hh⟩
    · rw [cell_of_row _ _ _ _ _ _ hh, Array.getElem?_eq_getElem]
    · rw [cell_of_row _ _ _ _ _ _ hh, Array.getElem?_eq_getElem]
theorem Like2.cut {X : World} {B e n : Nat} {v : Value} (h : Like2 X B e v n) : ∃ a c, v = .slice a n c := by
  obtain ⟨xs, h1⟩ := h
  exact owns_cut h1

section
variable {P : Program} (w : World)
theorem run_append_like (t ty : TypeId) (base : Nat) (e : TypeId) (i : TypeInfo) (z : Value) (size bytes : Nat) (ht : P.underlying t = some (.slice e)) (hi : P.info? e = some i) (hz : i.zero = some z)
    (hsize : i.size = size) (hby : i.bytes = bytes) (hzs : z.cells.size = size) (hsz : 0 < size)
    (v : Value) (n : Nat) (xs : List Value) (hown : w.ownsRow base e size v n xs)
    (ad : Addr) (m c : Nat) (news : List Value) (hl : news.length = m * size) (hnews : ∀ j u, news[j]? = some u → w.cell? (ad.add j) = some u) (h1 : ∀ u ∈ news, u.oneCell' = true)
    (h63 : n + m ≤ maxLen) (hbytes : ((n + m) + (n + m) / 4 + 192) * bytes ≤ 281474976710656) (hbase : base ≤ w.heap.size) :
    ∃ a' c' w', (Builtin.append_ #[t, t] ty #[v, .slice (some ad) m c]).run P w = .ok (.slice a' (n + m) c') w' ∧ w.grownBy w' v.ownBlock ∧ Sizes w w' := by
  obtain ⟨v', w', hr, h2, h3, _⟩ := run_append_own_wide (P := P) w base t ty e i z size bytes ht hi hz hsize hby hzs hsz v n xs hown ad m c news hl hnews h1 h63 hbytes hbase
  obtain ⟨a', c', rfl⟩ := owns_cut h2
  refine ⟨a', c', w', hr, h3, ?_⟩
  subst hsize
  subst hby
  rcases hown.2 with ⟨rfl, rfl⟩ | ⟨g', cap', cur, rfl, hbg, hg, hnc, hcm, hcs, htake⟩
  · exact Sizes.ofG h3
  · by_cases hroom : n + m ≤ cap'
    · have hfit : n * i.size + news.length ≤ cur.size := by rw [hl, hcs, ← Nat.add_mul]; exact Nat.mul_le_mul_right _ hroom
      have hr2 := run_append_room (P := P) w t ty e i ht hi g' n cap' cur hg ad m c news hl hnews h1 hroom hfit
      rw [hr] at hr2
      simp only [Result.ok.injEq] at hr2
      obtain ⟨_, rfl⟩ := hr2
      intro b cs e2 hb
      by_cases eb : b = g'
      · subst eb
        rw [hg] at hb
        simp only [Option.some.injEq, Obj.cells.injEq] at hb
        obtain ⟨rfl, rfl, _⟩ := hb
        refine ⟨_, setRow_heap w b cur _ _ _ hg, ?_⟩
        simp only [List.size_toArray, List.length_append, List.length_take, List.length_drop, Array.length_toList]
        omega
      · refine ⟨cs, (h3.block b (Array.getElem?_eq_some_iff.1 hb).1 ?_).trans hb, rfl⟩
        simpa [Value.ownBlock] using eb
    · have holds : ∀ j u, xs[j]? = some u → w.cell? ((⟨g', 0, none⟩ : Addr).add j) = some u := hown.cells (g := g') rfl
      have hr2 := run_append_grow (P := P) w t ty e i z ht hi hz ⟨g', 0, none⟩ n cap' xs hown.1 holds ad m c news hl hnews (by omega) (by simp only [maxLen] at h63; omega) (growslice_fits_wide (by omega) hbytes)
      rw [hr] at hr2
      simp only [Result.ok.injEq] at hr2
      obtain ⟨_, rfl⟩ := hr2
      exact Sizes.ofG ⟨rfl, rfl, rfl, by simp, fun k hk _ => Go.heap_alloc_old w.drew _ hk⟩

theorem step_append_like {ops : Array Oper} {o : Oper} {a : Act} {K : Act → World → Prop} {Q : Exit → Act → World → Prop} {E : Prop} (hgd : o.guard = none) (s x : Operand) (t : TypeId)
    (ho : o.op = .call { callee := .builtin .append, args := #[s, x], argTypes := #[t, t] })
    (base : Nat) (e : TypeId) (i : TypeInfo) (z : Value) (size bytes : Nat) (ht : P.underlying t = some (.slice e)) (hi : P.info? e = some i) (hz : i.zero = some z)
    (hsize : i.size = size) (hby : i.bytes = bytes) (hzs : z.cells.size = size) (hsz : 0 < size)
    (v : Value) (n : Nat) (xs : List Value) (hs : a.eval s = v) (hown : w.ownsRow base e size v n xs)
    (ad : Addr) (m c : Nat) (news : List Value) (hx : a.eval x = .slice (some ad) m c) (hl : news.length = m * size) (hnews : ∀ j u, news[j]? = some u → w.cell? (ad.add j) = some u) (h1 : ∀ u ∈ news, u.oneCell' = true)
    (h63 : n + m ≤ maxLen) (hbytes : ((n + m) + (n + m) / 4 + 192) * bytes ≤ 281474976710656) (hbase : base ≤ w.heap.size)
    (h : ∀ a' c' w', w.grownBy w' v.ownBlock → Sizes w w' → K (a.put o.dst (.slice a' (n + m) c')) w') :
    if Region.wanted o (yielded ops a.tmps) = true then Oper.wp P o a w K Q else E := by
  have hw : Region.wanted o (yielded ops a.tmps) = true := by simp [Region.wanted, hgd]
  rw [if_pos hw]
  obtain ⟨a', c', w', hr, h2, h3⟩ := run_append_like (P := P) w t o.type base e i z size bytes ht hi hz hsize hby hzs hsz v n xs hown ad m c news hl hnews h1 h63 hbytes hbase
  unfold Oper.wp execOp
  simp only [ho, resolve, invoke, builtin, Sem.run_bind, Sem.run_pure, Result.andThen_ok, List.map_toArray, List.map_cons, List.map_nil, hs, hx, hr]
  exact h a' c' w' h2 h3
end

theorem spoil_other {X Y : World} {b r : Nat} {cs cs' : Array Value} {t t' : TypeId} (h : X.heap[b]? = some (.cells cs t (0, 0))) (hr : X.heap[r]? = some (.cells cs' t' (0, 0))) (ht : t ≠ t') (hg : X.grownBy Y (some r)) : Y.heap[b]? = some (.cells cs t (0, 0)) := by
  refine (hg.block b (Array.getElem?_eq_some_iff.1 h).1 ?_).trans h
  intro e
  have e2 : b = r := by simpa using e
  subst e2
  rw [h] at hr
  simp only [Option.some.injEq, Obj.cells.injEq] at hr
  exact ht hr.2.1
/-- An automaton while it is spoilt: of the states from ik on the kernels, from ie on the edges, lie as they lay. -/
structure SpAt (w0 X : World) (ab : Nat) (bc : Array Value) (B sb N ik ie : Nat) (kv ev : Nat → Value) (kn en : Nat → Nat) (cur : Array Value) : Prop where
  grown : w0.grownBy X none
  blk : X.heap[sb]? = some (.cells cur 53 (0, 0))
  atK : ∀ j, ik ≤ j → j < N → cur[j * 2]? = some (kv j)
  atE : ∀ j, ie ≤ j → j < N → cur[j * 2 + 1]? = some (ev j)
  ker : ∀ j, ik ≤ j → j < N → Like2 X B 49 (kv j) (kn j)
  edg : ∀ j, ie ≤ j → j < N → Like2 X B 59 (ev j) (en j)
  lo : w0.heap.size ≤ B ∧ B ≤ sb
  box : X.heap[ab]? = some (.cells bc 32 (0, 0))
section
variable {w0 X Y : World} {ab : Nat} {bc : Array Value} {B sb N ik ie : Nat} {kv ev : Nat → Value} {kn en : Nat → Nat} {cur : Array Value}
/-- A block of another type than State, from B on, is turned, its size kept. -/
theorem SpAt.turn {g : Nat} {cs : Array Value} {t : TypeId} (h : SpAt w0 X ab bc B sb N ik ie kv ev kn en cur) (hg : X.grownBy Y (some g)) (hs : Sizes X Y) (hb : X.heap[g]? = some (.cells cs t (0, 0))) (ht : t ≠ 53) (ht2 : t ≠ 32) (hB : B ≤ g) : SpAt w0 Y ab bc B sb N ik ie kv ev kn en cur := by
  refine ⟨grown_new h.grown hg (Nat.le_trans h.lo.1 hB), ?_, h.atK, h.atE, fun j h1 h2 => (h.ker j h1 h2).sized hs, fun j h1 h2 => (h.edg j h1 h2).sized hs, h.lo, spoil_other h.box hb (fun e => ht2 e.symm) hg⟩
  refine (hg.block sb (Array.getElem?_eq_some_iff.1 h.blk).1 ?_).trans h.blk
  intro e
  have e2 : sb = g := by simpa using e
  subst e2
  rw [h.blk] at hb
  simp only [Option.some.injEq, Obj.cells.injEq] at hb
  exact ht hb.2.1.symm
theorem SpAt.kept (h : SpAt w0 X ab bc B sb N ik ie kv ev kn en cur) (hg : X.grownBy Y none) : SpAt w0 Y ab bc B sb N ik ie kv ev kn en cur :=
  ⟨grown_trans h.grown hg, box_kept h.blk hg, h.atK, h.atE, fun j h1 h2 => (h.ker j h1 h2).sized (.ofG hg), fun j h1 h2 => (h.edg j h1 h2).sized (.ofG hg), h.lo, box_kept h.box hg⟩
/-- A row of another type is appended to. -/
theorem SpAt.more {e n : Nat} {v : Value} {xs : List Value} (h : SpAt w0 X ab bc B sb N ik ie kv ev kn en cur) (ho : X.ownsRow B e 2 v n xs) (he : e ≠ 53) (he2 : e ≠ 32) (hg : X.grownBy Y v.ownBlock) (hs : Sizes X Y) : SpAt w0 Y ab bc B sb N ik ie kv ev kn en cur := by
  rcases ho.2 with ⟨rfl, _⟩ | ⟨g, cap, c2, rfl, hB, hh, _⟩
  · exact h.kept hg
  · exact h.turn (g := g) hg hs hh he he2 hB
theorem SpAt.cellK {i : Nat} (h : SpAt w0 X ab bc B sb N ik ie kv ev kn en cur) (h1 : ik ≤ i) (h2 : i < N) : X.cell? ⟨sb, i * 2, none⟩ = some (kv i) := by rw [cell_of_row _ _ _ _ _ _ h.blk]; exact h.atK i h1 h2
theorem SpAt.cellE {i : Nat} (h : SpAt w0 X ab bc B sb N ik ie kv ev kn en cur) (h1 : ie ≤ i) (h2 : i < N) : X.cell? ⟨sb, i * 2 + 1, none⟩ = some (ev i) := by rw [cell_of_row _ _ _ _ _ _ h.blk]; exact h.atE i h1 h2
theorem SpAt.free (h : SpAt w0 X ab bc B sb N ik ie kv ev kn en cur) (o : Nat) : X.frozen? ⟨sb, o, none⟩ = false := frozen_of_row _ _ _ _ _ h.blk
theorem SpAt.setK {i : Nat} {v : Value} (h : SpAt w0 X ab bc B sb N i ie kv ev kn en cur) : SpAt w0 (X.setCell ⟨sb, i * 2, none⟩ v) ab bc B sb N (i + 1) ie kv ev kn en (cur.setIfInBounds (i * 2) v) := by
  refine ⟨grown_new h.grown (grown_setCell _ _ _) (Nat.le_trans h.lo.1 h.lo.2), heap_setCell_same _ _ _ _ _ _ h.blk, fun j h1 h2 => ?_, fun j h1 h2 => ?_, fun j h1 h2 => (h.ker j (by omega) h2).sized (.set _ _ _ _), fun j h1 h2 => (h.edg j h1 h2).sized (.set _ _ _ _), h.lo, spoil_other h.box h.blk (by decide) (grown_setCell _ _ _)⟩
  · rw [Array.getElem?_setIfInBounds_ne (by omega)]; exact h.atK j (by omega) h2
  · rw [Array.getElem?_setIfInBounds_ne (by omega)]; exact h.atE j h1 h2
theorem SpAt.setE {i : Nat} {v : Value} (h : SpAt w0 X ab bc B sb N ik i kv ev kn en cur) : SpAt w0 (X.setCell ⟨sb, i * 2 + 1, none⟩ v) ab bc B sb N ik (i + 1) kv ev kn en (cur.setIfInBounds (i * 2 + 1) v) := by
  refine ⟨grown_new h.grown (grown_setCell _ _ _) (Nat.le_trans h.lo.1 h.lo.2), heap_setCell_same _ _ _ _ _ _ h.blk, fun j h1 h2 => ?_, fun j h1 h2 => ?_, fun j h1 h2 => (h.ker j h1 h2).sized (.set _ _ _ _), fun j h1 h2 => (h.edg j (by omega) h2).sized (.set _ _ _ _), h.lo, spoil_other h.box h.blk (by decide) (grown_setCell _ _ _)⟩
  · rw [Array.getElem?_setIfInBounds_ne (by omega)]; exact h.atK j h1 h2
  · rw [Array.getElem?_setIfInBounds_ne (by omega)]; exact h.atE j (by omega) h2
/-- Two cells of a row are written over. -/
theorem SpAt.over {g o1 o2 : Nat} {u1 u2 : Value} {cs : Array Value} {t : TypeId} (h : SpAt w0 X ab bc B sb N ik ie kv ev kn en cur) (hb : X.heap[g]? = some (.cells cs t (0, 0))) (ht : t ≠ 53) (ht2 : t ≠ 32) (hB : B ≤ g) : SpAt w0 ((X.setCell ⟨g, o1, none⟩ u1).setCell ⟨g, o2, none⟩ u2) ab bc B sb N ik ie kv ev kn en cur :=
  (h.turn (grown_setCell _ _ _) (.set _ _ _ _) hb ht ht2 hB).turn (grown_setCell _ _ _) (.set _ _ _ _) (heap_setCell_same _ _ _ _ _ _ hb) ht ht2 hB
end

end Go.Proofs.Ytdijjlhodlghbaa.J

/-
  lr0: spoil's two appends, declarations of their own (printed by tools/spoilgen.py).
-/
namespace Go.Proofs.Ytdijjlhodlghbaa.J
open Go.RowKit Go.Maps Go.Shelf

attribute [local go_sem] Oper.semAt_some

noncomputable def sp_kerC : Code := ((Try.f14.body.map (regionsJ 12)).getD []).getD 0 .skip

set_option maxRecDepth 100000 in
set_option maxHeartbeats 8000000 in
theorem sp_ker {K : Act → World → Prop} {Z : World} {B ab sb N sc i kq kc : Nat} {ka : Option Addr} {xs : List Value}
    {v0 v3 v4 v5 v6 v7 v8 v9 v10 v11 v12 v13 v14 v15 v16 v17 v18 v19 v20 v21 v22 v23 v24 v25 v26 v27 v28 v29 v30 v31 v32 v33 v34 v35 v36 v37 v38 v39 v40 v41 v42 v43 v44 v45 v46 v47 v48 v49 v50 v51 v52 v53 v54 v55 v56 v57 v58 v59 v60 v61 v62 v63 v64 v65 v66 v67 v68 v69 v70 v71 v72 v73 v74 v75 v76 v77 v78 v79 v80 v81 v82 v83 : Value}
    (x1 : Z.cell? ⟨ab, 0, none⟩ = some (.slice (some ⟨sb, 0, none⟩) N sc)) (x2 : Z.cell? ⟨sb, i * 2, none⟩ = some (.slice ka kq kc))
    (x3 : ∀ o, (Z.alloc o).cell? ⟨ab, 0, none⟩ = some (.slice (some ⟨sb, 0, none⟩) N sc)) (x4 : ∀ o, (Z.alloc o).cell? ⟨sb, i * 2, none⟩ = some (.slice ka kq kc))
    (hiN : (i : Int) < (N : Int)) (hkq : kq ≤ 100000000)
    (hOW : ∀ Y, Z.grownBy Y none → Y.ownsRow B 49 2 (.slice ka kq kc) kq xs) (hBS : ∀ Y, Z.grownBy Y none → B ≤ Y.heap.size)
    (hfin : ∀ (Y V : World) (a' : Option Addr) (c' : Nat), Z.grownBy Y none → Y.grownBy V (Value.slice ka kq kc).ownBlock → Sizes Y V → V.cell? ⟨sb, i * 2, none⟩ = some (.slice ka kq kc) ∧ V.frozen? ⟨sb, i * 2, none⟩ = false ∧ V.cell? ⟨ab, 0, none⟩ = some (.slice (some ⟨sb, 0, none⟩) N sc) ∧ ∀ u56 u57 u58 u59 u60 u61 u62 u63 u64 u65 u66 u67 u68 u69 : Value, K ⟨List.toArray (v0 :: .pointer (some ⟨ab, 0, none⟩) :: .int .i64 (i : Int) :: v3 :: v4 :: v5 :: v6 :: v7 :: v8 :: v9 :: v10 :: v11 :: v12 :: v13 :: v14 :: v15 :: v16 :: v17 :: v18 :: v19 :: v20 :: v21 :: v22 :: v23 :: v24 :: v25 :: v26 :: v27 :: v28 :: v29 :: v30 :: v31 :: v32 :: v33 :: v34 :: v35 :: v36 :: v37 :: v38 :: v39 :: v40 :: v41 :: v42 :: v43 :: v44 :: v45 :: v46 :: v47 :: v48 :: v49 :: v50 :: v51 :: v52 :: v53 :: v54 :: v55 :: u56 :: u57 :: u58 :: u59 :: u60 :: u61 :: u62 :: u63 :: u64 :: u65 :: u66 :: u67 :: u68 :: u69 :: v70 :: v71 :: v72 :: v73 :: v74 :: v75 :: v76 :: v77 :: v78 :: v79 :: v80 :: v81 :: v82 :: v83 :: []), []⟩ (V.setCell ⟨sb, i * 2, none⟩ (.slice a' (kq + 1) c'))) :
    Code.wp Try.prog sp_kerC (OnEndJ K) ⟨List.toArray (v0 :: .pointer (some ⟨ab, 0, none⟩) :: .int .i64 (i : Int) :: v3 :: v4 :: v5 :: v6 :: v7 :: v8 :: v9 :: v10 :: v11 :: v12 :: v13 :: v14 :: v15 :: v16 :: v17 :: v18 :: v19 :: v20 :: v21 :: v22 :: v23 :: v24 :: v25 :: v26 :: v27 :: v28 :: v29 :: v30 :: v31 :: v32 :: v33 :: v34 :: v35 :: v36 :: v37 :: v38 :: v39 :: v40 :: v41 :: v42 :: v43 :: v44 :: v45 :: v46 :: v47 :: v48 :: v49 :: v50 :: v51 :: v52 :: v53 :: v54 :: v55 :: v56 :: v57 :: v58 :: v59 :: v60 :: v61 :: v62 :: v63 :: v64 :: v65 :: v66 :: v67 :: v68 :: v69 :: v70 :: v71 :: v72 :: v73 :: v74 :: v75 :: v76 :: v77 :: v78 :: v79 :: v80 :: v81 :: v82 :: v83 :: []), []⟩ Z := by
  obtain ⟨i3, hi3, hv0, hv1, hv2⟩ := info_parts infoItem
  have HOW : Hid (∀ Y, Z.grownBy Y none → Y.ownsRow B 49 2 (.slice ka kq kc) kq xs) := hOW
  have HPS : Hid (∀ Y, Z.grownBy Y none → B ≤ Y.heap.size) := hBS
  have HFIN := show Hid _ from hfin
  have hi0 : (0 : Int) ≤ (i : Int) := by omega
  clear hOW hBS hfin
  conv => arg 2; whnf
  go_region_law (first
    | (refine step_append_like _ rfl (.tmp 64) (.tmp 66) 40 rfl B 49 i3 (.agg #[.int .i64 0, .int .i64 0]) 2 16 Try.underlying40 hi3 hv0 hv1 hv2 rfl (by decide) (.slice ka kq kc) kq xs (by simp [Act.eval]) (HOW.out _ (grown_trans (World.grownBy_alloc _ _ none) (grown_drewN _ 1))) ⟨Z.heap.size, 0, none⟩ 1 1 [.int .i64 (-8), .int .i64 0] (by simp [Act.eval]) rfl (World.news_of_block (heap_alloc_last Z _)) (by simp [Value.oneCell']) (by unfold maxLen; omega) (by omega) (HPS.out _ (grown_trans (World.grownBy_alloc _ _ none) (grown_drewN _ 1))) ?_; intro a7 c7 wC hgC hsC; obtain ⟨q2, q3, q4, q1⟩ := HFIN.out _ wC a7 c7 (grown_trans (World.grownBy_alloc _ _ none) (grown_drewN _ 1)) hgC hsC; have HQ9 := show Hid _ from q1; clear q1 hgC hsC)
    | fail)
  all_goals exact HQ9.out _ _ _ _ _ _ _ _ _ _ _ _ _ _

theorem sp_kerq {Q0 : Exit → Act → World → Prop} {Z : World} {B ab sb N sc i kq kc : Nat} {ka : Option Addr} {xs : List Value}
    {v0 v3 v4 v5 v6 v7 v8 v9 v10 v11 v12 v13 v14 v15 v16 v17 v18 v19 v20 v21 v22 v23 v24 v25 v26 v27 v28 v29 v30 v31 v32 v33 v34 v35 v36 v37 v38 v39 v40 v41 v42 v43 v44 v45 v46 v47 v48 v49 v50 v51 v52 v53 v54 v55 v56 v57 v58 v59 v60 v61 v62 v63 v64 v65 v66 v67 v68 v69 v70 v71 v72 v73 v74 v75 v76 v77 v78 v79 v80 v81 v82 v83 : Value}
    (x1 : Z.cell? ⟨ab, 0, none⟩ = some (.slice (some ⟨sb, 0, none⟩) N sc)) (x2 : Z.cell? ⟨sb, i * 2, none⟩ = some (.slice ka kq kc))
    (x3 : ∀ o, (Z.alloc o).cell? ⟨ab, 0, none⟩ = some (.slice (some ⟨sb, 0, none⟩) N sc)) (x4 : ∀ o, (Z.alloc o).cell? ⟨sb, i * 2, none⟩ = some (.slice ka kq kc))
    (hiN : (i : Int) < (N : Int)) (hkq : kq ≤ 100000000)
    (hOW : ∀ Y, Z.grownBy Y none → Y.ownsRow B 49 2 (.slice ka kq kc) kq xs) (hBS : ∀ Y, Z.grownBy Y none → B ≤ Y.heap.size)
    (hfin : ∀ (Y V : World) (a' : Option Addr) (c' : Nat), Z.grownBy Y none → Y.grownBy V (Value.slice ka kq kc).ownBlock → Sizes Y V → V.cell? ⟨sb, i * 2, none⟩ = some (.slice ka kq kc) ∧ V.frozen? ⟨sb, i * 2, none⟩ = false ∧ V.cell? ⟨ab, 0, none⟩ = some (.slice (some ⟨sb, 0, none⟩) N sc) ∧ ∀ u56 u57 u58 u59 u60 u61 u62 u63 u64 u65 u66 u67 u68 u69 : Value, Q0 .normal ⟨List.toArray (v0 :: .pointer (some ⟨ab, 0, none⟩) :: .int .i64 (i : Int) :: v3 :: v4 :: v5 :: v6 :: v7 :: v8 :: v9 :: v10 :: v11 :: v12 :: v13 :: v14 :: v15 :: v16 :: v17 :: v18 :: v19 :: v20 :: v21 :: v22 :: v23 :: v24 :: v25 :: v26 :: v27 :: v28 :: v29 :: v30 :: v31 :: v32 :: v33 :: v34 :: v35 :: v36 :: v37 :: v38 :: v39 :: v40 :: v41 :: v42 :: v43 :: v44 :: v45 :: v46 :: v47 :: v48 :: v49 :: v50 :: v51 :: v52 :: v53 :: v54 :: v55 :: u56 :: u57 :: u58 :: u59 :: u60 :: u61 :: u62 :: u63 :: u64 :: u65 :: u66 :: u67 :: u68 :: u69 :: v70 :: v71 :: v72 :: v73 :: v74 :: v75 :: v76 :: v77 :: v78 :: v79 :: v80 :: v81 :: v82 :: v83 :: []), []⟩ (V.setCell ⟨sb, i * 2, none⟩ (.slice a' (kq + 1) c'))) :
    Code.wp Try.prog sp_kerC Q0 ⟨List.toArray (v0 :: .pointer (some ⟨ab, 0, none⟩) :: .int .i64 (i : Int) :: v3 :: v4 :: v5 :: v6 :: v7 :: v8 :: v9 :: v10 :: v11 :: v12 :: v13 :: v14 :: v15 :: v16 :: v17 :: v18 :: v19 :: v20 :: v21 :: v22 :: v23 :: v24 :: v25 :: v26 :: v27 :: v28 :: v29 :: v30 :: v31 :: v32 :: v33 :: v34 :: v35 :: v36 :: v37 :: v38 :: v39 :: v40 :: v41 :: v42 :: v43 :: v44 :: v45 :: v46 :: v47 :: v48 :: v49 :: v50 :: v51 :: v52 :: v53 :: v54 :: v55 :: v56 :: v57 :: v58 :: v59 :: v60 :: v61 :: v62 :: v63 :: v64 :: v65 :: v66 :: v67 :: v68 :: v69 :: v70 :: v71 :: v72 :: v73 :: v74 :: v75 :: v76 :: v77 :: v78 :: v79 :: v80 :: v81 :: v82 :: v83 :: []), []⟩ Z :=
  wp_mono (sp_ker (K := fun a w => Q0 .normal a w) x1 x2 x3 x4 hiN hkq hOW hBS hfin) fun e a w h => by
    cases e <;> first | exact h | exact h.elim

noncomputable def sp_edgC : Code := ((Try.f14.body.map (regionsJ 13)).getD []).getD 0 .skip

set_option maxRecDepth 100000 in
set_option maxHeartbeats 8000000 in
theorem sp_edg {K : Act → World → Prop} {Z : World} {B ab sb N sc i kq kc : Nat} {ka : Option Addr} {xs : List Value}
    {v0 v3 v4 v5 v6 v7 v8 v9 v10 v11 v12 v13 v14 v15 v16 v17 v18 v19 v20 v21 v22 v23 v24 v25 v26 v27 v28 v29 v30 v31 v32 v33 v34 v35 v36 v37 v38 v39 v40 v41 v42 v43 v44 v45 v46 v47 v48 v49 v50 v51 v52 v53 v54 v55 v56 v57 v58 v59 v60 v61 v62 v63 v64 v65 v66 v67 v68 v69 v70 v71 v72 v73 v74 v75 v76 v77 v78 v79 v80 v81 v82 v83 : Value}
    (x1 : Z.cell? ⟨ab, 0, none⟩ = some (.slice (some ⟨sb, 0, none⟩) N sc)) (x2 : Z.cell? ⟨sb, i * 2 + 1, none⟩ = some (.slice ka kq kc))
    (x3 : ∀ o, (Z.alloc o).cell? ⟨ab, 0, none⟩ = some (.slice (some ⟨sb, 0, none⟩) N sc)) (x4 : ∀ o, (Z.alloc o).cell? ⟨sb, i * 2 + 1, none⟩ = some (.slice ka kq kc))
    (hiN : (i : Int) < (N : Int)) (hkq : kq ≤ 100000000)
    (hOW : ∀ Y, Z.grownBy Y none → Y.ownsRow B 59 2 (.slice ka kq kc) kq xs) (hBS : ∀ Y, Z.grownBy Y none → B ≤ Y.heap.size)
    (hfin : ∀ (Y V : World) (a' : Option Addr) (c' : Nat), Z.grownBy Y none → Y.grownBy V (Value.slice ka kq kc).ownBlock → Sizes Y V → V.cell? ⟨sb, i * 2 + 1, none⟩ = some (.slice ka kq kc) ∧ V.frozen? ⟨sb, i * 2 + 1, none⟩ = false ∧ V.cell? ⟨ab, 0, none⟩ = some (.slice (some ⟨sb, 0, none⟩) N sc) ∧ ∀ u70 u71 u72 u73 u74 u75 u76 u77 u78 u79 u80 u81 u82 u83 : Value, K ⟨List.toArray (v0 :: .pointer (some ⟨ab, 0, none⟩) :: .int .i64 (i : Int) :: v3 :: v4 :: v5 :: v6 :: v7 :: v8 :: v9 :: v10 :: v11 :: v12 :: v13 :: v14 :: v15 :: v16 :: v17 :: v18 :: v19 :: v20 :: v21 :: v22 :: v23 :: v24 :: v25 :: v26 :: v27 :: v28 :: v29 :: v30 :: v31 :: v32 :: v33 :: v34 :: v35 :: v36 :: v37 :: v38 :: v39 :: v40 :: v41 :: v42 :: v43 :: v44 :: v45 :: v46 :: v47 :: v48 :: v49 :: v50 :: v51 :: v52 :: v53 :: v54 :: v55 :: v56 :: v57 :: v58 :: v59 :: v60 :: v61 :: v62 :: v63 :: v64 :: v65 :: v66 :: v67 :: v68 :: v69 :: u70 :: u71 :: u72 :: u73 :: u74 :: u75 :: u76 :: u77 :: u78 :: u79 :: u80 :: u81 :: u82 :: u83 :: []), []⟩ (V.setCell ⟨sb, i * 2 + 1, none⟩ (.slice a' (kq + 1) c'))) :
    Code.wp Try.prog sp_edgC (OnEndJ K) ⟨List.toArray (v0 :: .pointer (some ⟨ab, 0, none⟩) :: .int .i64 (i : Int) :: v3 :: v4 :: v5 :: v6 :: v7 :: v8 :: v9 :: v10 :: v11 :: v12 :: v13 :: v14 :: v15 :: v16 :: v17 :: v18 :: v19 :: v20 :: v21 :: v22 :: v23 :: v24 :: v25 :: v26 :: v27 :: v28 :: v29 :: v30 :: v31 :: v32 :: v33 :: v34 :: v35 :: v36 :: v37 :: v38 :: v39 :: v40 :: v41 :: v42 :: v43 :: v44 :: v45 :: v46 :: v47 :: v48 :: v49 :: v50 :: v51 :: v52 :: v53 :: v54 :: v55 :: v56 :: v57 :: v58 :: v59 :: v60 :: v61 :: v62 :: v63 :: v64 :: v65 :: v66 :: v67 :: v68 :: v69 :: v70 :: v71 :: v72 :: v73 :: v74 :: v75 :: v76 :: v77 :: v78 :: v79 :: v80 :: v81 :: v82 :: v83 :: []), []⟩ Z := by
  obtain ⟨i3, hi3, hv0, hv1, hv2⟩ := info_parts infoEdge
  have HOW : Hid (∀ Y, Z.grownBy Y none → Y.ownsRow B 59 2 (.slice ka kq kc) kq xs) := hOW
  have HPS : Hid (∀ Y, Z.grownBy Y none → B ≤ Y.heap.size) := hBS
  have HFIN := show Hid _ from hfin
  have hi0 : (0 : Int) ≤ (i : Int) := by omega
  clear hOW hBS hfin
  conv => arg 2; whnf
  go_region_law (first
    | (refine step_append_like _ rfl (.tmp 78) (.tmp 80) 51 rfl B 59 i3 (.agg #[.int .i64 0, .int .i64 0]) 2 16 Try.underlying51 hi3 hv0 hv1 hv2 rfl (by decide) (.slice ka kq kc) kq xs (by simp [Act.eval]) (HOW.out _ (grown_trans (World.grownBy_alloc _ _ none) (grown_drewN _ 1))) ⟨Z.heap.size, 0, none⟩ 1 1 [.int .i64 (-8), .int .i64 0] (by simp [Act.eval]) rfl (World.news_of_block (heap_alloc_last Z _)) (by simp [Value.oneCell']) (by unfold maxLen; omega) (by omega) (HPS.out _ (grown_trans (World.grownBy_alloc _ _ none) (grown_drewN _ 1))) ?_; intro a7 c7 wC hgC hsC; obtain ⟨q2, q3, q4, q1⟩ := HFIN.out _ wC a7 c7 (grown_trans (World.grownBy_alloc _ _ none) (grown_drewN _ 1)) hgC hsC; have HQ9 := show Hid _ from q1; clear q1 hgC hsC)
    | fail)
  all_goals exact HQ9.out _ _ _ _ _ _ _ _ _ _ _ _ _ _

theorem sp_edgq {Q0 : Exit → Act → World → Prop} {Z : World} {B ab sb N sc i kq kc : Nat} {ka : Option Addr} {xs : List Value}
    {v0 v3 v4 v5 v6 v7 v8 v9 v10 v11 v12 v13 v14 v15 v16 v17 v18 v19 v20 v21 v22 v23 v24 v25 v26 v27 v28 v29 v30 v31 v32 v33 v34 v35 v36 v37 v38 v39 v40 v41 v42 v43 v44 v45 v46 v47 v48 v49 v50 v51 v52 v53 v54 v55 v56 v57 v58 v59 v60 v61 v62 v63 v64 v65 v66 v67 v68 v69 v70 v71 v72 v73 v74 v75 v76 v77 v78 v79 v80 v81 v82 v83 : Value}
    (x1 : Z.cell? ⟨ab, 0, none⟩ = some (.slice (some ⟨sb, 0, none⟩) N sc)) (x2 : Z.cell? ⟨sb, i * 2 + 1, none⟩ = some (.slice ka kq kc))
    (x3 : ∀ o, (Z.alloc o).cell? ⟨ab, 0, none⟩ = some (.slice (some ⟨sb, 0, none⟩) N sc)) (x4 : ∀ o, (Z.alloc o).cell? ⟨sb, i * 2 + 1, none⟩ = some (.slice ka kq kc))
    (hiN : (i : Int) < (N : Int)) (hkq : kq ≤ 100000000)
    (hOW : ∀ Y, Z.grownBy Y none → Y.ownsRow B 59 2 (.slice ka kq kc) kq xs) (hBS : ∀ Y, Z.grownBy Y none → B ≤ Y.heap.size)
    (hfin : ∀ (Y V : World) (a' : Option Addr) (c' : Nat), Z.grownBy Y none → Y.grownBy V (Value.slice ka kq kc).ownBlock → Sizes Y V → V.cell? ⟨sb, i * 2 + 1, none⟩ = some (.slice ka kq kc) ∧ V.frozen? ⟨sb, i * 2 + 1, none⟩ = false ∧ V.cell? ⟨ab, 0, none⟩ = some (.slice (some ⟨sb, 0, none⟩) N sc) ∧ ∀ u70 u71 u72 u73 u74 u75 u76 u77 u78 u79 u80 u81 u82 u83 : Value, Q0 .normal ⟨List.toArray (v0 :: .pointer (some ⟨ab, 0, none⟩) :: .int .i64 (i : Int) :: v3 :: v4 :: v5 :: v6 :: v7 :: v8 :: v9 :: v10 :: v11 :: v12 :: v13 :: v14 :: v15 :: v16 :: v17 :: v18 :: v19 :: v20 :: v21 :: v22 :: v23 :: v24 :: v25 :: v26 :: v27 :: v28 :: v29 :: v30 :: v31 :: v32 :: v33 :: v34 :: v35 :: v36 :: v37 :: v38 :: v39 :: v40 :: v41 :: v42 :: v43 :: v44 :: v45 :: v46 :: v47 :: v48 :: v49 :: v50 :: v51 :: v52 :: v53 :: v54 :: v55 :: v56 :: v57 :: v58 :: v59 :: v60 :: v61 :: v62 :: v63 :: v64 :: v65 :: v66 :: v67 :: v68 :: v69 :: u70 :: u71 :: u72 :: u73 :: u74 :: u75 :: u76 :: u77 :: u78 :: u79 :: u80 :: u81 :: u82 :: u83 :: []), []⟩ (V.setCell ⟨sb, i * 2 + 1, none⟩ (.slice a' (kq + 1) c'))) :
    Code.wp Try.prog sp_edgC Q0 ⟨List.toArray (v0 :: .pointer (some ⟨ab, 0, none⟩) :: .int .i64 (i : Int) :: v3 :: v4 :: v5 :: v6 :: v7 :: v8 :: v9 :: v10 :: v11 :: v12 :: v13 :: v14 :: v15 :: v16 :: v17 :: v18 :: v19 :: v20 :: v21 :: v22 :: v23 :: v24 :: v25 :: v26 :: v27 :: v28 :: v29 :: v30 :: v31 :: v32 :: v33 :: v34 :: v35 :: v36 :: v37 :: v38 :: v39 :: v40 :: v41 :: v42 :: v43 :: v44 :: v45 :: v46 :: v47 :: v48 :: v49 :: v50 :: v51 :: v52 :: v53 :: v54 :: v55 :: v56 :: v57 :: v58 :: v59 :: v60 :: v61 :: v62 :: v63 :: v64 :: v65 :: v66 :: v67 :: v68 :: v69 :: v70 :: v71 :: v72 :: v73 :: v74 :: v75 :: v76 :: v77 :: v78 :: v79 :: v80 :: v81 :: v82 :: v83 :: []), []⟩ Z :=
  wp_mono (sp_edg (K := fun a w => Q0 .normal a w) x1 x2 x3 x4 hiN hkq hOW hBS hfin) fun e a w h => by
    cases e <;> first | exact h | exact h.elim

end Go.Proofs.Ytdijjlhodlghbaa.J

/-
  lr0: the law's spoil, walked.
-/
namespace Go.Proofs.Ytdijjlhodlghbaa.J
open Go.RowKit Go.Maps Go.Shelf

attribute [local go_sem] Oper.semAt_some

set_option maxRecDepth 100000 in
set_option maxHeartbeats 4000000 in
theorem spoil_any (w0 w : World) (sa : Option Addr) (sc : Nat) (ask nI : Int) (B : Nat) (ks : List (List It)) (el : Nat → List It) (kv ev : Nat → Value) (hw : w0.grownBy w none) (hB0 : w0.heap.size ≤ B) (hBw : B ≤ w.heap.size) (hA : AutP B w (.slice sa ks.length sc) ks el kv ev) (hks : ks.length ≤ 256) (hkb : ∀ i, i < ks.length → (ks.getD i []).length ≤ 10000000) (heb : ∀ i, i < ks.length → (el i).length ≤ 1000) :
    Calls Try.prog 14 #[.agg #[.slice sa ks.length sc, .int .i64 ask, .int .i64 nI]] w fun e y => e = .returned (.tuple #[]) ∧ w0.grownBy y none := by
  obtain ⟨N, hN⟩ : ∃ n, n = ks.length := ⟨_, rfl⟩
  have HKB : Hid (∀ i, i < N → (ks.getD i []).length ≤ 10000000) := by rw [hN]; exact hkb
  have HEB : Hid (∀ i, i < N → (el i).length ≤ 1000) := by rw [hN]; exact heb
  have HBW : Hid (B ≤ w.heap.size) := hBw
  have HG0 : Hid (w0.grownBy w none) := hw
  rw [← hN] at hks
  by_cases h0 : N = 0
  · rw [← hN]
    subst h0
    clear hA hkb heb hB0 hBw hw hN
    go_enter Try.func14, Try.ntmps14
    go_wp2_with fail
    go_loopg [2] 1 (fun gk v2 wr => v2 = .int .i64 0 ∧ gk = 1 ∧ wr = w.alloc (.cells #[.slice sa 0 sc, .int .i64 ask, .int .i64 nI] 32))
    case atStart => exact ⟨rfl, rfl, rfl⟩
    case round =>
      obtain ⟨rfl, _, rfl⟩ := hrel
      go_wp2_with fail
      go_end0
      exact ⟨rfl, grown_trans HG0.out (World.grownBy_alloc _ _ none)⟩
  · obtain ⟨sb, sc', hsv, _, _⟩ := hA.st (q := 0) (by omega)
    simp only [Value.slice.injEq] at hsv
    obtain ⟨rfl, _, rfl⟩ := hsv
    obtain ⟨cur, hcur, hcs⟩ : ∃ cur, w.heap[sb]? = some (.cells cur 53 (0, 0)) ∧ B ≤ sb ∧ ∀ j u, (stV kv ev ks.length)[j]? = some u → cur[j]? = some u := by
      rcases hA.row.2 with ⟨h1, _⟩ | ⟨g, cap, cur, h1, hB, hh, _, _, hs, ht⟩
      · cases h1
      · simp only [Value.slice.injEq, Option.some.injEq, Addr.mk.injEq] at h1
        obtain ⟨⟨rfl, _⟩, _⟩ := h1
        refine ⟨cur, hh, hB, fun j u hu => ?_⟩
        rw [← ht, List.getElem?_take] at hu
        split at hu
        · simpa using hu
        · cases hu
    have HS0 : Hid (SpAt w0 (w.alloc (.cells #[.slice (some ⟨sb, 0, none⟩) N sc, .int .i64 ask, .int .i64 nI] 32)) w.heap.size #[.slice (some ⟨sb, 0, none⟩) N sc, .int .i64 ask, .int .i64 nI] B sb N 0 0 kv ev (fun i => (ks.getD i []).length) (fun i => (el i).length) cur) :=
      ⟨grown_trans hw (World.grownBy_alloc _ _ none), box_kept hcur (World.grownBy_alloc _ _ none), fun j _ h2 => hcs.2 _ _ (stV_at kv ev _ j (by omega)).1, fun j _ h2 => hcs.2 _ _ (stV_at kv ev _ j (by omega)).2, fun j _ h2 => ⟨_, keep0 (hA.ker j (by omega)) (World.grownBy_alloc _ _ none)⟩, fun j _ h2 => ⟨_, keep0 (hA.edg j (by omega)) (World.grownBy_alloc _ _ none)⟩, ⟨hB0, hcs.1⟩, heap_alloc_last w _⟩
    obtain ⟨kn, hkn⟩ : ∃ kn : Nat → Nat, kn = fun i => (ks.getD i []).length := ⟨_, rfl⟩
    obtain ⟨en, hen⟩ : ∃ en : Nat → Nat, en = fun i => (el i).length := ⟨_, rfl⟩
    rw [← hkn, ← hen] at HS0
    have HKN : Hid (∀ i, i < N → kn i ≤ 10000000) := fun i hi => by rw [hkn]; exact HKB.out i hi
    have HEN : Hid (∀ i, i < N → en i ≤ 1000) := fun i hi => by rw [hen]; exact HEB.out i hi
    rw [← hN]
    obtain ⟨ab, hab⟩ : ∃ b, b = w.heap.size := ⟨_, rfl⟩
    have HAB : Hid (ab = w.heap.size) := hab
    clear hA hkb heb hB0 hBw hw hN h0 hcur hcs hkn hen hab HKB HEB HG0 HBW
    go_enter Try.func14, Try.ntmps14
    go_wp2_with fail
    rw [← HAB.out] at HS0
    rw [← HAB.out]
    go_loopg [2] N (fun gk v2 wr => ∃ (i : Nat) (cur : Array Value), i ≤ N ∧ gk = N - i ∧ v2 = .int .i64 i ∧ SpAt w0 wr ab #[.slice (some ⟨sb, 0, none⟩) N sc, .int .i64 ask, .int .i64 nI] B sb N i i kv ev kn en cur)
    case atStart => exact ⟨0, cur, Nat.zero_le _, rfl, rfl, HS0.out⟩
    case round =>
      obtain ⟨i, cur, hi, hgi, rfl, hSp⟩ := hrel
      have HGI : Hid (gk = N - i) := hgi
      have HSP : Hid (SpAt w0 wr ab #[.slice (some ⟨sb, 0, none⟩) N sc, .int .i64 ask, .int .i64 nI] B sb N i i kv ev kn en cur) := hSp
      have HBC : Hid (∀ X ik ie cur, SpAt w0 X ab #[.slice (some ⟨sb, 0, none⟩) N sc, .int .i64 ask, .int .i64 nI] B sb N ik ie kv ev kn en cur → X.cell? ⟨ab, 0, none⟩ = some (.slice (some ⟨sb, 0, none⟩) N sc)) := fun X ik ie cur h => by rw [cell_of_row _ _ _ _ _ _ h.box]; rfl
      have y0 := HBC.out _ _ _ _ hSp
      clear hgi hSp HS0
      by_cases hlt : i < N
      · have hid : decide (i < N) = true := decide_eq_true hlt
        have hi0 : (0 : Int) ≤ (i : Int) := by omega
        have hi1 : (i : Int) < (N : Int) := by omega
        have hng : IntKind.i64.wrap (-(i : Int)) = -(i : Int) := by rw [IntKind.wrap_i64]; omega
        obtain ⟨ka, kc, hka⟩ := (HSP.out.ker i (Nat.le_refl _) hlt).cut
        obtain ⟨ea, ec, hea⟩ := (HSP.out.edg i (Nat.le_refl _) hlt).cut
        obtain ⟨K, hK⟩ : ∃ k, k = kn i := ⟨_, rfl⟩
        obtain ⟨E, hE⟩ : ∃ k, k = en i := ⟨_, rfl⟩
        have hKb : K ≤ 10000000 := by rw [hK]; exact HKN.out i hlt
        have hEb : E ≤ 1000 := by rw [hE]; exact HEN.out i hlt
        rw [← hK] at hka
        rw [← hE] at hea
        have HKC : Hid (∀ X ie cur, SpAt w0 X ab #[.slice (some ⟨sb, 0, none⟩) N sc, .int .i64 ask, .int .i64 nI] B sb N i ie kv ev kn en cur → X.cell? ⟨sb, i * 2, none⟩ = some (.slice ka K kc) ∧ Like2 X B 49 (.slice ka K kc) K) := fun X ie cur h => by
          rw [← hka]
          refine ⟨h.cellK (Nat.le_refl _) hlt, ?_⟩
          have h2 := h.ker i (Nat.le_refl _) hlt
          rw [hK]; exact h2
        have HEC : Hid (∀ X ik cur, SpAt w0 X ab #[.slice (some ⟨sb, 0, none⟩) N sc, .int .i64 ask, .int .i64 nI] B sb N ik i kv ev kn en cur → X.cell? ⟨sb, i * 2 + 1, none⟩ = some (.slice ea E ec) ∧ Like2 X B 59 (.slice ea E ec) E) := fun X ik cur h => by
          rw [← hea]
          refine ⟨h.cellE (Nat.le_refl _) hlt, ?_⟩
          have h2 := h.edg i (Nat.le_refl _) hlt
          rw [hE]; exact h2
        clear hK hE hka hea
        generalize wr = W1 at *
        go_wp2_with fail
        clear y0
        go_loopg [3] K (fun gk v3 wr => ∃ k : Nat, k ≤ K ∧ gk = K - k ∧ v3 = .int .i64 k ∧ SpAt w0 wr ab #[.slice (some ⟨sb, 0, none⟩) N sc, .int .i64 ask, .int .i64 nI] B sb N i i kv ev kn en cur)
        case atStart => exact ⟨0, Nat.zero_le _, rfl, rfl, HSP.out⟩
        case round =>
          obtain ⟨k, hk, hgk, rfl, hSp⟩ := hrel
          have HGK : Hid (gk = K - k) := hgk
          have HS2 : Hid (SpAt w0 wr ab #[.slice (some ⟨sb, 0, none⟩) N sc, .int .i64 ask, .int .i64 nI] B sb N i i kv ev kn en cur) := hSp
          have y0 := HBC.out _ _ _ _ hSp
          obtain ⟨r0, hlk⟩ := HKC.out _ _ _ hSp
          clear hgk hSp HSP
          by_cases hkt : k < K
          · have hkd : decide (k < K) = true := decide_eq_true hkt
            have hk0 : (0 : Int) ≤ (k : Int) := by omega
            have hk1 : (k : Int) < (K : Int) := by omega
            obtain ⟨g, c, u0, u1, kcur, he, hBg, c0, c1, cf, hblk⟩ := hlk.at hkt
            simp only [Value.slice.injEq] at he
            obtain ⟨rfl, _, rfl⟩ := he
            have HNX : Hid (SpAt w0 ((wr.setCell ⟨g, k * 2, none⟩ (.int .i64 (-(i : Int)))).setCell ⟨g, k * 2 + 1, none⟩ (.int .i64 (-9))) ab #[.slice (some ⟨sb, 0, none⟩) N sc, .int .i64 ask, .int .i64 nI] B sb N i i kv ev kn en cur) := HS2.out.over hblk (by decide) (by decide) hBg
            clear hlk hBg hblk
            go_wp2_with fail
            go_roundg (K - (k + 1))
            case measure => have := HGK.out; omega
            case rel => exact ⟨k + 1, by omega, rfl, by go_num, HNX.out⟩
          · have hkK : K = k := by omega
            subst hkK
            have hkd : decide (K < K) = false := decide_eq_false (by omega)
            clear hlk
            generalize wr = W2 at *
            go_wp2_with fail
            clear y0 r0
            go_loopg [4] E (fun gk v4 wr => ∃ k : Nat, k ≤ E ∧ gk = E - k ∧ v4 = .int .i64 k ∧ SpAt w0 wr ab #[.slice (some ⟨sb, 0, none⟩) N sc, .int .i64 ask, .int .i64 nI] B sb N i i kv ev kn en cur)
            case atStart => exact ⟨0, Nat.zero_le _, rfl, rfl, HS2.out⟩
            case round =>
              obtain ⟨k, hk, hgk, rfl, hSp⟩ := hrel
              have HGE : Hid (gk = E - k) := hgk
              have HS3 : Hid (SpAt w0 wr ab #[.slice (some ⟨sb, 0, none⟩) N sc, .int .i64 ask, .int .i64 nI] B sb N i i kv ev kn en cur) := hSp
              have y0 := HBC.out _ _ _ _ hSp
              obtain ⟨r0, hlk⟩ := HEC.out _ _ _ hSp
              clear hgk hSp HS2
              by_cases hkt : k < E
              · have hkd : decide (k < E) = true := decide_eq_true hkt
                have hk0 : (0 : Int) ≤ (k : Int) := by omega
                have hk1 : (k : Int) < (E : Int) := by omega
                obtain ⟨g, c, u0, u1, kcur, he, hBg, c0, c1, cf, hblk⟩ := hlk.at hkt
                simp only [Value.slice.injEq] at he
                obtain ⟨rfl, _, rfl⟩ := he
                have HNX : Hid (SpAt w0 ((wr.setCell ⟨g, k * 2, none⟩ (.int .i64 (-(i : Int)))).setCell ⟨g, k * 2 + 1, none⟩ (.int .i64 (-9))) ab #[.slice (some ⟨sb, 0, none⟩) N sc, .int .i64 ask, .int .i64 nI] B sb N i i kv ev kn en cur) := HS3.out.over hblk (by decide) (by decide) hBg
                clear hlk hBg hblk
                go_wp2_with fail
                go_roundg (E - (k + 1))
                case measure => have := HGE.out; omega
                case rel => exact ⟨k + 1, by omega, rfl, by go_num, HNX.out⟩
              · have hkE : E = k := by omega
                subst hkE
                have hkd : decide (E < E) = false := decide_eq_false (by omega)
                obtain ⟨xs, hxs⟩ := (HKC.out _ _ _ HS3.out).2
                have HXS : Hid (wr.ownsRow B 49 2 (.slice ka K kc) K xs) := hxs
                have HSZ : Hid (∀ Y, wr.grownBy Y none → B ≤ Y.heap.size) := fun Y hY => by
                  have h1 := (Array.getElem?_eq_some_iff.1 HS3.out.blk).1
                  have h2 := HS3.out.lo.2
                  have h3 := hY.size
                  omega
                clear hlk hxs
                go_wp2_with fail
                refine sp_kerq (Z := wr) (B := B) (ab := ab) (sb := sb) (N := N) (sc := sc) (i := i) (kq := K) (kc := kc) (ka := ka) (xs := xs) y0 (HKC.out _ _ _ HS3.out).1 (fun o => HBC.out _ _ _ _ (HS3.out.kept (World.grownBy_alloc _ o none))) (fun o => (HKC.out _ _ _ (HS3.out.kept (World.grownBy_alloc _ o none))).1) hi1 (by omega) (fun Y hY => keep0 HXS.out hY) HSZ.out ?_
                intro Y9 V9 a9 c9 hY9 hg9 hs9
                have hV := (HS3.out.kept hY9).more (keep0 HXS.out hY9) (by decide) (by decide) hg9 hs9
                refine ⟨(HKC.out _ _ _ hV).1, hV.free _, HBC.out _ _ _ _ hV, ?_⟩
                intro u56 u57 u58 u59 u60 u61 u62 u63 u64 u65 u66 u67 u68 u69
                have HS4 : Hid (SpAt w0 (V9.setCell ⟨sb, i * 2, none⟩ (.slice a9 (K + 1) c9)) ab #[.slice (some ⟨sb, 0, none⟩) N sc, .int .i64 ask, .int .i64 nI] B sb N (i + 1) i kv ev kn en (cur.setIfInBounds (i * 2) (.slice a9 (K + 1) c9))) := hV.setK
                obtain ⟨X4, hX4⟩ : ∃ X, X = V9.setCell ⟨sb, i * 2, none⟩ (.slice a9 (K + 1) c9) := ⟨_, rfl⟩
                rw [← hX4] at HS4
                rw [← hX4]
                obtain ⟨ys, hys⟩ := (HEC.out _ _ _ HS4.out).2
                have HYS : Hid (X4.ownsRow B 59 2 (.slice ea E ec) E ys) := hys
                have HSY : Hid (∀ Y, X4.grownBy Y none → B ≤ Y.heap.size) := fun Y hY => by
                  have h1 := (Array.getElem?_eq_some_iff.1 HS4.out.blk).1
                  have h2 := HS4.out.lo.2
                  have h3 := hY.size
                  omega
                clear hX4 hys hV hY9 hg9 hs9 y0 r0 HS3 HXS HSZ
                go_wp2_with fail
                refine sp_edgq (Z := X4) (B := B) (ab := ab) (sb := sb) (N := N) (sc := sc) (i := i) (kq := E) (kc := ec) (ka := ea) (xs := ys) (HBC.out _ _ _ _ HS4.out) (HEC.out _ _ _ HS4.out).1 (fun o => HBC.out _ _ _ _ (HS4.out.kept (World.grownBy_alloc _ o none))) (fun o => (HEC.out _ _ _ (HS4.out.kept (World.grownBy_alloc _ o none))).1) hi1 (by omega) (fun Y hY => keep0 HYS.out hY) HSY.out ?_
                intro Y9 V8 a8 c8 hY9 hg9 hs9
                have hV := (HS4.out.kept hY9).more (keep0 HYS.out hY9) (by decide) (by decide) hg9 hs9
                refine ⟨(HEC.out _ _ _ hV).1, hV.free _, HBC.out _ _ _ _ hV, ?_⟩
                intro u70 u71 u72 u73 u74 u75 u76 u77 u78 u79 u80 u81 u82 u83
                have HS5 := show Hid _ from hV.setE (v := .slice a8 (E + 1) c8)
                clear hV hY9 hg9 hs9
                go_wp2_with fail
                go_roundg (N - (i + 1))
                case measure => have := HGI.out; omega
                case rel => exact ⟨i + 1, _, by omega, rfl, by go_num, HS5.out⟩
      · have hiN : N = i := by omega
        subst hiN
        have hid : decide (N < N) = false := decide_eq_false (by omega)
        go_wp2_with fail
        go_end0
        exact ⟨rfl, HSP.out.grown⟩

end Go.Proofs.Ytdijjlhodlghbaa.J

/-
  lr0: the document's automaton under way, in memory.
-/
namespace Go.Proofs.Ytdijjlhodlghbaa.J
open Go.RowKit Go.Maps Go.Shelf

theorem GG_zero' {tn n : Nat} {L : Nat → Int} {R : Nat → List Int} {k : List It} (hk : ∀ x ∈ k, itB n R x = true) (hR : ∀ k, k < n → ∀ x ∈ R k, (0 : Int) < x) : GG tn n L R k 0 = [] := by
  unfold GG
  have key : ∀ x ∈ CLo tn n L R k, itB n R x = true := by
    unfold CLo
    by_cases hh : ∃ l, IsClo tn n L R k l ∧ l.length ≤ k.length + 13000
    · rw [dif_pos hh]
      have h1 := Classical.choose_spec hh
      exact fun x hx => ((h1.1.mem x).1 hx).item hk
    · rw [dif_neg hh]
      exact fun x hx => absurd hx (by simp)
  unfold kerT
  rw [List.map_eq_nil_iff, List.filter_eq_nil_iff]
  intro x hx h
  have h1 := key x hx
  have h2 : aheadV R x = 0 := by simpa using h
  unfold itB at h1
  simp only [Bool.and_eq_true, decide_eq_true_eq] at h1
  obtain ⟨⟨⟨a1, a2⟩, a3⟩, a4⟩ := h1
  unfold aheadV at h2
  by_cases e : x.2 = ((R x.1.toNat).length : Int)
  · rw [if_pos e] at h2; omega
  · rw [if_neg e] at h2
    have hl : x.2.toNat < (R x.1.toNat).length := by omega
    have h3 := hR x.1.toNat (by omega) ((R x.1.toNat).getD x.2.toNat 0) (by
      generalize R x.1.toNat = l at hl ⊢
      rw [List.getD_eq_getElem?_getD, List.getElem?_eq_getElem hl]; exact List.getElem_mem hl)
    omega

/-- The document's automaton under way: what its box says (bs, ba, bi) and its states' row. -/
structure DbP (w X : World) (bx : Nat) (bs : Value) (ba bi : Int) (rv : Value) (N : Nat) (kv ev : Nat → Value) (kl el : Nat → List It) (Q : Value → List It → Prop) : Prop where
  grown : w.grownBy X none
  box : X.heap[bx]? = some (.cells #[bs, .int .i64 ba, .int .i64 bi] 32 (0, 0))
  row : X.ownsRow w.heap.size 53 2 rv N (stV kv ev N)
  ker : ∀ i, i < N → X.ownsRow w.heap.size 49 2 (kv i) (kl i).length (itsV (kl i))
  edg : ∀ i, i < N → X.ownsRow w.heap.size 59 2 (ev i) (el i).length (itsV (el i))
  sep : ∀ i j, i < N → j < N → i ≠ j → (ev i).ownBlock = none ∨ (ev i).ownBlock ≠ (ev j).ownBlock
  lo : w.heap.size ≤ bx
  pas : ∀ v l, Q v l → X.ownsRow w.heap.size 49 2 v l.length (itsV l)

section
variable {w X Y : World} {bx : Nat} {bs : Value} {ba bi : Int} {rv : Value} {N : Nat} {kv ev : Nat → Value} {kl el : Nat → List It} {Q : Value → List It → Prop}
theorem DbP.kept (h : DbP w X bx bs ba bi rv N kv ev kl el Q) (hg : X.grownBy Y none) : DbP w Y bx bs ba bi rv N kv ev kl el Q :=
  ⟨grown_trans h.grown hg, box_kept h.box hg, keep0 h.row hg, fun i hi => keep0 (h.ker i hi) hg, fun i hi => keep0 (h.edg i hi) hg, h.sep, h.lo, fun v l hq => keep0 (h.pas v l hq) hg⟩
theorem DbP.mono {Q' : Value → List It → Prop} (h : DbP w X bx bs ba bi rv N kv ev kl el Q) (hq : ∀ v l, Q' v l → X.ownsRow w.heap.size 49 2 v l.length (itsV l)) : DbP w X bx bs ba bi rv N kv ev kl el Q' := ⟨h.grown, h.box, h.row, h.ker, h.edg, h.sep, h.lo, hq⟩
theorem DbP.cells (h : DbP w X bx bs ba bi rv N kv ev kl el Q) : X.cell? ⟨bx, 0, none⟩ = some bs ∧ X.cell? ⟨bx, 1, none⟩ = some (.int .i64 ba) ∧ X.cell? ⟨bx, 2, none⟩ = some (.int .i64 bi) := by
  refine ⟨?_, ?_, ?_⟩ <;> (rw [cell_of_row _ _ _ _ _ _ h.box]; rfl)
theorem DbP.free (h : DbP w X bx bs ba bi rv N kv ev kl el Q) (o : Nat) : X.frozen? ⟨bx, o, none⟩ = false := frozen_of_row _ _ _ _ _ h.box
/-- The box alone is turned. -/
theorem DbP.boxed (h : DbP w X bx bs ba bi rv N kv ev kl el Q) {bs' : Value} {ba' bi' : Int} (hg : X.grownBy Y (some bx)) (hb : Y.heap[bx]? = some (.cells #[bs', .int .i64 ba', .int .i64 bi'] 32 (0, 0))) : DbP w Y bx bs' ba' bi' rv N kv ev kl el Q :=
  ⟨grown_new h.grown hg h.lo, hb, h.row.kept hg (owns_nebox h.row h.box (by decide)), fun i hi => (h.ker i hi).kept hg (owns_nebox (h.ker i hi) h.box (by decide)), fun i hi => (h.edg i hi).kept hg (owns_nebox (h.edg i hi) h.box (by decide)), h.sep, h.lo, fun v l hq => (h.pas v l hq).kept hg (owns_nebox (h.pas v l hq) h.box (by decide))⟩
theorem DbP.setS (h : DbP w X bx bs ba bi rv N kv ev kl el Q) (v : Value) : DbP w (X.setCell ⟨bx, 0, none⟩ v) bx v ba bi rv N kv ev kl el Q :=
  h.boxed (grown_setCell _ _ _) (heap_setCell_same _ _ _ _ _ _ h.box)
theorem DbP.setA (h : DbP w X bx bs ba bi rv N kv ev kl el Q) (v : Int) : DbP w (X.setCell ⟨bx, 1, none⟩ (.int .i64 v)) bx bs v bi rv N kv ev kl el Q :=
  h.boxed (grown_setCell _ _ _) (heap_setCell_same _ _ _ _ _ _ h.box)
theorem DbP.setI (h : DbP w X bx bs ba bi rv N kv ev kl el Q) (v : Int) : DbP w (X.setCell ⟨bx, 2, none⟩ (.int .i64 v)) bx bs ba v rv N kv ev kl el Q :=
  h.boxed (grown_setCell _ _ _) (heap_setCell_same _ _ _ _ _ _ h.box)
/-- A state more. -/
theorem DbP.pushS (h : DbP w X bx bs ba bi rv N kv ev kl el Q) {rv' kv0 : Value} {k : List It} (hk : X.ownsRow w.heap.size 49 2 kv0 k.length (itsV k)) (hg : X.grownBy Y rv.ownBlock) (ho : Y.ownsRow w.heap.size 53 2 rv' (N + 1) (stV kv ev N ++ [kv0, .slice none 0 0])) : DbP w Y bx bs ba bi rv' (N + 1) (updL kv N kv0) (updL ev N (.slice none 0 0)) (updL kl N k) (updL el N []) Q := by
  refine ⟨grown_owned h.grown h.row (Nat.le_refl _) hg, box_row h.box h.row (by decide) hg, ?_, fun i hi => ?_, fun i hi => ?_, fun i j hi hj hne => ?_, h.lo, fun v l hq => row_row (h.pas v l hq) h.row (by decide) hg⟩
  · have e : stV (updL kv N kv0) (updL ev N (.slice none 0 0)) (N + 1) = stV kv ev N ++ [kv0, .slice none 0 0] := by
      show stV _ _ N ++ _ = _
      rw [updL_same, updL_same, stV_congr N (fun i hi => ⟨updL_other _ _ (by omega), updL_other _ _ (by omega)⟩)]
    rw [e]; exact ho
  · by_cases e : i = N
    · subst e
      rw [updL_same, updL_same]
      exact row_row hk h.row (by decide) hg
    · rw [updL_other _ _ e, updL_other _ _ e]
      exact row_row (h.ker i (by omega)) h.row (by decide) hg
  · by_cases e : i = N
    · subst e
      rw [updL_same, updL_same]
      exact World.ownsRow_nil _ _ _ _
    · rw [updL_other _ _ e, updL_other _ _ e]
      exact row_row (h.edg i (by omega)) h.row (by decide) hg
  · by_cases e : i = N
    · subst e
      rw [updL_same]
      exact .inl rfl
    · rw [updL_other _ _ e]
      by_cases e2 : j = N
      · subst e2
        rw [updL_same]
        cases hb : (ev i).ownBlock with
        | none => exact .inl rfl
        | some b => exact .inr (by simp [Value.ownBlock])
      · rw [updL_other _ _ e2]
        exact h.sep i j (by omega) (by omega) hne

/-- An edge more in the row of a state: the row itself, ahead of the store. -/
structure DbE (w Y : World) (bx : Nat) (bs : Value) (ba bi : Int) (rv : Value) (N : Nat) (kv ev : Nat → Value) (kl el : Nat → List It) (Q : Value → List It → Prop) (i : Nat) (v : Value) (ed : List It) : Prop where
  grown : w.grownBy Y none
  box : Y.heap[bx]? = some (.cells #[bs, .int .i64 ba, .int .i64 bi] 32 (0, 0))
  row : Y.ownsRow w.heap.size 53 2 rv N (stV kv ev N)
  ker : ∀ i, i < N → Y.ownsRow w.heap.size 49 2 (kv i) (kl i).length (itsV (kl i))
  edg : ∀ j, j < N → j ≠ i → Y.ownsRow w.heap.size 59 2 (ev j) (el j).length (itsV (el j))
  new : Y.ownsRow w.heap.size 59 2 v ed.length (itsV ed)
  sep : ∀ i j, i < N → j < N → i ≠ j → (ev i).ownBlock = none ∨ (ev i).ownBlock ≠ (ev j).ownBlock
  sepN : ∀ j, j < N → j ≠ i → (ev j).ownBlock = none ∨ (ev j).ownBlock ≠ v.ownBlock
  lo : w.heap.size ≤ bx
  pas : ∀ v l, Q v l → Y.ownsRow w.heap.size 49 2 v l.length (itsV l)
theorem DbP.pushE (h : DbP w X bx bs ba bi rv N kv ev kl el Q) {i g c : Nat} {ed : List It} (hi : i < N) (hg : X.grownBy Y (ev i).ownBlock) (ho : Y.ownsRow w.heap.size 59 2 (.slice (some ⟨g, 0, none⟩) ed.length c) ed.length (itsV ed)) (hat : (ev i).ownBlock = some g ∨ g = X.heap.size) : DbE w Y bx bs ba bi rv N kv ev kl el Q i (.slice (some ⟨g, 0, none⟩) ed.length c) ed := by
  refine ⟨grown_owned h.grown (h.edg i hi) (Nat.le_refl _) hg, box_row h.box (h.edg i hi) (by decide) hg, row_row h.row (h.edg i hi) (by decide) hg, fun j hj => row_row (h.ker j hj) (h.edg i hi) (by decide) hg, fun j hj hne => (h.edg j hj).kept hg (h.sep j i hj hi hne), ho, h.sep, fun j hj hne => ?_, h.lo, fun v l hq => row_row (h.pas v l hq) (h.edg i hi) (by decide) hg⟩
  rcases hat with h1 | h1
  · show _ ∨ _ ≠ some g
    rw [← h1]; exact h.sep j i hj hi hne
  · cases hb : (ev j).ownBlock with
    | none => exact .inl rfl
    | some k =>
      right
      intro h2
      have := ((h.edg j hj).lt k hb).2
      have : k = g := by simpa [Value.ownBlock] using h2
      omega
theorem DbE.set {i g cap : Nat} {v : Value} {ed : List It} (h : DbE w X bx bs ba bi rv N kv ev kl el Q i v ed) (hrv : rv = .slice (some ⟨g, 0, none⟩) N cap) (hi : i < N) : DbP w (X.setCell ⟨g, i * 2 + 1, none⟩ v) bx bs ba bi rv N kv (updL ev i v) kl (updL el i ed) Q := by
  have hg : X.grownBy (X.setCell ⟨g, i * 2 + 1, none⟩ v) rv.ownBlock := by rw [hrv]; exact grown_setCell _ _ _
  refine ⟨grown_owned h.grown h.row (Nat.le_refl _) hg, box_row h.box h.row (by decide) hg, ?_, fun j hj => row_row (h.ker j hj) h.row (by decide) hg, fun j hj => ?_, fun j k hj hk hne => ?_, h.lo, fun v l hq => row_row (h.pas v l hq) h.row (by decide) hg⟩
  · have hr := h.row
    refine ⟨by rw [stV_len], ?_⟩
    rcases hr.2 with ⟨h1, h2⟩ | ⟨g2, cap2, cur, h1, hB, hh, h3, h4, h5, h6⟩
    · omega
    · rw [h1] at hrv
      simp only [Value.slice.injEq, Option.some.injEq, Addr.mk.injEq] at hrv
      obtain ⟨⟨rfl, _⟩, _, rfl⟩ := hrv
      refine .inr ⟨g2, cap2, cur.setIfInBounds (i * 2 + 1) v, h1, hB, heap_setCell_same _ _ _ _ _ _ hh, h3, h4, by rw [Array.size_setIfInBounds]; exact h5, ?_⟩
      rw [← stV_set kv ev v N i hi, ← h6, Array.toList_setIfInBounds, List.take_set]
  · by_cases e : j = i
    · subst e
      rw [updL_same, updL_same]
      exact row_row h.new h.row (by decide) hg
    · rw [updL_other _ _ e, updL_other _ _ e]
      exact row_row (h.edg j hj e) h.row (by decide) hg
  · by_cases e : j = i
    · subst e
      have e2 : k ≠ j := fun h => hne h.symm
      rw [updL_same, updL_other _ _ e2]
      rcases h.sepN k hk e2 with h1 | h1
      · rw [h1]
        cases hb : v.ownBlock with
        | none => exact .inl rfl
        | some b => exact .inr (by simp)
      · exact .inr fun h2 => h1 h2.symm
    · rw [updL_other _ _ e]
      by_cases e2 : k = i
      · subst e2
        rw [updL_same]
        exact h.sepN j hj e
      · rw [updL_other _ _ e2]
        exact h.sep j k hj hk hne
theorem DbE.cells {i : Nat} {v : Value} {ed : List It} (h : DbE w X bx bs ba bi rv N kv ev kl el Q i v ed) : X.cell? ⟨bx, 0, none⟩ = some bs := by rw [cell_of_row _ _ _ _ _ _ h.box]; rfl
theorem DbE.kept {i : Nat} {v : Value} {ed : List It} (h : DbE w X bx bs ba bi rv N kv ev kl el Q i v ed) (hg : X.grownBy Y none) : DbE w Y bx bs ba bi rv N kv ev kl el Q i v ed :=
  ⟨grown_trans h.grown hg, box_kept h.box hg, keep0 h.row hg, fun i hi => keep0 (h.ker i hi) hg, fun i hi hn => keep0 (h.edg i hi hn) hg, keep0 h.new hg, h.sep, h.sepN, h.lo, fun v l hq => keep0 (h.pas v l hq) hg⟩
end

/-- The document's automaton between two edges of state i. -/
def DbAt (w X : World) (bx : Nat) (ks : List (List It)) (asked : Int) (el : Nat → List It) (Q : Value → List It → Prop) : Prop := ∃ (sa : Option Addr) (sc : Nat) (kv ev : Nat → Value), DbP w X bx (.slice sa ks.length sc) asked (ks.length : Int) (.slice sa ks.length sc) ks.length kv ev (fun i => ks.getD i []) el Q
theorem DbAt.kept {w X Y : World} {bx : Nat} {ks : List (List It)} {asked : Int} {el : Nat → List It} {Q : Value → List It → Prop} (h : DbAt w X bx ks asked el Q) (hg : X.grownBy Y none) : DbAt w Y bx ks asked el Q := by
  obtain ⟨sa, sc, kv, ev, h1⟩ := h
  exact ⟨sa, sc, kv, ev, h1.kept hg⟩
theorem DbAt.grown {w X : World} {bx : Nat} {ks : List (List It)} {asked : Int} {el : Nat → List It} {Q : Value → List It → Prop} (h : DbAt w X bx ks asked el Q) : w.grownBy X none := by
  obtain ⟨sa, sc, kv, ev, h1⟩ := h
  exact h1.grown
/-- A state more, told of the kernels. -/
theorem db_more {ks : List (List It)} {k : List It} : updL (fun i => ks.getD i []) ks.length k = fun i => (ks ++ [k]).getD i [] := funext fun i => by
  by_cases e : i = ks.length
  · subst e; rw [updL_same, getD_snoc_new]
  · rw [updL_other _ _ e]
    by_cases e2 : i < ks.length
    · rw [getD_snoc_old e2]
    · show ks.getD i [] = _
      rw [List.getD_eq_getElem?_getD, List.getD_eq_getElem?_getD, List.getElem?_eq_none (by omega), List.getElem?_eq_none (by rw [List.length_append, List.length_singleton]; omega)]
theorem db_none {N : Nat} {el : Nat → List It} (h : ∀ i, N ≤ i → el i = []) : updL el N [] = el := funext fun i => by
  by_cases e : i = N
  · subst e; rw [updL_same, h _ (Nat.le_refl _)]
  · rw [updL_other _ _ e]
/-- The kernels that place looks at. -/
theorem DbP.kers {w X : World} {bx : Nat} {bs : Value} {ba bi : Int} {sa : Option Addr} {sc : Nat} {ks : List (List It)} {kv ev : Nat → Value} {el : Nat → List It} {Q : Value → List It → Prop} (h : DbP w X bx bs ba bi (.slice sa ks.length sc) ks.length kv ev (fun i => ks.getD i []) el Q) : ∃ (ka : Nat → Option Addr) (kc : Nat → Nat), KersAt X sa ks ka kc := by
  have hc : ∀ i, ∃ (a : Option Addr) (c : Nat), i < ks.length → kv i = .slice a (ks.getD i []).length c := fun i => by
    by_cases hi : i < ks.length
    · obtain ⟨a, c, e⟩ := owns_cut (h.ker i hi)
      exact ⟨a, c, fun _ => e⟩
    · exact ⟨none, 0, fun h => absurd h hi⟩
  refine ⟨fun i => Classical.choose (hc i), fun i => Classical.choose (Classical.choose_spec (hc i)), ?_⟩
  by_cases h0 : ks = []
  · exact .inl h0
  · have hp : 0 < ks.length := List.length_pos_iff.2 h0
    obtain ⟨g, c, e, h1⟩ := owns_at h.row hp
    right
    refine ⟨g, 0, (by simp only [Value.slice.injEq] at e; exact e.1), fun i hi => ?_⟩
    have e2 := Classical.choose_spec (Classical.choose_spec (hc i)) hi
    have h3 := h.ker i hi
    rw [e2] at h3
    refine ⟨?_, ItsAt.of h3⟩
    rw [Nat.zero_add, ← e2]
    exact h1 _ _ (stV_at kv ev _ i hi).1

end Go.Proofs.Ytdijjlhodlghbaa.J

/-
  lr0: the document's Build: an edge more, a declaration of its own (printed by tools/rbedgegen.py).
-/
namespace Go.Proofs.Ytdijjlhodlghbaa.J
open Go.RowKit Go.Maps Go.Shelf

attribute [local go_sem] Oper.semAt_some

noncomputable def rbR : Code := ((Try.f11.body.map (regionsJ 23)).getD []).getD 0 .skip

set_option maxRecDepth 100000 in
set_option maxHeartbeats 8000000 in
theorem rb_edge {K : Act → World → Prop} {X2 : World} {B bx sb2 N2 sc2 i s t em ec : Nat} {ea : Option Addr} {xs : List Value}
    {v0 v1 v2 v3 v4 v7 v9 v11 v12 v13 v14 v15 v16 v17 v18 v19 v20 v21 v22 v23 v24 v25 v26 v27 v28 v29 v30 v31 v32 v33 v34 v35 v36 v37 v38 v39 v40 v41 v42 v43 v44 v45 v46 v47 v48 v49 v50 v51 v52 v53 v54 v55 v56 v57 v58 v59 v60 v61 v62 v63 v64 v65 v66 v67 v68 v69 v70 v71 v72 v73 v74 v75 v76 v77 v78 v79 v80 v81 v82 v83 v84 v85 v86 v87 v88 v89 v90 v91 v92 v93 v94 v95 v96 : Value}
    (x1 : X2.cell? ⟨bx, 0, none⟩ = some (.slice (some ⟨sb2, 0, none⟩) N2 sc2)) (x2 : X2.cell? ⟨sb2, i * 2 + 1, none⟩ = some (.slice ea em ec))
    (x3 : ∀ o, (X2.alloc o).cell? ⟨bx, 0, none⟩ = some (.slice (some ⟨sb2, 0, none⟩) N2 sc2)) (x4 : ∀ o, (X2.alloc o).cell? ⟨sb2, i * 2 + 1, none⟩ = some (.slice ea em ec))
    (hiN : (i : Int) < (N2 : Int)) (hemb : em ≤ 130)
    (hOW : ∀ Y, X2.grownBy Y none → Y.ownsRow B 59 2 (.slice ea em ec) em xs) (hBS : ∀ Y, X2.grownBy Y none → B ≤ Y.heap.size)
    (hfin : ∀ (Y Z : World) (g c' : Nat), X2.grownBy Y none → Y.grownBy Z (Value.slice ea em ec).ownBlock → Z.ownsRow B 59 2 (.slice (some ⟨g, 0, none⟩) (em + 1) c') (em + 1) (xs ++ [.int .i64 (s : Int), .int .i64 (t : Int)]) → ((Value.slice ea em ec).ownBlock = some g ∨ g = Y.heap.size) → Z.cell? ⟨sb2, i * 2 + 1, none⟩ = some (.slice ea em ec) ∧ Z.frozen? ⟨sb2, i * 2 + 1, none⟩ = false ∧ Z.cell? ⟨bx, 0, none⟩ = some (.slice (some ⟨sb2, 0, none⟩) N2 sc2) ∧ ∀ u80 u81 u82 u83 u84 u85 u86 u87 u88 u89 u90 u91 u92 u93 u94 u95 : Value, K ⟨List.toArray (v0 :: v1 :: v2 :: v3 :: v4 :: .pointer (some ⟨bx, 0, none⟩) :: .int .i64 (i : Int) :: v7 :: .int .i64 (s : Int) :: v9 :: .int .i64 (t : Int) :: v11 :: v12 :: v13 :: v14 :: v15 :: v16 :: v17 :: v18 :: v19 :: v20 :: v21 :: v22 :: v23 :: v24 :: v25 :: v26 :: v27 :: v28 :: v29 :: v30 :: v31 :: v32 :: v33 :: v34 :: v35 :: v36 :: v37 :: v38 :: v39 :: v40 :: v41 :: v42 :: v43 :: v44 :: v45 :: v46 :: v47 :: v48 :: v49 :: v50 :: v51 :: v52 :: v53 :: v54 :: v55 :: v56 :: v57 :: v58 :: v59 :: v60 :: v61 :: v62 :: v63 :: v64 :: v65 :: v66 :: v67 :: v68 :: v69 :: v70 :: v71 :: v72 :: v73 :: v74 :: v75 :: v76 :: v77 :: v78 :: v79 :: u80 :: u81 :: u82 :: u83 :: u84 :: u85 :: u86 :: u87 :: u88 :: u89 :: u90 :: u91 :: u92 :: u93 :: u94 :: u95 :: v96 :: []), []⟩ (Z.setCell ⟨sb2, i * 2 + 1, none⟩ (.slice (some ⟨g, 0, none⟩) (em + 1) c'))) :
    Code.wp Try.prog rbR (OnEndJ K) ⟨List.toArray (v0 :: v1 :: v2 :: v3 :: v4 :: .pointer (some ⟨bx, 0, none⟩) :: .int .i64 (i : Int) :: v7 :: .int .i64 (s : Int) :: v9 :: .int .i64 (t : Int) :: v11 :: v12 :: v13 :: v14 :: v15 :: v16 :: v17 :: v18 :: v19 :: v20 :: v21 :: v22 :: v23 :: v24 :: v25 :: v26 :: v27 :: v28 :: v29 :: v30 :: v31 :: v32 :: v33 :: v34 :: v35 :: v36 :: v37 :: v38 :: v39 :: v40 :: v41 :: v42 :: v43 :: v44 :: v45 :: v46 :: v47 :: v48 :: v49 :: v50 :: v51 :: v52 :: v53 :: v54 :: v55 :: v56 :: v57 :: v58 :: v59 :: v60 :: v61 :: v62 :: v63 :: v64 :: v65 :: v66 :: v67 :: v68 :: v69 :: v70 :: v71 :: v72 :: v73 :: v74 :: v75 :: v76 :: v77 :: v78 :: v79 :: v80 :: v81 :: v82 :: v83 :: v84 :: v85 :: v86 :: v87 :: v88 :: v89 :: v90 :: v91 :: v92 :: v93 :: v94 :: v95 :: v96 :: []), []⟩ X2 := by
  obtain ⟨i3, hi3, hv0, hv1, hv2⟩ := info_parts infoEdge
  have HOW : Hid (∀ Y, X2.grownBy Y none → Y.ownsRow B 59 2 (.slice ea em ec) em xs) := hOW
  have HPS : Hid (∀ Y, X2.grownBy Y none → B ≤ Y.heap.size) := hBS
  have HFIN := show Hid _ from hfin
  have hi0 : (0 : Int) ≤ (i : Int) := by omega
  clear hOW hBS hfin
  conv => arg 2; whnf
  go_region_law (first
    | (refine step_append_liesW _ rfl (.tmp 88) (.tmp 92) 51 rfl B 59 i3 (.agg #[.int .i64 0, .int .i64 0]) 2 16 Try.underlying51 hi3 hv0 hv1 hv2 rfl (by decide) (.slice ea em ec) em xs (by simp [Act.eval]) (HOW.out _ (grown_trans (World.grownBy_alloc _ _ none) (grown_drewN _ 1))) ⟨X2.heap.size, 0, none⟩ 1 1 [.int .i64 (s : Int), .int .i64 (t : Int)] (by simp [Act.eval]) rfl (World.news_of_block (heap_alloc_last X2 _)) (by simp [Value.oneCell']) (by decide) (by unfold maxLen; omega) (by omega) (HPS.out _ (grown_trans (World.grownBy_alloc _ _ none) (grown_drewN _ 1))) ?_; intro g7 c7 wC hoC hgC hat; obtain ⟨q2, q3, q4, q1⟩ := HFIN.out _ wC g7 c7 (grown_trans (World.grownBy_alloc _ _ none) (grown_drewN _ 1)) hgC hoC hat; have HQ9 := show Hid _ from q1; clear q1 hoC hgC hat)
    | fail)
  all_goals exact HQ9.out _ _ _ _ _ _ _ _ _ _ _ _ _ _ _ _

theorem rb_edgeq {Q0 : Exit → Act → World → Prop} {X2 : World} {B bx sb2 N2 sc2 i s t em ec : Nat} {ea : Option Addr} {xs : List Value}
    {v0 v1 v2 v3 v4 v7 v9 v11 v12 v13 v14 v15 v16 v17 v18 v19 v20 v21 v22 v23 v24 v25 v26 v27 v28 v29 v30 v31 v32 v33 v34 v35 v36 v37 v38 v39 v40 v41 v42 v43 v44 v45 v46 v47 v48 v49 v50 v51 v52 v53 v54 v55 v56 v57 v58 v59 v60 v61 v62 v63 v64 v65 v66 v67 v68 v69 v70 v71 v72 v73 v74 v75 v76 v77 v78 v79 v80 v81 v82 v83 v84 v85 v86 v87 v88 v89 v90 v91 v92 v93 v94 v95 v96 : Value}
    (x1 : X2.cell? ⟨bx, 0, none⟩ = some (.slice (some ⟨sb2, 0, none⟩) N2 sc2)) (x2 : X2.cell? ⟨sb2, i * 2 + 1, none⟩ = some (.slice ea em ec))
    (x3 : ∀ o, (X2.alloc o).cell? ⟨bx, 0, none⟩ = some (.slice (some ⟨sb2, 0, none⟩) N2 sc2)) (x4 : ∀ o, (X2.alloc o).cell? ⟨sb2, i * 2 + 1, none⟩ = some (.slice ea em ec))
    (hiN : (i : Int) < (N2 : Int)) (hemb : em ≤ 130)
    (hOW : ∀ Y, X2.grownBy Y none → Y.ownsRow B 59 2 (.slice ea em ec) em xs) (hBS : ∀ Y, X2.grownBy Y none → B ≤ Y.heap.size)
    (hfin : ∀ (Y Z : World) (g c' : Nat), X2.grownBy Y none → Y.grownBy Z (Value.slice ea em ec).ownBlock → Z.ownsRow B 59 2 (.slice (some ⟨g, 0, none⟩) (em + 1) c') (em + 1) (xs ++ [.int .i64 (s : Int), .int .i64 (t : Int)]) → ((Value.slice ea em ec).ownBlock = some g ∨ g = Y.heap.size) → Z.cell? ⟨sb2, i * 2 + 1, none⟩ = some (.slice ea em ec) ∧ Z.frozen? ⟨sb2, i * 2 + 1, none⟩ = false ∧ Z.cell? ⟨bx, 0, none⟩ = some (.slice (some ⟨sb2, 0, none⟩) N2 sc2) ∧ ∀ u80 u81 u82 u83 u84 u85 u86 u87 u88 u89 u90 u91 u92 u93 u94 u95 : Value, Q0 .normal ⟨List.toArray (v0 :: v1 :: v2 :: v3 :: v4 :: .pointer (some ⟨bx, 0, none⟩) :: .int .i64 (i : Int) :: v7 :: .int .i64 (s : Int) :: v9 :: .int .i64 (t : Int) :: v11 :: v12 :: v13 :: v14 :: v15 :: v16 :: v17 :: v18 :: v19 :: v20 :: v21 :: v22 :: v23 :: v24 :: v25 :: v26 :: v27 :: v28 :: v29 :: v30 :: v31 :: v32 :: v33 :: v34 :: v35 :: v36 :: v37 :: v38 :: v39 :: v40 :: v41 :: v42 :: v43 :: v44 :: v45 :: v46 :: v47 :: v48 :: v49 :: v50 :: v51 :: v52 :: v53 :: v54 :: v55 :: v56 :: v57 :: v58 :: v59 :: v60 :: v61 :: v62 :: v63 :: v64 :: v65 :: v66 :: v67 :: v68 :: v69 :: v70 :: v71 :: v72 :: v73 :: v74 :: v75 :: v76 :: v77 :: v78 :: v79 :: u80 :: u81 :: u82 :: u83 :: u84 :: u85 :: u86 :: u87 :: u88 :: u89 :: u90 :: u91 :: u92 :: u93 :: u94 :: u95 :: v96 :: []), []⟩ (Z.setCell ⟨sb2, i * 2 + 1, none⟩ (.slice (some ⟨g, 0, none⟩) (em + 1) c'))) :
    Code.wp Try.prog rbR Q0 ⟨List.toArray (v0 :: v1 :: v2 :: v3 :: v4 :: .pointer (some ⟨bx, 0, none⟩) :: .int .i64 (i : Int) :: v7 :: .int .i64 (s : Int) :: v9 :: .int .i64 (t : Int) :: v11 :: v12 :: v13 :: v14 :: v15 :: v16 :: v17 :: v18 :: v19 :: v20 :: v21 :: v22 :: v23 :: v24 :: v25 :: v26 :: v27 :: v28 :: v29 :: v30 :: v31 :: v32 :: v33 :: v34 :: v35 :: v36 :: v37 :: v38 :: v39 :: v40 :: v41 :: v42 :: v43 :: v44 :: v45 :: v46 :: v47 :: v48 :: v49 :: v50 :: v51 :: v52 :: v53 :: v54 :: v55 :: v56 :: v57 :: v58 :: v59 :: v60 :: v61 :: v62 :: v63 :: v64 :: v65 :: v66 :: v67 :: v68 :: v69 :: v70 :: v71 :: v72 :: v73 :: v74 :: v75 :: v76 :: v77 :: v78 :: v79 :: v80 :: v81 :: v82 :: v83 :: v84 :: v85 :: v86 :: v87 :: v88 :: v89 :: v90 :: v91 :: v92 :: v93 :: v94 :: v95 :: v96 :: []), []⟩ X2 :=
  wp_mono (rb_edge (K := fun a w => Q0 .normal a w) x1 x2 x3 x4 hiN hemb hOW hBS hfin) fun e a w h => by
    cases e <;> first | exact h | exact h.elim

end Go.Proofs.Ytdijjlhodlghbaa.J

/-
  lr0: the document's Build, walked.
-/
namespace Go.Proofs.Ytdijjlhodlghbaa.J
open Go.RowKit Go.Maps Go.Shelf

attribute [local go_sem] Oper.semAt_some

theorem results_rbuild (tmps : Array Value) (w : World) (g : Nat) (cs : Array Value) (x : Value) (h2 : tmps.getD 2 undef = .pointer (some ⟨g, 0, none⟩)) (h3 : tmps.getD 3 undef = x) (hg : w.heap[g]? = some (.cells cs 32 (0, 0))) (hs : cs.size = 3) :
    (results Try.f11 tmps).run Try.prog w = .ok (.tuple #[.agg cs, x]) w := by
  have h2' : tmps[2]?.getD undef = .pointer (some ⟨g, 0, none⟩) := by simpa using h2
  have h3' : tmps[3]?.getD undef = x := by simpa using h3
  have hl := run_loadVar_row (P := Try.prog) w g 32 32 cs (0, 0) _ hg Try.underlying32 rfl (by rw [hs]; kernel_rfl)
  simp [results, Try.results11, h2', h3', asAddr, hl]

section
variable (ta na la pa : Option Addr) (tc nc lc pc : Nat) (ts : List (ByteArray × Int)) (ns : List ByteArray) (lv : List Int) (n : Nat) (L : Nat → Int) (R : Nat → List Int) (ra : Nat → Option Addr) (rc : Nat → Nat) (V : Nat → Int) (st : Int) (w : World) (tn nn ln : Nat) (hlen : ts.length = tn ∧ ns.length = nn ∧ lv.length = ln) (hG : GAt w ta na la pa tc nc lc pc ts ns lv n L R ra rc V) (hts : ∀ t ∈ ts, t.1.size ≤ 140737488355328) (hns : ∀ s ∈ ns, s.size ≤ 140737488355328)
include hlen hG hts hns
set_option maxRecDepth 100000 in
theorem rbuildBad (hb : ¬ closedOK ts ns lv st n L R V) : Calls Try.prog 11 #[.agg #[.slice ta tn tc, .slice na nn nc, .slice la ln lc, .int .i64 st, .slice pa n pc]] w fun e y => e = .returned (.tuple #[.agg #[.slice none 0 0, .int .i64 0, .int .i64 0], .int .i64 1]) ∧ w.grownBy y none := by
  have HCL : Hid (∀ X, w.grownBy X none → Calls Try.prog 22 #[.agg #[.slice ta tn tc, .slice na nn nc, .slice la ln lc, .int .i64 st, .slice pa n pc]] X fun e w' => e = .returned (.bool false) ∧ X.grownBy w' none) := fun X hX => by
    have := rclosed_any ta na la pa tc nc lc pc st ts ns lv n L R ra rc V X (hG.kept hX) hts hns false ⟨(fun h => by cases h), fun h => absurd h hb⟩
    rwa [hlen.1, hlen.2.1, hlen.2.2] at this
  have HX0 : Hid (w.grownBy ((w.alloc (.cells #[.slice ta tn tc, .slice na nn nc, .slice la ln lc, .int .i64 st, .slice pa n pc] 27)).alloc (.cells #[.slice none 0 0, .int .i64 0, .int .i64 0] 32)) none) := grown_trans (World.grownBy_alloc _ _ none) (World.grownBy_alloc _ _ none)
  have HB0 : Hid (((w.alloc (.cells #[.slice ta tn tc, .slice na nn nc, .slice la ln lc, .int .i64 st, .slice pa n pc] 27)).alloc (.cells #[.slice none 0 0, .int .i64 0, .int .i64 0] 32)).heap[w.heap.size + 1]? = some (.cells #[.slice none 0 0, .int .i64 0, .int .i64 0] 32 (0, 0))) := by
    have h := heap_alloc_last (w.alloc (.cells #[.slice ta tn tc, .slice na nn nc, .slice la ln lc, .int .i64 st, .slice pa n pc] 27)) (.cells #[.slice none 0 0, .int .i64 0, .int .i64 0] 32)
    rw [World.size_alloc] at h; exact h
  clear hlen hG hb hts hns
  go_enter Try.func11, Try.ntmps11
  go_wp2_with fail
  refine Calls.mono (HCL.out _ HX0.out) ?_
  rintro e w1 ⟨rfl, hg1⟩
  have HB1 : Hid (w1.heap[w.heap.size + 1]? = some (.cells #[.slice none 0 0, .int .i64 0, .int .i64 0] 32 (0, 0))) := box_kept HB0.out hg1
  have HG1 : Hid (w.grownBy w1 none) := grown_trans HX0.out hg1
  clear hg1 HB0 HX0
  have k0 := cell_of_row w1 (w.heap.size + 1) 0 _ _ _ HB1.out
  have k1 := cell_of_row w1 (w.heap.size + 1) 1 _ _ _ HB1.out
  have k2 := cell_of_row w1 (w.heap.size + 1) 2 _ _ _ HB1.out
  have kf := fun j => frozen_of_row w1 (w.heap.size + 1) j _ _ HB1.out
  simp only [List.getElem?_toArray, List.getElem?_cons_zero, List.getElem?_cons_succ] at k0 k1 k2
  go_wp2_with fail
  refine bodyPost_ret (v := .tuple #[.agg #[.slice none 0 0, .int .i64 0, .int .i64 0], .int .i64 1]) ?_ rfl ?_
  · exact results_rbuild _ _ (w.heap.size + 1) _ _ rfl rfl (set3_heap HB1.out _ _ _) rfl
  · exact ⟨rfl, grown_new HG1.out (set3_grown _ _ _ _ _) (by omega)⟩

set_option maxRecDepth 100000 in
set_option maxHeartbeats 4000000 in
theorem rbuildOk (hc : closedOK ts ns lv st n L R V) : Calls Try.prog 11 #[.agg #[.slice ta tn tc, .slice na nn nc, .slice la ln lc, .int .i64 st, .slice pa n pc]] w fun e y => AutTold w tn n (tn + nn) L R e y := by
  have hM : MayOK tn nn n st L R true := by obtain ⟨rfl, rfl, rfl⟩ := hlen; exact mayOK_closed hc
  have HCL : Hid (∀ X, w.grownBy X none → Calls Try.prog 22 #[.agg #[.slice ta tn tc, .slice na nn nc, .slice la ln lc, .int .i64 st, .slice pa n pc]] X fun e w' => e = .returned (.bool true) ∧ X.grownBy w' none) := fun X hX => by
    have := rclosed_any ta na la pa tc nc lc pc st ts ns lv n L R ra rc V X (hG.kept hX) hts hns true ⟨fun _ => hc, fun _ => rfl⟩
    rwa [hlen.1, hlen.2.1, hlen.2.2] at this
  obtain ⟨S, hS⟩ : ∃ S, S = tn + nn := ⟨_, rfl⟩
  have hSz : S ≤ 130 := by have := hM.tmax; have := hM.nmax; omega
  have HRR : Hid (∀ k, k < n → ∀ x ∈ R k, (0 : Int) ≤ x ∧ x < ((tn + nn : Nat) : Int)) := fun k hk x hx => ⟨by have := hM.right k hk x hx; omega, (hM.right k hk x hx).2⟩
  have HAU : Hid (∀ i ks es, autoF (GG tn n L R) S i = some (ks, es) → AuOK (PJ n R) (GG tn n L R) S i ks es ∧ askN es ≤ 33281) := fun i ks es h => by
    rw [hS] at h ⊢
    exact ⟨auOK hM.p0 h, askN_le hM.p0 (by omega) h⟩
  have HSY : Hid (∀ X, Calls Try.prog 24 #[.agg #[.slice ta tn tc, .slice na nn nc, .slice la ln lc, .int .i64 st, .slice pa n pc]] X fun e y => e = .returned (.int .i64 (S : Int)) ∧ X.grownBy y none) := fun X => by
    have h1 := hM.tmax
    have h2 := hM.nmax
    refine (Go.Proofs.Ytdijjlhodlghbaa.symbols_any ta na la pa tn nn ln n tc nc lc pc st X (by omega) (by omega)).mono ?_
    rintro e y ⟨rfl, hg⟩
    exact ⟨by rw [hS, Int.natCast_add], hg⟩
  have HCS : Hid (∀ X a cap (I : List It), w.grownBy X none → ItsAt X a I → I.length ≤ 8796093022208 → (∀ x ∈ I, itB n R x = true) → Calls Try.prog 27 #[.agg #[.slice ta tn tc, .slice na nn nc, .slice la ln lc, .int .i64 st, .slice pa n pc], .slice a I.length cap] X fun e y => CloTold tn n L R I X e y) := fun X a cap I hX hI hIb hit => rclos_any ta na la pa tc nc lc pc n L R ra rc V st X tn nn ln (prods_kept hG.prods hX) hM.pmax hM.p0 hM.tmax hM.nmax HRR.out a cap I hI hIb hit
  have HFR : Hid (∀ X a cap (l : List It) (s : Int), w.grownBy X none → ItsAt X a l → l.length ≤ 8796093035208 → (∀ x ∈ l, itB n R x = true) → Asc l → Calls Try.prog 28 #[.agg #[.slice ta tn tc, .slice na nn nc, .slice la ln lc, .int .i64 st, .slice pa n pc], .int .i64 s, .slice a l.length cap] X fun e y => ItsTold (kerT R l s) X e y) := fun X a cap l s hX hl hlb hit hasc => rfrom_any ta na la pa tc nc lc pc n L R ra rc V st s X tn nn ln (prods_kept hG.prods hX) (gright hG.prods) a cap l hl hlb hit hasc
  have HZ : Hid (∀ k : List It, (∀ x ∈ k, itB n R x = true) → GG tn n L R k 0 = []) := fun k hk => GG_zero' hk (fun k hk x hx => (hM.right k hk x hx).1)
  have HX0 : Hid (w.grownBy ((w.alloc (.cells #[.slice ta tn tc, .slice na nn nc, .slice la ln lc, .int .i64 st, .slice pa n pc] 27)).alloc (.cells #[.slice none 0 0, .int .i64 0, .int .i64 0] 32)) none) := grown_trans (World.grownBy_alloc _ _ none) (World.grownBy_alloc _ _ none)
  have HP0 : Hid (PhAt w ((w.alloc (.cells #[.slice ta tn tc, .slice na nn nc, .slice la ln lc, .int .i64 st, .slice pa n pc] 27)).alloc (.cells #[.slice none 0 0, .int .i64 0, .int .i64 0] 32)) w.heap.size #[.slice ta tn tc, .slice na nn nc, .slice la ln lc, .int .i64 st, .slice pa n pc]) := PhAt.kept ⟨World.grownBy_alloc _ _ none, heap_alloc_last w _⟩ (World.grownBy_alloc _ _ none)
  have HB0 : Hid (((w.alloc (.cells #[.slice ta tn tc, .slice na nn nc, .slice la ln lc, .int .i64 st, .slice pa n pc] 27)).alloc (.cells #[.slice none 0 0, .int .i64 0, .int .i64 0] 32)).heap[w.heap.size + 1]? = some (.cells #[.slice none 0 0, .int .i64 0, .int .i64 0] 32 (0, 0))) := by
    have h := heap_alloc_last (w.alloc (.cells #[.slice ta tn tc, .slice na nn nc, .slice la ln lc, .int .i64 st, .slice pa n pc] 27)) (.cells #[.slice none 0 0, .int .i64 0, .int .i64 0] 32)
    rw [World.size_alloc] at h; exact h
  have HPN : Hid (0 < n ∧ n ≤ 97) := ⟨hM.p0, hM.pmax⟩
  have hS1 : 1 ≤ S := by have := hM.t0; omega
  rw [← hS]
  clear hlen hG hc hM hts hns hS HRR
  obtain ⟨i2, hi2, hu0, hu1, hu2⟩ := info_parts infoState
  obtain ⟨i3, hi3, hv0, hv1, hv2⟩ := info_parts infoEdge
  go_enter Try.func11, Try.ntmps11
  go_wp2_with fail
  refine Calls.mono (HCL.out _ HX0.out) ?_
  rintro e P ⟨rfl, hg1⟩
  have HB1 : Hid (P.heap[w.heap.size + 1]? = some (.cells #[.slice none 0 0, .int .i64 0, .int .i64 0] 32 (0, 0))) := box_kept HB0.out hg1
  have HP1 : Hid (PhAt w P w.heap.size #[.slice ta tn tc, .slice na nn nc, .slice la ln lc, .int .i64 st, .slice pa n pc]) := HP0.out.kept hg1
  clear hg1 HB0 HX0 HP0
  have HA1 := show Hid _ from heap_alloc_last P (.cells #[.slice none 0 0, .int .i64 1, .int .i64 1] 32)
  have HA2 : Hid (((P.alloc (.cells #[.slice none 0 0, .int .i64 1, .int .i64 1] 32)).alloc (.cells #[.int .i64 0, .int .i64 0] 49)).heap[P.heap.size + 1]? = some (.cells #[.int .i64 0, .int .i64 0] 49 (0, 0))) := by
    have h := heap_alloc_last (P.alloc (.cells #[.slice none 0 0, .int .i64 1, .int .i64 1] 32)) (.cells #[.int .i64 0, .int .i64 0] 49)
    rw [World.size_alloc] at h; exact h
  have HNW : Hid (∀ j z, [Value.slice (some ⟨P.heap.size + 1, 0, none⟩) 1 1, Value.slice none 0 0][j]? = some z → (((P.alloc (.cells #[.slice none 0 0, .int .i64 1, .int .i64 1] 32)).alloc (.cells #[.int .i64 0, .int .i64 0] 49)).alloc (.cells #[.slice (some ⟨P.heap.size + 1, 0, none⟩) 1 1, .slice none 0 0] 53)).cell? ((⟨P.heap.size + 1 + 1, 0, none⟩ : Addr).add j) = some z) := by
    have h := heap_alloc_last ((P.alloc (.cells #[.slice none 0 0, .int .i64 1, .int .i64 1] 32)).alloc (.cells #[.int .i64 0, .int .i64 0] 49)) (.cells #[.slice (some ⟨P.heap.size + 1, 0, none⟩) 1 1, .slice none 0 0] 53)
    rw [World.size_alloc, World.size_alloc] at h
    exact World.news_of_block h
  go_wp2_with (at_builtin; refine wpList_append_srcW rfl (.tmp 18) (.tmp 22) 30 rfl P.heap.size 53 i2 (.agg #[.slice none 0 0, .slice none 0 0]) 2 48 Try.underlying30 hi2 hu0 hu1 hu2 rfl (by decide) (.slice none 0 0) 0 [] rfl (World.ownsRow_nil _ _ _ _) (some ⟨P.heap.size + 1 + 1, 0, none⟩) 1 1 [.slice (some ⟨P.heap.size + 1, 0, none⟩) 1 1, .slice none 0 0] rfl (fun h => by cases h) rfl (fun ad e => by cases e; exact HNW.out) (by simp [Value.oneCell']) (by unfold maxLen; omega) (by omega) (by simp; omega) ?_)
  intro v8 wB hoB hgB
  obtain ⟨s8, c8, rfl⟩ := owns_cut hoB
  have hgA : ((P.alloc (.cells #[.slice none 0 0, .int .i64 1, .int .i64 1] 32)).alloc (.cells #[.int .i64 0, .int .i64 0] 49)).grownBy wB none := grown_trans (World.grownBy_alloc _ _ none) hgB
  have hbB : wB.heap[P.heap.size]? = some (.cells #[.slice none 0 0, .int .i64 1, .int .i64 1] 32 (0, 0)) := box_kept HA1.out (grown_trans (World.grownBy_alloc _ _ none) hgA)
  obtain ⟨bx, hbx⟩ : ∃ b, b = P.heap.size := ⟨_, rfl⟩
  have HD0 : Hid (DbP P wB bx (.slice none 0 0) 1 1 (.slice s8 1 c8) 1 (fun _ => .slice (some ⟨P.heap.size + 1, 0, none⟩) 1 1) (fun _ => .slice none 0 0) (fun i => [[((0 : Int), (0 : Int))]].getD i []) (elF []) (fun _ _ => False)) := by
    refine ⟨grown_trans (World.grownBy_alloc _ _ none) (grown_trans (World.grownBy_alloc _ _ none) hgA), by rw [hbx]; exact hbB, hoB, fun i hi => ?_, fun i hi => World.ownsRow_nil _ _ _ _, fun i j _ _ _ => .inl rfl, by rw [hbx]; exact Nat.le_refl _, fun v l h => h.elim⟩
    obtain rfl : i = 0 := by omega
    exact ⟨rfl, .inr ⟨P.heap.size + 1, 1, #[.int .i64 0, .int .i64 0], rfl, by omega, box_kept HA2.out hgA, Nat.le_refl _, by unfold maxLen; omega, rfl, rfl⟩⟩
  have HD1 : Hid (DbAt P (wB.setCell ⟨bx, 0, none⟩ (.slice s8 1 c8)) bx [[(0, 0)]] ((askN [] : Nat) : Int) (elF []) (fun _ _ => False)) := ⟨s8, c8, _, _, HD0.out.setS _⟩
  obtain ⟨k0, _, _⟩ := HD0.out.cells
  have kf := HD0.out.free 0
  rw [← hbx]
  clear hoB hgB hgA hbB HA1 HA2 HNW HD0 hbx
  go_wp2_with fail
  obtain ⟨X5, hX5⟩ : ∃ X5, X5 = wB.setCell ⟨bx, 0, none⟩ (.slice s8 1 c8) := ⟨_, rfl⟩
  rw [← hX5] at HD1
  try rw [← hX5]
  clear k0 kf hX5
  go_loopg [6] 256 (fun gk v6 wr => ∃ (i : Nat) (ks : List (List It)) (es : List (List (Nat × Nat))), autoF (GG tn n L R) S i = some (ks, es) ∧ i ≤ ks.length ∧ gk = 256 - i ∧ v6 = .int .i64 i ∧ DbAt P wr bx ks (askN es : Int) (elF es) (fun _ _ => False))
  case atStart => exact ⟨0, [[(0, 0)]], [], rfl, Nat.zero_le _, rfl, rfl, HD1.out⟩
  case round =>
    obtain ⟨i, ks, es, hau, hi, hgi, rfl, hmk⟩ := hrel
    have HGI : Hid (gk = 256 - i) := hgi
    have HA : Hid (autoF (GG tn n L R) S i = some (ks, es)) := hau
    obtain ⟨hAO, hAN⟩ := HAU.out i ks es hau
    have HAO : Hid (AuOK (PJ n R) (GG tn n L R) S i ks es) := hAO
    obtain ⟨sa, sc, kv, ev, hD⟩ := hmk
    have HD : Hid (DbP P wr bx (.slice sa ks.length sc) (askN es : Int) (ks.length : Int) (.slice sa ks.length sc) ks.length kv ev (fun i => ks.getD i []) (elF es) (fun _ _ => False)) := hD
    obtain ⟨N, hN⟩ : ∃ n, n = ks.length := ⟨_, rfl⟩
    have HN : Hid (N = ks.length) := hN
    have hN256 : N ≤ 256 := by rw [hN]; exact hAO.kok.le
    obtain ⟨y0, y1, y2⟩ := hD.cells
    rw [← hN] at hi y0 y2
    by_cases hlt : i < N
    · have hid : decide (i < N) = true := decide_eq_true hlt
      have hi0 : (0 : Int) ≤ (i : Int) := by omega
      have hi1 : (i : Int) < (N : Int) := by omega
      have hil : i < ks.length := by rw [← hN]; exact hlt
      obtain ⟨sb, sc2, hse, hscell⟩ := owns_at hD.row (by omega)
      simp only [Value.slice.injEq] at hse
      obtain ⟨rfl, _, rfl⟩ := hse
      have hr1 := hscell _ _ (stV_at kv ev ks.length i hil).1
      obtain ⟨ka, kc, hkv⟩ := owns_cut (hD.ker i hil)
      have hkr := hD.ker i hil
      rw [hkv] at hr1 hkr
      have hqb : (ks.getD i []).length ≤ 3328001 := by
        have h1 := (hAO.kok.each i hil).2
        have h3 : 13000 * i ≤ 13000 * 256 := Nat.mul_le_mul_left _ (by omega)
        omega
      obtain ⟨kq, hkq⟩ : ∃ q, q = (ks.getD i []).length := ⟨_, rfl⟩
      have HCC : Hid (∀ Y, wr.grownBy Y none → Calls Try.prog 27 #[.agg #[.slice ta tn tc, .slice na nn nc, .slice la ln lc, .int .i64 st, .slice pa n pc], .slice ka kq kc] Y fun e y => CloTold tn n L R (ks.getD i []) Y e y) := fun Y hY => by
        rw [hkq]
        exact HCS.out Y ka kc (ks.getD i []) (grown_trans HP1.out.grown (grown_trans hD.grown hY)) (ItsAt.of (keep0 hkr hY)) (by omega) (hAO.kok.each i hil).1
      have HKS : Hid (∀ Y, wr.grownBy Y none → (Y.cell? ⟨w.heap.size, 0, none⟩ = some (.slice ta tn tc) ∧ Y.cell? ⟨w.heap.size, 1, none⟩ = some (.slice na nn nc) ∧ Y.cell? ⟨w.heap.size, 2, none⟩ = some (.slice la ln lc) ∧ Y.cell? ⟨w.heap.size, 3, none⟩ = some (.int .i64 st) ∧ Y.cell? ⟨w.heap.size, 4, none⟩ = some (.slice pa n pc)) ∧ Y.cell? ⟨bx, 0, none⟩ = some (.slice (some ⟨sb, 0, none⟩) N sc) ∧ Y.cell? ⟨sb, i * 2, none⟩ = some (.slice ka kq kc)) := fun Y hY => ⟨(HP1.out.kept (grown_trans hD.grown hY)).cells, hY.cell y0 (by simp), by rw [hkq]; exact hY.cell hr1 (by simp)⟩
      have HQB : Hid ((ks.getD i []).length ≤ 3328001) := hqb
      have HUP : Hid (wr.grownBy wr.drew none) := grown_drewN _ 1
      clear hgi hau hAO hD hN hscell hr1 hkv hkr hqb hkq hil y1 y2 HD1
      go_wp2_with fail
      clear y0
      go_region_held3 (fun Y => (Y.cell? ⟨w.heap.size, 0, none⟩ = some (.slice ta tn tc) ∧ Y.cell? ⟨w.heap.size, 1, none⟩ = some (.slice na nn nc) ∧ Y.cell? ⟨w.heap.size, 2, none⟩ = some (.slice la ln lc) ∧ Y.cell? ⟨w.heap.size, 3, none⟩ = some (.int .i64 st) ∧ Y.cell? ⟨w.heap.size, 4, none⟩ = some (.slice pa n pc)) ∧ Y.cell? ⟨bx, 0, none⟩ = some (.slice (some ⟨sb, 0, none⟩) N sc) ∧ Y.cell? ⟨sb, i * 2, none⟩ = some (.slice ka kq kc)) (first | exact HKS.out _ HUP.out | exact HKS.out _ HG4.out | go_keep)
        ((first
          | (go_at_call 27; refine Calls.mono (HCC.out _ HUP.out) ?_; rintro e w4 ⟨l, hIC, hll, a3, c3, rfl, ho3, hg4⟩; have HG4 : Hid (wr.grownBy w4 none) := grown_trans HUP.out hg4; have HIC : Hid (IsClo tn n L R (ks.getD i []) l ∧ l.length ≤ (ks.getD i []).length + 13000) := ⟨hIC, hll⟩; have HO3 : Hid (w4.ownsRow wr.drew.heap.size 49 2 (.slice a3 l.length c3) l.length (itsV l)) := ho3; clear hIC hll ho3 hg4)
          | fail))
      have HIM : Hid (∀ x ∈ l, itB n R x = true) := fun x hx => ((HIC.out.1.mem x).1 hx).item (HAO.out.kok.each i (by rw [← HN.out]; exact hlt)).1
      have HGE : Hid (GG tn n L R (ks.getD i []) = fun s : Nat => kerT R l (s : Int)) := GG_eq HIC.out.1 HIC.out.2
      have HIL : Hid (i < ks.length) := by show _ < _; rw [← HN.out]; exact hlt
      have HLV : Hid (∀ s ks' ed, leaveF (fun s : Nat => kerT R l (s : Int)) ks s = some (ks', ed) → KsOK (PJ n R) ks' ∧ ks <+: ks' ∧ ed.length ≤ s) := fun s ks' ed h => by
        obtain ⟨h1, h2, h3, _⟩ := HAO.out.kok.leave (G := fun s : Nat => kerT R l (s : Int)) (fun m t hm => PJ.ker (HAO.out.kok.each i HIL.out) HIM.out HIC.out.2 (Nat.lt_of_lt_of_le HIL.out hm)) s h
        exact ⟨h1, h2, h3⟩
      have HLB : Hid (l.length ≤ 3341001) := by have h1 := HIC.out.2; have h2 := HQB.out; show _ ≤ _; omega
      have HEI : Hid (es.length = i) := by show _ = _; rw [HAO.out.len]; have := HIL.out; omega
      have HE0 : Hid (updL (elF es) i (edI []) = elF es) := by
        have h := elF_out (es := es) (j := i) (by rw [HEI.out]; exact Nat.le_refl _)
        refine funext fun j => ?_
        by_cases e : j = i
        · rw [e, updL_same, h]; rfl
        · rw [updL_other _ _ e]
      have HL1 : Hid (leaveF (fun s : Nat => kerT R l (s : Int)) ks 1 = some (ks, [])) := leaveF_skip rfl (by have h := HZ.out (ks.getD i []) (HAO.out.kok.each i HIL.out).1; rw [HGE.out] at h; exact h)
      obtain ⟨ak, hak⟩ : ∃ a : Nat, a = askN es := ⟨_, rfl⟩
      have HAK : Hid (ak = askN es) := hak
      have hakb : ak ≤ 33281 := by rw [hak]; exact hAN
      obtain ⟨q, hq⟩ : ∃ q, q = l.length := ⟨_, rfl⟩
      have HQ : Hid (q = l.length) := hq
      obtain ⟨Q1, hQ1⟩ : ∃ Q : Value → List It → Prop, Q = fun v m => v = .slice a3 q c3 ∧ m = l := ⟨_, rfl⟩
      have HQ1 : Hid (Q1 = fun v m => v = .slice a3 q c3 ∧ m = l) := hQ1
      have HD4 : Hid (DbAt P w4 bx ks ((ak + ([] : List (Nat × Nat)).length : Nat) : Int) (updL (elF es) i (edI [])) Q1) := by
        rw [HE0.out, List.length_nil, Nat.add_zero, hak]
        refine ⟨_, _, kv, ev, (HD.out.kept HG4.out).mono fun v m hm => ?_⟩
        rw [hQ1] at hm
        obtain ⟨rfl, rfl⟩ := hm
        rw [hq]
        exact owns_base HO3.out (Nat.le_trans HD.out.grown.size HUP.out.size)
      have HGF : Hid (∀ Y (s : Int), w.grownBy Y none → ItsAt Y a3 l → Calls Try.prog 28 #[.agg #[.slice ta tn tc, .slice na nn nc, .slice la ln lc, .int .i64 st, .slice pa n pc], .int .i64 s, .slice a3 q c3] Y fun e y => ItsTold (kerT R l s) Y e y) := fun Y s hY hI => by
        rw [hq]
        exact HFR.out Y a3 c3 l s hY hI (by have := HLB.out; omega) HIM.out HIC.out.1.asc
      rw [← hq]
      clear hq hak hQ1 hAN HKS HUP HCC HO3 HD
      go_wp2_with fail
      go_loopg [8] (S - 1) (fun gk v8 wr => ∃ (s : Nat) (ks' : List (List It)) (ed : List (Nat × Nat)), s ≤ S ∧ gk = S - s ∧ v8 = .int .i64 s ∧ leaveF (fun s : Nat => kerT R l (s : Int)) ks s = some (ks', ed) ∧ DbAt P wr bx ks' ((ak + ed.length : Nat) : Int) (updL (elF es) i (edI ed)) Q1)
      case atStart => exact ⟨1, ks, [], hS1, rfl, rfl, HL1.out, HD4.out⟩
      case round =>
        obtain ⟨s, ks', ed, hs, hgs, rfl, hlv, hD5⟩ := hrel
        have HGS : Hid (gk = S - s) := hgs
        have HLF : Hid (leaveF (fun s : Nat => kerT R l (s : Int)) ks s = some (ks', ed)) := hlv
        have HD5 : Hid (DbAt P wr bx ks' ((ak + ed.length : Nat) : Int) (updL (elF es) i (edI ed)) Q1) := hD5
        obtain ⟨hk1, hk2, hk3⟩ := HLV.out _ _ _ hlv
        obtain ⟨em, hem⟩ : ∃ m, m = ed.length := ⟨_, rfl⟩
        have HEM : Hid (em = ed.length) := hem
        have hems : em ≤ S := by omega
        have HK1 : Hid (KsOK (PJ n R) ks') := hk1
        have HI5 : Hid (i < ks'.length) := Nat.lt_of_lt_of_le HIL.out hk2.length_le
        rw [← hem] at HD5
        clear hgs hlv hD5 hk1 hk2 hk3 hem HD4
        obtain ⟨k0, k1, k2, k3, k4⟩ := (HP1.out.kept HD5.out.grown).cells
        go_wp2_with fail
        refine Calls.mono (HSY.out _) ?_
        rintro e w5 ⟨rfl, hg5⟩
        have HD6 : Hid (DbAt P w5 bx ks' ((ak + em : Nat) : Int) (updL (elF es) i (edI ed)) Q1) := HD5.out.kept hg5
        clear hg5 HD5 k0 k1 k2 k3 k4
        obtain ⟨k0, k1, k2, k3, k4⟩ := (HP1.out.kept HD6.out.grown).cells
        by_cases hlt2 : s < S
        · have hsd : decide (s < S) = true := decide_eq_true hlt2
          have HFC : Hid (Calls Try.prog 28 #[.agg #[.slice ta tn tc, .slice na nn nc, .slice la ln lc, .int .i64 st, .slice pa n pc], .int .i64 (s : Int), .slice a3 q c3] w5 fun e y => ItsTold (kerT R l (s : Int)) w5 e y) := by
            obtain ⟨sa5, sc5, kv5, ev5, h5⟩ := HD6.out
            have h6 := h5.pas (.slice a3 q c3) l (by rw [HQ1.out]; exact ⟨rfl, rfl⟩)
            exact HGF.out w5 (s : Int) (grown_trans HP1.out.grown h5.grown) (ItsAt.of (by rw [← HQ.out]; rw [← HQ.out] at h6; exact h6))
          go_wp2_with fail
          refine Calls.mono HFC.out ?_
          rintro e w6 ⟨a9, c9, rfl, ho9, hg6⟩
          obtain ⟨K, hK⟩ : ∃ K, K = kerT R l (s : Int) := ⟨_, rfl⟩
          have HKK : Hid (K = kerT R l (s : Int)) := hK
          have HKL : Hid (K.length ≤ 3341001) := by show _ ≤ _; rw [hK]; exact Nat.le_trans (kerT_len R l (s : Int)) HLB.out
          rw [← hK] at ho9 ⊢
          obtain ⟨kl, hkl⟩ : ∃ k, k = K.length := ⟨_, rfl⟩
          have HKN : Hid (kl = K.length) := hkl
          rw [← hkl] at ho9 ⊢
          have HO9 : Hid (w6.ownsRow P.heap.size 49 2 (.slice a9 kl c9) kl (itsV K)) := owns_base ho9 HD6.out.grown.size
          have HD7 : Hid (DbAt P w6 bx ks' ((ak + em : Nat) : Int) (updL (elF es) i (edI ed)) Q1) := HD6.out.kept hg6
          clear hK hkl ho9 hg6 HFC HD6 k0 k1 k2 k3 k4
          by_cases hk0 : kl = 0
          · have hkz : ((kl : Int) == 0) = true := beq_iff_eq.2 (by omega)
            have hkz1 : (kl == 0) = true := beq_iff_eq.2 hk0
            have HLF2 : Hid (leaveF (fun s : Nat => kerT R l (s : Int)) ks (s + 1) = some (ks', ed)) := leaveF_skip HLF.out (by show kerT R l (s : Int) = []; rw [← HKK.out]; exact List.eq_nil_of_length_eq_zero (by rw [← HKN.out]; exact hk0))
            clear hk0
            go_wp2_with fail
            go_roundg (S - (s + 1))
            case measure => have := HGS.out; omega
            case rel => exact ⟨s + 1, ks', ed, by omega, rfl, by go_num, HLF2.out, by rw [← HEM.out]; exact HD7.out⟩
          · have hkz : ((kl : Int) == 0) = false := beq_eq_false_iff_ne.2 (by omega)
            have hkz1 : (kl == 0) = false := beq_eq_false_iff_ne.2 hk0
            have HNE : Hid (kerT R l (s : Int) ≠ []) := by
              intro h
              rw [← HKK.out] at h
              exact hk0 (by rw [HKN.out, h]; rfl)
            obtain ⟨sa7, sc7, kv7, ev7, hD7⟩ := HD7.out
            obtain ⟨c, hc⟩ : ∃ c, c = ak + em := ⟨_, rfl⟩
            have HCA : Hid (c = ak + em) := hc
            have hcb : c ≤ 100000 := by omega
            obtain ⟨Q2, hQ2⟩ : ∃ Q : Value → List It → Prop, Q = fun v m => Q1 v m ∨ (v = .slice a9 kl c9 ∧ m = K) := ⟨_, rfl⟩
            have HQ2 : Hid (Q2 = fun v m => Q1 v m ∨ (v = .slice a9 kl c9 ∧ m = K)) := hQ2
            have hD7' : DbP P w6 bx (.slice sa7 ks'.length sc7) (c : Int) (ks'.length : Int) (.slice sa7 ks'.length sc7) ks'.length kv7 ev7 (fun i => ks'.getD i []) (updL (elF es) i (edI ed)) Q2 := by
              rw [hc]
              refine hD7.mono fun v m hm => ?_
              rw [hQ2] at hm
              rcases hm with hm | ⟨rfl, rfl⟩
              · exact hD7.pas v m hm
              · rw [← HKN.out]; exact HO9.out
            have hD8 := hD7'.setA ((c : Int) + 1)
            obtain ⟨X8, hX8⟩ : ∃ X, X = w6.setCell ⟨bx, 1, none⟩ (.int .i64 ((c : Int) + 1)) := ⟨_, rfl⟩
            have HX8 : Hid (X8 = w6.setCell ⟨bx, 1, none⟩ (.int .i64 ((c : Int) + 1))) := hX8
            rw [← hX8] at hD8
            obtain ⟨-, y1, -⟩ := hD7'.cells
            have f1 := hD7'.free 1
            obtain ⟨z0, -, -⟩ := hD8.cells
            obtain ⟨M, hM⟩ : ∃ m, m = ks'.length := ⟨_, rfl⟩
            have HM : Hid (M = ks'.length) := hM
            have hM256 : M ≤ 256 := by rw [hM]; exact HK1.out.le
            have hiM : i < M := by rw [hM]; exact HI5.out
            have hwc : IntKind.i64.wrap ((c : Int) + 1) = (c : Int) + 1 := by rw [IntKind.wrap_i64]; omega
            obtain ⟨pv, hpv⟩ : ∃ v, v = placeV ks' K := ⟨_, rfl⟩
            have HPL : Hid (Calls Try.prog 29 #[.slice sa7 M sc7, .slice a9 kl c9] X8 fun e y => e = .returned (.int .i64 pv) ∧ X8.grownBy y none) := by
              obtain ⟨pa7, pc7, h7⟩ := hD8.kers
              have h8 := hD8.pas (.slice a9 kl c9) K (by rw [hQ2]; exact .inr ⟨rfl, rfl⟩)
              rw [hM, hpv, HKN.out]
              rw [HKN.out] at h8
              refine rplace_any sa7 a9 sc7 c9 ks' pa7 pc7 K X8 h7 (ItsAt.of h8) HK1.out.le (fun j hj => ?_) (by have := HKL.out; omega)
              have h1 := (HK1.out.each j hj).2
              have h2 := HK1.out.le
              have h4 : 13000 * j ≤ 13000 * 256 := Nat.mul_le_mul_left _ (by omega)
              omega
            have HD8 : Hid (DbP P X8 bx (.slice sa7 M sc7) ((c : Int) + 1) (M : Int) (.slice sa7 M sc7) M kv7 ev7 (fun i => ks'.getD i []) (updL (elF es) i (edI ed)) Q2) := by rw [hM]; exact hD8
            rw [← hM] at z0
            rw [hX8] at z0
            have HPV : Hid (pv = placeV ks' K) := hpv
            clear hc hQ2 hD7 hD7' hD8 hX8 hM hpv HD7 HO9
            go_wp2_with fail
            rw [← HX8.out]
            refine Calls.mono HPL.out ?_
            rintro e w9 ⟨rfl, hg9⟩
            have HD9 : Hid (DbP P w9 bx (.slice sa7 M sc7) ((c : Int) + 1) (M : Int) (.slice sa7 M sc7) M kv7 ev7 (fun i => ks'.getD i []) (updL (elF es) i (edI ed)) Q2) := HD8.out.kept hg9
            clear hg9 y1 f1 z0 HPL HX8 HD8
            have hcs : K ∈ ks' ∨ (K ∉ ks' ∧ M < 256) ∨ (K ∉ ks' ∧ 256 ≤ M) := by
              by_cases h1 : K ∈ ks'
              · exact .inl h1
              · by_cases h2 : M < 256
                · exact .inr (.inl ⟨h1, h2⟩)
                · exact .inr (.inr ⟨h1, by omega⟩)
            rcases hcs with hm | ⟨hm, hf⟩ | ⟨hm, hf⟩
            case' inl =>
              obtain ⟨t, ht⟩ : ∃ t, t = ks'.idxOf K := ⟨_, rfl⟩
              obtain ⟨ks2, hks2⟩ : ∃ k, k = ks' := ⟨_, rfl⟩
              have HAF : Hid (askF ks' K = some (t, ks2)) := by
                show _ = _
                unfold askF
                rw [if_pos hm, ht, hks2]
              obtain rfl : pv = (t : Int) := by
                have := HPV.out
                unfold placeV at this
                rw [if_pos hm] at this
                rw [this, ht]
              have HD2 : Hid (DbAt P w9 bx ks2 ((c : Int) + 1) (updL (elF es) i (edI ed)) Q1) := by
                rw [hks2]
                refine ⟨sa7, sc7, kv7, ev7, ?_⟩
                have h := HD9.out.mono (Q' := Q1) fun v m hm => HD9.out.pas v m (by rw [HQ2.out]; exact .inl hm)
                rw [← HM.out]; exact h
              obtain ⟨X2, rfl⟩ : ∃ X, X = w9 := ⟨_, rfl⟩
              have htd : decide ((t : Int) < 0) = false := decide_eq_false (by omega)
              clear hm ht hks2 HD9 HPV
              go_wp2_with fail
            case' inr.inr =>
              have HNO : Hid (leaveF (fun s : Nat => kerT R l (s : Int)) ks S = none) := leaveF_full HLF.out HNE.out (by
                show askF ks' (kerT R l (s : Int)) = _
                rw [← HKK.out]
                unfold askF
                rw [if_neg hm, if_neg (by rw [← HM.out]; omega)]) hlt2
              have HN2 : Hid (autoF (GG tn n L R) S 256 = none) := by
                have hst := autoF_step HA.out HIL.out
                rw [HGE.out, HNO.out] at hst
                have h9 := autoF_none hst (256 - (i + 1))
                rwa [show i + 1 + (256 - (i + 1)) = 256 by omega] at h9
              obtain rfl : pv = -1 := by
                have := HPV.out
                unfold placeV at this
                rw [if_neg hm] at this
                exact this
              have HB9 : Hid (w9.heap[w.heap.size + 1]? = some (.cells #[.slice none 0 0, .int .i64 0, .int .i64 0] 32 (0, 0))) := box_kept HB1.out HD9.out.grown
              have HG9 : Hid (w.grownBy w9 none) := grown_trans HP1.out.grown HD9.out.grown
              obtain ⟨z0, -, -⟩ := HD9.out.cells
              have hfd : decide (256 ≤ M) = true := decide_eq_true hf
              have hfd2 : decide ((256 : Int) ≤ (M : Int)) = true := decide_eq_true (by omega)
              have k0 := cell_of_row w9 (w.heap.size + 1) 0 _ _ _ HB9.out
              have k1 := cell_of_row w9 (w.heap.size + 1) 1 _ _ _ HB9.out
              have k2 := cell_of_row w9 (w.heap.size + 1) 2 _ _ _ HB9.out
              have kf := fun j => frozen_of_row w9 (w.heap.size + 1) j _ _ HB9.out
              simp only [List.getElem?_toArray, List.getElem?_cons_zero, List.getElem?_cons_succ] at k0 k1 k2
              clear hm HD9 HPV
              go_wp2_with fail
              refine bodyPost_ret (v := .tuple #[.agg #[.slice none 0 0, .int .i64 0, .int .i64 0], .int .i64 11]) ?_ rfl ?_
              · exact results_rbuild _ _ (w.heap.size + 1) _ _ rfl rfl (set3_heap HB9.out _ _ _) rfl
              · exact .inr ⟨HN2.out, rfl, grown_new HG9.out (set3_grown _ _ _ _ _) (by omega)⟩
            case' inr.inl =>
              obtain rfl : pv = -1 := by
                have := HPV.out
                unfold placeV at this
                rw [if_neg hm] at this
                exact this
              have HAF0 : Hid (askF ks' K = some (M, ks' ++ [K])) := by
                show _ = _
                unfold askF
                rw [if_neg hm, if_pos (by rw [← HM.out]; exact hf), HM.out]
              obtain ⟨z0, -, z2⟩ := HD9.out.cells
              have f2 := HD9.out.free 2
              have hfd : decide (256 ≤ M) = false := decide_eq_false (by omega)
              have hfd2 : decide ((256 : Int) ≤ (M : Int)) = false := decide_eq_false (by omega)
              have hwm : IntKind.i64.wrap ((M : Int) + 1) = (M : Int) + 1 := by rw [IntKind.wrap_i64]; omega
              have hD10 := HD9.out.setI ((M : Int) + 1)
              have HD11 : Hid (DbP P ((w9.setCell ⟨bx, 2, none⟩ (.int .i64 ((M : Int) + 1))).alloc (.cells #[.slice a9 kl c9, .slice none 0 0] 53)) bx (.slice sa7 M sc7) ((c : Int) + 1) ((M : Int) + 1) (.slice sa7 M sc7) M kv7 ev7 (fun i => ks'.getD i []) (updL (elF es) i (edI ed)) Q2) := hD10.kept (World.grownBy_alloc _ _ none)
              obtain ⟨x0, -, -⟩ := hD10.cells
              have HNS : Hid (∀ j z, [Value.slice a9 kl c9, Value.slice none 0 0][j]? = some z → ((w9.setCell ⟨bx, 2, none⟩ (.int .i64 ((M : Int) + 1))).alloc (.cells #[.slice a9 kl c9, .slice none 0 0] 53)).cell? ((⟨(w9.setCell ⟨bx, 2, none⟩ (.int .i64 ((M : Int) + 1))).heap.size, 0, none⟩ : Addr).add j) = some z) := World.news_of_block (heap_alloc_last _ _)
              have e9 : (w9.setCell ⟨bx, 2, none⟩ (.int .i64 ((M : Int) + 1))).heap.size = w9.heap.size := by simp
              rw [e9] at HNS
              clear hm HPV hD10 e9
              go_wp2_with (at_builtin; refine wpList_append_srcW rfl (.tmp 74) (.tmp 77) 30 rfl P.heap.size 53 i2 (.agg #[.slice none 0 0, .slice none 0 0]) 2 48 Try.underlying30 hi2 hu0 hu1 hu2 rfl (by decide) (.slice sa7 M sc7) M (stV kv7 ev7 M) rfl HD11.out.row (some ⟨w9.heap.size, 0, none⟩) 1 1 [.slice a9 kl c9, .slice none 0 0] rfl (fun h => by cases h) rfl (fun ad e => by cases e; exact HNS.out) (by simp [Value.oneCell']) (by unfold maxLen; omega) (by omega) HD11.out.grown.size ?_)
              intro v12 wB hoB hgB
              obtain ⟨s12, c12, rfl⟩ := owns_cut hoB
              have hkk := HD11.out.pas (.slice a9 kl c9) K (by rw [HQ2.out]; exact .inr ⟨rfl, rfl⟩)
              have hD12 := HD11.out.pushS (rv' := .slice s12 (M + 1) c12) hkk hgB hoB
              have hD13 := hD12.setS (.slice s12 (M + 1) c12)
              obtain ⟨x0, -, -⟩ := hD12.cells
              have xf := hD12.free 0
              have HD2 : Hid (DbAt P (wB.setCell ⟨bx, 0, none⟩ (.slice s12 (M + 1) c12)) bx (ks' ++ [K]) ((c : Int) + 1) (updL (elF es) i (edI ed)) Q1) := by
                have e1 : updL (fun i => ks'.getD i []) M K = fun i => (ks' ++ [K]).getD i [] := by rw [HM.out]; exact db_more
                have e2 : updL (updL (elF es) i (edI ed)) M [] = updL (elF es) i (edI ed) := db_none fun j hj => by
                  rw [updL_other _ _ (by omega)]
                  exact elF_out (by rw [HEI.out]; omega)
                have e3 : (ks' ++ [K]).length = M + 1 := by rw [List.length_append, ← HM.out]; rfl
                rw [e1, e2] at hD13
                have h := hD13.mono (Q' := Q1) fun v m hm => hD13.pas v m (by rw [HQ2.out]; exact .inl hm)
                refine ⟨s12, c12, updL kv7 M (.slice a9 kl c9), updL ev7 M (.slice none 0 0), ?_⟩
                rw [e3]
                exact h
              clear hoB hgB hkk hD12 hD13 HD11 HNS HD9 z0 z2 f2
              go_wp2_with fail
              obtain ⟨X2, hX2⟩ : ∃ X, X = wB.setCell ⟨bx, 0, none⟩ (.slice s12 (M + 1) c12) := ⟨_, rfl⟩
              rw [← hX2] at HD2
              rw [← hX2]
              obtain ⟨ks2, hks2⟩ : ∃ k, k = ks' ++ [K] := ⟨_, rfl⟩
              rw [← hks2] at HD2 HAF0
              clear hX2 hks2 x0 xf hfd hfd2 hwm
              obtain ⟨t, rfl⟩ : ∃ t, t = M := ⟨_, rfl⟩
              have HAF : Hid (askF ks' K = some (t, ks2)) := HAF0.out
              clear HAF0
            all_goals
              have HLF2 : Hid (leaveF (fun s : Nat => kerT R l (s : Int)) ks (s + 1) = some (ks2, ed ++ [(s, t)])) := leaveF_push HLF.out HNE.out (by show askF ks' (kerT R l (s : Int)) = _; rw [← HKK.out]; exact HAF.out)
              have HL2 : Hid (i < ks2.length ∧ ks2.length ≤ 256) := by
                obtain ⟨h1, h2, _⟩ := HLV.out _ _ _ HLF2.out
                exact ⟨Nat.lt_of_lt_of_le HIL.out h2.length_le, h1.le⟩
              obtain ⟨sa2, sc2, kv2, ev2, hD2⟩ := HD2.out
              obtain ⟨sb2, sc3, hse2, hscell2⟩ := owns_at hD2.row (by have := HL2.out; omega)
              simp only [Value.slice.injEq] at hse2
              obtain ⟨rfl, _, rfl⟩ := hse2
              have r1 := hscell2 _ _ (stV_at kv2 ev2 ks2.length i HL2.out.1).2
              obtain ⟨ea, ec, hev⟩ := owns_cut (hD2.edg i HL2.out.1)
              have her := hD2.edg i HL2.out.1
              rw [hev] at r1 her
              simp only [updL_same] at r1 her
              rw [edI_len, ← HEM.out] at r1 her
              obtain ⟨N2, hN2⟩ : ∃ m, m = ks2.length := ⟨_, rfl⟩
              obtain ⟨x0, -, -⟩ := hD2.cells
              have hiN2 : (i : Int) < (N2 : Int) := by have := HL2.out.1; omega
              rw [← hN2] at x0
              have HRC : Hid (∀ Y, X2.grownBy Y none → Y.cell? ⟨bx, 0, none⟩ = some (.slice (some ⟨sb2, 0, none⟩) N2 sc2) ∧ Y.cell? ⟨sb2, i * 2 + 1, none⟩ = some (.slice ea em ec)) := fun Y hY => ⟨hY.cell x0 (by simp), hY.cell r1 (by simp)⟩
              have HOW : Hid (∀ Y, X2.grownBy Y none → Y.ownsRow P.heap.size 59 2 (.slice ea em ec) em (itsV (edI ed))) := fun Y hY => keep0 her hY
              have HPS : Hid (∀ Y, X2.grownBy Y none → P.heap.size ≤ Y.heap.size) := fun Y hY => (hD2.kept hY).grown.size
              have HFIN : Hid (∀ (Y Z : World) (g c' : Nat), X2.grownBy Y none → Y.grownBy Z (Value.slice ea em ec).ownBlock → Z.ownsRow P.heap.size 59 2 (.slice (some ⟨g, 0, none⟩) (em + 1) c') (em + 1) (itsV (edI ed) ++ [.int .i64 (s : Int), .int .i64 (t : Int)]) → ((Value.slice ea em ec).ownBlock = some g ∨ g = Y.heap.size) →
                  DbAt P (Z.setCell ⟨sb2, i * 2 + 1, none⟩ (.slice (some ⟨g, 0, none⟩) (em + 1) c')) bx ks2 ((ak + (ed ++ [(s, t)]).length : Nat) : Int) (updL (elF es) i (edI (ed ++ [(s, t)]))) Q1 ∧ Z.cell? ⟨sb2, i * 2 + 1, none⟩ = some (.slice ea em ec) ∧ Z.frozen? ⟨sb2, i * 2 + 1, none⟩ = false ∧ Z.cell? ⟨bx, 0, none⟩ = some (.slice (some ⟨sb2, 0, none⟩) N2 sc2)) := fun Y Z g c' hY hg ho hat => by
                have hl : (edI (ed ++ [(s, t)])).length = em + 1 := by rw [edI_len, List.length_append, ← HEM.out]; rfl
                have hE := (hD2.kept hY).pushE (i := i) (g := g) (c := c') (ed := edI (ed ++ [(s, t)])) HL2.out.1 (by rw [hev]; simp only [updL_same]; rw [edI_len, ← HEM.out]; exact hg) (by rw [hl, edI_snoc, itsV_append]; exact ho) (by rw [hev]; simp only [updL_same]; rw [edI_len, ← HEM.out]; exact hat)
                have hS9 := hE.set rfl HL2.out.1
                refine ⟨?_, ?_, ?_, ?_⟩
                · have e1 : updL (updL (elF es) i (edI ed)) i (edI (ed ++ [(s, t)])) = updL (elF es) i (edI (ed ++ [(s, t)])) := funext fun j => by
                    by_cases e : j = i
                    · rw [e, updL_same, updL_same]
                    · rw [updL_other _ _ e, updL_other _ _ e, updL_other _ _ e]
                  have e2 : ((ak + (ed ++ [(s, t)]).length : Nat) : Int) = (c : Int) + 1 := by
                    have h1 : (ed ++ [(s, t)]).length = em + 1 := by rw [List.length_append, ← HEM.out]; rfl
                    have h2 := HCA.out
                    omega
                  rw [e1, hl] at hS9
                  rw [e2]
                  exact ⟨_, _, _, _, hS9⟩
                · obtain ⟨g9, c9', e9, h9⟩ := owns_at hE.row (by have := HL2.out; omega)
                  simp only [Value.slice.injEq, Option.some.injEq, Addr.mk.injEq] at e9
                  obtain ⟨⟨rfl, _⟩, _⟩ := e9
                  rw [h9 _ _ (stV_at kv2 ev2 ks2.length i HL2.out.1).2, hev]
                  simp only [updL_same]
                  rw [edI_len, ← HEM.out]
                · rcases hE.row.2 with ⟨h1, _⟩ | ⟨g9, cap9, cur9, h1, _, hh, _⟩
                  · cases h1
                  · simp only [Value.slice.injEq, Option.some.injEq, Addr.mk.injEq] at h1
                    obtain ⟨⟨rfl, _⟩, _⟩ := h1
                    exact frozen_of_row _ _ _ _ _ hh
                · rw [hE.cells, hN2]
              obtain ⟨x1, x2⟩ := HRC.out X2 (grown_refl _ _)
              have x3 : ∀ o, (X2.alloc o).cell? ⟨bx, 0, none⟩ = some (.slice (some ⟨sb2, 0, none⟩) N2 sc2) := fun o => (HRC.out _ (World.grownBy_alloc _ _ none)).1
              have x4 : ∀ o, (X2.alloc o).cell? ⟨sb2, i * 2 + 1, none⟩ = some (.slice ea em ec) := fun o => (HRC.out _ (World.grownBy_alloc _ _ none)).2
              obtain ⟨xs, hxs⟩ : ∃ xs, xs = itsV (edI ed) := ⟨_, rfl⟩
              rw [← hxs] at HOW HFIN
              clear hD2 hscell2 hev her hN2 hxs x0 r1 HD2
              refine rb_edgeq (X2 := X2) (B := P.heap.size) (bx := bx) (sb2 := sb2) (N2 := N2) (sc2 := sc2) (i := i) (s := s) (t := t) (em := em) (ec := ec) (ea := ea) (xs := xs) x1 x2 x3 x4 hiN2 (by omega) HOW.out HPS.out ?_
              intro Y9 Z9 g9 c9 hY9 hg9 ho9 hat9
              obtain ⟨q1, q2, q3, q4⟩ := HFIN.out Y9 Z9 g9 c9 hY9 hg9 ho9 hat9
              refine ⟨q2, q3, q4, ?_⟩
              intro u80 u81 u82 u83 u84 u85 u86 u87 u88 u89 u90 u91 u92 u93 u94 u95
              have HQ9 := show Hid _ from q1
              clear q1 q2 q3 q4 hY9 hg9 ho9 hat9 x1 x2 x3 x4
              go_wp2_with fail
              go_roundg (S - (s + 1))
              case measure => have := HGS.out; omega
              case rel => exact ⟨s + 1, ks2, ed ++ [(s, t)], by omega, rfl, by go_num, HLF2.out, HQ9.out⟩
        · have hsS : S = s := by omega
          subst hsS
          have hsd : decide (S < S) = false := decide_eq_false (by omega)
          have HA2 : Hid (autoF (GG tn n L R) S (i + 1) = some (ks', es ++ [ed])) := by
            have hst := autoF_step HA.out HIL.out
            rw [HGE.out, HLF.out] at hst
            exact hst
          have HDN : Hid (DbAt P w5 bx ks' ((askN (es ++ [ed]) : Nat) : Int) (elF (es ++ [ed])) (fun _ _ => False)) := by
            obtain ⟨sa5, sc5, kv5, ev5, h5⟩ := HD6.out
            refine ⟨sa5, sc5, kv5, ev5, ?_⟩
            have h6 := h5.mono (Q' := fun _ _ => False) fun v m hm => hm.elim
            rw [← elF_snoc, askN_snoc, HEI.out, ← HAK.out, ← HEM.out]
            exact h6
          go_wp2_with fail
          go_roundg (256 - (i + 1))
          case measure => have := HGI.out; omega
          case rel => exact ⟨i + 1, ks', es ++ [ed], HA2.out, HI5.out, rfl, by go_num, HDN.out⟩
    · have hiN : N = i := by omega
      subst hiN
      have hid : decide (N < N) = false := decide_eq_false (by omega)
      have HA2 : Hid (autoF (GG tn n L R) S 256 = some (ks, es)) := by
        have h9 := autoF_stay HA.out (by rw [← HN.out]; exact Nat.le_refl _) (256 - N)
        rwa [show N + (256 - N) = 256 by omega] at h9
      have HB9 : Hid (wr.heap[w.heap.size + 1]? = some (.cells #[.slice none 0 0, .int .i64 0, .int .i64 0] 32 (0, 0))) := box_kept HB1.out HD.out.grown
      have HG9 : Hid (w.grownBy wr none) := grown_trans HP1.out.grown HD.out.grown
      have HAP : Hid (AutP w.heap.size wr (.slice sa ks.length sc) ks (elF es) kv ev) := ⟨owns_base HD.out.row HP1.out.grown.size, fun i hi => owns_base (HD.out.ker i hi) HP1.out.grown.size, fun i hi => owns_base (HD.out.edg i hi) HP1.out.grown.size⟩
      have k0 := cell_of_row wr (w.heap.size + 1) 0 _ _ _ HB9.out
      have k1 := cell_of_row wr (w.heap.size + 1) 1 _ _ _ HB9.out
      have k2 := cell_of_row wr (w.heap.size + 1) 2 _ _ _ HB9.out
      have kf := fun j => frozen_of_row wr (w.heap.size + 1) j _ _ HB9.out
      simp only [List.getElem?_toArray, List.getElem?_cons_zero, List.getElem?_cons_succ] at k0 k1 k2
      obtain ⟨ask, hask⟩ : ∃ a, a = (askN es : Int) := ⟨_, rfl⟩
      have HASK : Hid (ask = (askN es : Int)) := hask
      rw [← hask] at y1
      clear hask hau hAO hD HD HD1 hN hAN hgi
      go_wp2_with fail
      refine bodyPost_ret (v := .tuple #[.agg #[.slice sa N sc, .int .i64 ask, .int .i64 (N : Int)], .int .i64 0]) ?_ rfl ?_
      · exact results_rbuild _ _ (w.heap.size + 1) _ _ rfl rfl (set3_heap HB9.out _ _ _) rfl
      · refine .inl ⟨ks, es, sa, sc, kv, ev, HA2.out, ?_, ?_, grown_new HG9.out (set3_grown _ _ _ _ _) (by omega)⟩
        · rw [HASK.out, ← HN.out]
        · exact HAP.out.box HB9.out (by decide) (by decide) (by decide) (set3_grown _ _ _ _ _)
end

end Go.Proofs.Ytdijjlhodlghbaa.J

/-
  lr0: the document's Same, of two automata that are the same.
-/
namespace Go.Proofs.Ytdijjlhodlghbaa.J
open Go.RowKit Go.Maps Go.Shelf

attribute [local go_sem] Oper.semAt_some

theorem neq_edge (p d p' d' : Int) (w : World) : (binOp .neq 59 (.agg #[.int .i64 p, .int .i64 d]) (.agg #[.int .i64 p', .int .i64 d'])).run Try.prog w = .ok (.bool (!(p == p' && d == d'))) w := by
  have u3 := Try.underlying3
  have a3 := Try.isAgg3
  have z3 := Try.sizeOf3
  have hS : Try.prog.underlying 59 = some (.struct (Try.prog.fieldsOf 59)) := by kernel_rfl
  have hp : Try.prog.stoodInHeld 59 = false := by kernel_rfl
  rw [run_neq_struct, show (10000 : Nat) = 9999 + 1 from rfl, run_equalIn_agg w 9999 59 _ _ hS hp]
  simp only [Program.fieldsOf, Try.underlying59]
  go_simp
  by_cases h1 : p = p' <;> by_cases h2 : d = d' <;> simp [h1, h2]

set_option maxRecDepth 100000 in
set_option maxHeartbeats 4000000 in
theorem sameAuto_any (sa sb : Option Addr) (sc sd : Nat) (ask nI : Int) (w : World) (B B' : Nat) (ks : List (List It)) (el : Nat → List It) (kv ev kv' ev' : Nat → Value) (hA : AutP B w (.slice sa ks.length sc) ks el kv ev) (hB : AutP B' w (.slice sb ks.length sd) ks el kv' ev') (hks : ks.length ≤ 256) (hkb : ∀ i, i < ks.length → (ks.getD i []).length ≤ 1099511627776000) (heb : ∀ i, i < ks.length → (el i).length ≤ 1000) :
    Calls Try.prog 13 #[.agg #[.slice sa ks.length sc, .int .i64 ask, .int .i64 nI], .agg #[.slice sb ks.length sd, .int .i64 ask, .int .i64 nI]] w fun e y => e = .returned (.bool true) ∧ w.grownBy y none := by
  obtain ⟨N, hN⟩ : ∃ n, n = ks.length := ⟨_, rfl⟩
  have HN : Hid (N = ks.length) := hN
  have HA : Hid (∀ Y, w.grownBy Y none → AutP B Y (.slice sa N sc) ks el kv ev) := fun Y hY => by rw [hN]; exact hA.kept hY
  have HB : Hid (∀ Y, w.grownBy Y none → AutP B' Y (.slice sb N sd) ks el kv' ev') := fun Y hY => by rw [hN]; exact hB.kept hY
  have HKB : Hid (∀ i, i < N → (ks.getD i []).length ≤ 1099511627776000) := by rw [hN]; exact hkb
  have HEB : Hid (∀ i, i < N → (el i).length ≤ 1000) := by rw [hN]; exact heb
  have HG0 : Hid (w.grownBy ((w.alloc (.cells #[.slice sa N sc, .int .i64 ask, .int .i64 nI] 32)).alloc (.cells #[.slice sb N sd, .int .i64 ask, .int .i64 nI] 32)) none) := grown_trans (World.grownBy_alloc _ _ none) (World.grownBy_alloc _ _ none)
  have HBA : Hid (((w.alloc (.cells #[.slice sa N sc, .int .i64 ask, .int .i64 nI] 32)).alloc (.cells #[.slice sb N sd, .int .i64 ask, .int .i64 nI] 32)).heap[w.heap.size]? = some (.cells #[.slice sa N sc, .int .i64 ask, .int .i64 nI] 32 (0, 0))) := box_kept (heap_alloc_last w _) (World.grownBy_alloc _ _ none)
  have HBB : Hid (((w.alloc (.cells #[.slice sa N sc, .int .i64 ask, .int .i64 nI] 32)).alloc (.cells #[.slice sb N sd, .int .i64 ask, .int .i64 nI] 32)).heap[w.heap.size + 1]? = some (.cells #[.slice sb N sd, .int .i64 ask, .int .i64 nI] 32 (0, 0))) := by
    have h := heap_alloc_last (w.alloc (.cells #[.slice sa N sc, .int .i64 ask, .int .i64 nI] 32)) (.cells #[.slice sb N sd, .int .i64 ask, .int .i64 nI] 32)
    rw [World.size_alloc] at h; exact h
  rw [← hN] at hks
  rw [← hN]
  have hq1 : (ask != ask) = false := bne_self_eq_false _
  have hq2 : (nI != nI) = false := bne_self_eq_false _
  have hq3 : ((N : Int) != (N : Int)) = false := bne_self_eq_false _
  have hq4 : (N != N) = false := bne_self_eq_false _
  have hnq := neq_edge
  clear hA hB hkb heb hN
  go_enter Try.func13, Try.ntmps13
  go_wp2_with fail
  obtain ⟨W, hW⟩ : ∃ W, W = (w.alloc (.cells #[.slice sa N sc, .int .i64 ask, .int .i64 nI] 32)).alloc (.cells #[.slice sb N sd, .int .i64 ask, .int .i64 nI] 32) := ⟨_, rfl⟩
  rw [← hW] at HG0 HBA HBB ⊢
  clear hW
  go_loopg [5] N (fun gk v5 wr => ∃ i : Nat, i ≤ N ∧ gk = N - i ∧ v5 = .int .i64 i ∧ W.grownBy wr none)
  case atStart => exact ⟨0, Nat.zero_le _, rfl, rfl, grown_refl _ _⟩
  case round =>
    obtain ⟨i, hi, hgi, rfl, hg⟩ := hrel
    have HGI : Hid (gk = N - i) := hgi
    have HG : Hid (W.grownBy wr none) := hg
    have y0 : wr.cell? ⟨w.heap.size, 0, none⟩ = some (.slice sa N sc) := by rw [cell_of_row _ _ _ _ _ _ (box_kept HBA.out hg)]; rfl
    clear hgi hg
    by_cases hlt : i < N
    · have hid : decide (i < N) = true := decide_eq_true hlt
      have hi0 : (0 : Int) ≤ (i : Int) := by omega
      have hi1 : (i : Int) < (N : Int) := by omega
      have hil : i < ks.length := by rw [← HN.out]; exact hlt
      have hAw := HA.out wr (grown_trans HG0.out HG.out)
      have hBw := HB.out wr (grown_trans HG0.out HG.out)
      rw [HN.out] at hAw hBw
      obtain ⟨ga, ca, ha0, r0, r1⟩ := hAw.st hil
      obtain ⟨gb, cb, hb0, r2, r3⟩ := hBw.st hil
      simp only [Value.slice.injEq] at ha0 hb0
      obtain ⟨rfl, _, rfl⟩ := ha0
      obtain ⟨rfl, _, rfl⟩ := hb0
      obtain ⟨ka, kc, hk1, hk2, _⟩ := hAw.kerAt hil
      obtain ⟨kb, kd, hk3, hk4, _⟩ := hBw.kerAt hil
      obtain ⟨ea, ec, he1, he2⟩ := hAw.edgAt hil
      obtain ⟨eb, ed, he3, he4⟩ := hBw.edgAt hil
      rw [hk1] at r0
      rw [he1] at r1
      rw [hk3] at r2
      rw [he3] at r3
      obtain ⟨K, hK⟩ : ∃ k, k = (ks.getD i []).length := ⟨_, rfl⟩
      obtain ⟨E, hE⟩ : ∃ k, k = (el i).length := ⟨_, rfl⟩
      have HE : Hid (E = (el i).length) := hE
      have hEb : E ≤ 1000 := by rw [hE]; exact HEB.out i hlt
      have HSM : Hid (∀ Y, wr.grownBy Y none → Calls Try.prog 21 #[.slice ka K kc, .slice kb K kd] Y fun e y => e = .returned (.bool true) ∧ Y.grownBy y none) := fun Y hY => by
        rw [hK]
        exact sameItems_any ka kb kc kd _ _ Y (hk2.kept hY) (hk4.kept hY) (HKB.out i hlt) (HKB.out i hlt) true ⟨fun _ => rfl, fun _ => rfl⟩
      have HEA : Hid (∀ Y, wr.grownBy Y none → ItsAt Y ea (el i) ∧ ItsAt Y eb (el i)) := fun Y hY => ⟨he2.kept hY, he4.kept hY⟩
      rw [← hK] at r0 r2
      rw [← hE] at r1 r3
      obtain ⟨T1, hT1⟩ : ∃ T, T = wr.alloc (.cells #[.slice ka K kc, .slice ea E ec] 53) := ⟨_, rfl⟩
      obtain ⟨T2, hT2⟩ : ∃ T, T = T1.alloc (.cells #[.slice kb K kd, .slice eb E ed] 53) := ⟨_, rfl⟩
      have HT1 : Hid (T1 = wr.alloc (.cells #[.slice ka K kc, .slice ea E ec] 53)) := hT1
      have HT2 : Hid (T2 = T1.alloc (.cells #[.slice kb K kd, .slice eb E ed] 53)) := hT2
      have g1 : wr.grownBy T1 none := by rw [hT1]; exact World.grownBy_alloc _ _ none
      have g2 : T1.grownBy T2 none := by rw [hT2]; exact World.grownBy_alloc _ _ none
      have HG2 : Hid (wr.grownBy T2 none) := grown_trans g1 g2
      have HX1 : Hid (T2.heap[wr.heap.size]? = some (.cells #[.slice ka K kc, .slice ea E ec] 53 (0, 0))) := by
        refine box_kept ?_ g2
        rw [hT1]; exact heap_alloc_last wr _
      have HX2 : Hid (T2.heap[wr.heap.size + 1]? = some (.cells #[.slice kb K kd, .slice eb E ed] 53 (0, 0))) := by
        have h := heap_alloc_last T1 (.cells #[.slice kb K kd, .slice eb E ed] 53)
        rw [hT2]
        have e : T1.heap.size = wr.heap.size + 1 := by rw [hT1, World.size_alloc]
        rw [e] at h; exact h
      have z0 : T1.cell? ⟨w.heap.size + 1, 0, none⟩ = some (.slice (some ⟨gb, 0, none⟩) N sd) := by rw [cell_of_row _ _ _ _ _ _ (box_kept HBB.out (grown_trans HG.out g1))]; rfl
      have z2 := g1.cell r2 (by simp)
      have z3 := g1.cell r3 (by simp)
      have x0 : T2.cell? ⟨wr.heap.size, 0, none⟩ = some (.slice ka K kc) := by rw [cell_of_row _ _ _ _ _ _ HX1.out]; rfl
      have x1 : T2.cell? ⟨wr.heap.size + 1, 0, none⟩ = some (.slice kb K kd) := by rw [cell_of_row _ _ _ _ _ _ HX2.out]; rfl
      rw [hT1] at z0 z2 z3
      rw [hT2, hT1] at x0 x1
      clear hAw hBw hk1 hk2 hk3 hk4 he1 he2 he3 he4 hK hE hil hT1 hT2 g1 g2 r2 r3
      go_wp2_with fail
      rw [← HT1.out, ← HT2.out]
      refine Calls.mono (HSM.out _ HG2.out) ?_
      rintro e w5 ⟨rfl, hg5⟩
      have HG5 : Hid (wr.grownBy w5 none) := grown_trans HG2.out hg5
      have HX5 : Hid (∀ Y, w5.grownBy Y none → Y.cell? ⟨wr.heap.size, 1, none⟩ = some (.slice ea E ec) ∧ Y.cell? ⟨wr.heap.size + 1, 1, none⟩ = some (.slice eb E ed)) := fun Y hY => ⟨by rw [cell_of_row _ _ _ _ _ _ (box_kept HX1.out (grown_trans hg5 hY))]; rfl, by rw [cell_of_row _ _ _ _ _ _ (box_kept HX2.out (grown_trans hg5 hY))]; rfl⟩
      obtain ⟨b0, b1⟩ := HX5.out w5 (grown_refl _ _)
      have hee : ((E : Int) != (E : Int)) = false := bne_self_eq_false _
      have hee2 : (E != E) = false := bne_self_eq_false _
      clear hg5 y0 r0 r1 z0 z2 z3 x0 x1
      generalize wr = W0 at *
      go_wp2_with fail
      clear b0 b1
      go_loopg [9] E (fun gk v9 wr => ∃ j : Nat, j ≤ E ∧ gk = E - j ∧ v9 = .int .i64 j ∧ w5.grownBy wr none)
      case atStart => exact ⟨0, Nat.zero_le _, rfl, rfl, grown_refl _ _⟩
      case round =>
        obtain ⟨j, hj, hgj, rfl, hg⟩ := hrel
        have HGJ : Hid (gk = E - j) := hgj
        have HGR : Hid (w5.grownBy wr none) := hg
        clear hgj hg
        obtain ⟨b0, b1⟩ := HX5.out wr HGR.out
        by_cases hjt : j < E
        · have hjd : decide (j < E) = true := decide_eq_true hjt
          have hj0 : (0 : Int) ≤ (j : Int) := by omega
          have hj1 : (j : Int) < (E : Int) := by omega
          have hjl : j < (el i).length := by rw [← HE.out]; exact hjt
          obtain ⟨h1, h2⟩ := HEA.out wr (grown_trans HG5.out HGR.out)
          obtain ⟨ab, ao, rfl, c0, c1⟩ := h1.cellAt hjl
          obtain ⟨bb, bo, rfl, c2, c3⟩ := h2.cellAt hjl
          obtain ⟨x, hx⟩ : ∃ x, x = (el i).getD j (0, 0) := ⟨_, rfl⟩
          rw [← hx] at c0 c1 c2 c3
          obtain ⟨p, d⟩ := x
          simp only at c0 c1 c2 c3
          have hpp : (p == p) = true := beq_self_eq_true _
          have hdd : (d == d) = true := beq_self_eq_true _
          clear h1 h2 hx hjl
          go_wp2_with fail
          go_quiet (fail)
          go_wp2_with fail
          go_roundg (E - (j + 1))
          case measure => have := HGJ.out; omega
          case rel => exact ⟨j + 1, by omega, rfl, by go_num, by first | exact HGR.out | exact grown_trans HGR.out (grown_drewN _ _)⟩
        · have hjE : E = j := by omega
          subst hjE
          have hjd : decide (E < E) = false := decide_eq_false (by omega)
          go_wp2_with fail
          go_roundg (N - (i + 1))
          case measure => have := HGI.out; omega
          case rel => exact ⟨i + 1, by omega, rfl, by go_num, grown_trans HG.out (grown_trans HG5.out HGR.out)⟩
    · have hiN : N = i := by omega
      subst hiN
      have hid : decide (N < N) = false := decide_eq_false (by omega)
      go_wp2_with fail
      go_ret
      exact ⟨rfl, grown_trans HG0.out HG.out⟩

end Go.Proofs.Ytdijjlhodlghbaa.J
