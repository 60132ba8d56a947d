import Derived.Test.YthoamlahbnphkaaGreatQajjpilehdknd
import Derived.Laws.AppendOwnNone
import Derived.Test.YthoamlahbnphkaaGreatQclnnonbocidb

/-
  Grammar of the document's builder: what is being made, step by step.
-/
namespace Go.Proofs.YthoamlahbnphkaaGreat
open Go.RowKit Go.Maps Go.Shelf

/-- An append of a row wherever it lies, nil or not, within a region that draws its order. -/
theorem step_append_src {w : World} {ops : Array Oper} {o : Oper} {a : Act} {K : Act → World → Prop} {Q : Exit → Act → World → Prop} {E : Prop} (hg : o.guard = none) (s x : Operand) (t : TypeId)
    (ho : o.op = .call { callee := .builtin .append, args := #[s, x], argTypes := #[t, t] })
    (base : Nat) (e : TypeId) (i : TypeInfo) (z : Value) (size bytes : Nat) (ht : Tryz.prog.underlying t = some (.slice e)) (hi : Tryz.prog.info? e = some i) (hz : i.zero = some z)
    (hsize : i.size = size) (hby : i.bytes = bytes) (hzs : z.cells.size = size) (hsz : 0 < size)
    (v : Value) (n : Nat) (xs : List Value) (hs : a.eval s = v) (hown : w.ownsRow base e size v n xs)
    (xo : Option Addr) (m c : Nat) (news : List Value) (hx : a.eval x = .slice xo m c) (hnil : xo = none → m = 0 ∧ c = 0) (hl : news.length = m * size) (hnews : ∀ ad, xo = some ad → ∀ j u, news[j]? = some u → w.cell? (ad.add j) = some u) (h1 : ∀ u ∈ news, u.oneCell' = true)
    (h63 : n + m ≤ maxLen) (hbytes : (n + m) * bytes ≤ 140737488355328) (hbase : base ≤ w.heap.size)
    (h : ∀ v' w', w'.ownsRow base e size v' (n + m) (xs ++ news) → w.grownBy w' v.ownBlock → K (a.put o.dst v') w') :
    if Region.wanted o (yielded ops a.tmps) = true then Oper.wp Tryz.prog o a w K Q else E := by
  have hw : Region.wanted o (yielded ops a.tmps) = true := by simp [Region.wanted, hg]
  rw [if_pos hw]
  cases xo with
  | some ad => exact wp_append_own w s x t ho base e i z size bytes ht hi hz hsize hby hzs hsz v n xs hs hown ad m c news hx hl (hnews ad rfl) h1 h63 hbytes hbase fun v' w' h2 h3 _ => h v' w' h2 h3
  | none =>
    obtain ⟨rfl, rfl⟩ := hnil rfl
    have hn0 : news = [] := List.eq_nil_of_length_eq_zero (by simpa using hl)
    subst hn0
    have hrun := run_append_owned_none (P := Tryz.prog) (w := w) base t o.type e i size ht hi v n xs hown
    have hk := h v w (by simpa using hown) ⟨rfl, rfl, rfl, Nat.le_refl _, fun _ _ _ => rfl⟩
    unfold Oper.wp
    simp [execOp, ho, resolve, invoke, builtin, hs, hx, hrun, Result.andThen]
    exact hk

/-- The grammar that is being made: the result's cell, the places, the grammar's box and its lists; all behind Y. -/
structure GbAt (Y : World) (H : Nat) (wz : World) (vt vn vl vp : Value) (st : Int) (ts : List (ByteArray × Int)) (ns : List ByteArray) (lv : List Int) (N : Nat) (pl : Nat → Int) (ps : List PR) : Prop where
  hH : Y.heap.size + 2 ≤ H
  grown : Y.grownBy wz none
  res : wz.heap[Y.heap.size]? = some (.cells #[.slice none 0 0, .slice none 0 0, .slice none 0 0, .int .i64 0, .slice none 0 0] 27 (0, 0))
  place : wz.heap[Y.heap.size + 1]? = some (.cells ((List.range N).map fun i => Value.int .i64 (pl i)).toArray 3 (0, 0))
  box : wz.heap[H + 1]? = some (.cells #[vt, vn, vl, .int .i64 st, vp] 27 (0, 0))
  tr : wz.ownsRow (H) 88 2 vt ts.length (tmsL ts)
  nr : wz.ownsRow (H + 2) 9 1 vn ns.length (ns.map Value.string)
  lr : wz.ownsRow (H + 2) 3 1 vl lv.length (lv.map (Value.int .i64))
  pr : ∃ rs : List Value, rs.length = ps.length ∧ wz.ownsRow (H + 2) 71 3 vp ps.length ((ps.zip rs).flatMap fun x => prL x.1 x.2) ∧
    ∀ i, i < ps.length → wz.ownsRow (H + 2) 3 1 (rs.getD i undef) (ps.getD i ⟨0, [], 0⟩).right.length ((ps.getD i ⟨0, [], 0⟩).right.map (Value.int .i64))

section
variable {Y : World} {H : Nat} {wz w' : World} {vt vn vl vp : Value} {st : Int} {ts : List (ByteArray × Int)} {ns : List ByteArray} {lv : List Int} {N : Nat} {pl : Nat → Int} {ps : List PR}

theorem GbAt.lt (h : GbAt Y H wz vt vn vl vp st ts ns lv N pl ps) : H + 1 < wz.heap.size := (Array.getElem?_eq_some_iff.1 h.box).1
theorem GbAt.kept (h : GbAt Y H wz vt vn vl vp st ts ns lv N pl ps) (hg : wz.grownBy w' none) : GbAt Y H w' vt vn vl vp st ts ns lv N pl ps := by
  have hlt := h.lt
  have hH := h.hH
  obtain ⟨rs, e1, e2, e3⟩ := h.pr
  exact ⟨h.hH, grown_trans h.grown hg, (hg.block _ (by omega) (by simp)).trans h.res, (hg.block _ (by omega) (by simp)).trans h.place, (hg.block _ (by omega) (by simp)).trans h.box, h.tr.kept hg (none_ne rfl), h.nr.kept hg (none_ne rfl), h.lr.kept hg (none_ne rfl),
    rs, e1, e2.kept hg (none_ne rfl), fun i hi => (e3 i hi).kept hg (none_ne rfl)⟩
theorem GbAt.cells (h : GbAt Y H wz vt vn vl vp st ts ns lv N pl ps) : wz.cell? ⟨H + 1, 0, none⟩ = some vt ∧ wz.cell? ⟨H + 1, 1, none⟩ = some vn ∧ wz.cell? ⟨H + 1, 2, none⟩ = some vl ∧ wz.cell? ⟨H + 1, 3, none⟩ = some (.int .i64 st) ∧ wz.cell? ⟨H + 1, 4, none⟩ = some vp := by
  refine ⟨?_, ?_, ?_, ?_, ?_⟩ <;> rw [cell_of_row _ _ _ _ _ _ h.box] <;> rfl
theorem GbAt.free (h : GbAt Y H wz vt vn vl vp st ts ns lv N pl ps) (i : Nat) : wz.frozen? ⟨H + 1, i, none⟩ = false := frozen_of_row _ _ i _ _ h.box
theorem GbAt.placeAt (h : GbAt Y H wz vt vn vl vp st ts ns lv N pl ps) {i : Nat} (hi : i < N) : wz.cell? ⟨Y.heap.size + 1, i, none⟩ = some (.int .i64 (pl i)) ∧ wz.frozen? ⟨Y.heap.size + 1, i, none⟩ = false := by
  refine ⟨?_, frozen_of_row _ _ i _ _ h.place⟩
  rw [cell_of_row _ _ _ _ _ _ h.place]
  simp [hi]
theorem GbAt.resAt (h : GbAt Y H wz vt vn vl vp st ts ns lv N pl ps) : wz.cell? ⟨Y.heap.size, 0, none⟩ = some (.slice none 0 0) ∧ wz.cell? ⟨Y.heap.size, 1, none⟩ = some (.slice none 0 0) ∧ wz.cell? ⟨Y.heap.size, 2, none⟩ = some (.slice none 0 0) ∧ wz.cell? ⟨Y.heap.size, 3, none⟩ = some (.int .i64 0) ∧ wz.cell? ⟨Y.heap.size, 4, none⟩ = some (.slice none 0 0) := by
  refine ⟨?_, ?_, ?_, ?_, ?_⟩ <;> rw [cell_of_row _ _ _ _ _ _ h.res] <;> rfl
theorem GbAt.resFree (h : GbAt Y H wz vt vn vl vp st ts ns lv N pl ps) (i : Nat) : wz.frozen? ⟨Y.heap.size, i, none⟩ = false := frozen_of_row _ _ i _ _ h.res

/-- A row that has grown by one of its own kind, in its place or elsewhere. -/
theorem GbAt.grew (h : GbAt Y H wz vt vn vl vp st ts ns lv N pl ps) {v : Value} {B e s n : Nat} {xs : List Value} (hv : wz.ownsRow B e s v n xs) (hB : H ≤ B) (he : e ≠ 27) (hg : wz.grownBy w' v.ownBlock) :
    Y.grownBy w' none ∧ w'.heap[Y.heap.size]? = some (.cells #[.slice none 0 0, .slice none 0 0, .slice none 0 0, .int .i64 0, .slice none 0 0] 27 (0, 0)) ∧ w'.heap[Y.heap.size + 1]? = some (.cells ((List.range N).map fun i => Value.int .i64 (pl i)).toArray 3 (0, 0)) ∧ w'.heap[H + 1]? = some (.cells #[vt, vn, vl, .int .i64 st, vp] 27 (0, 0)) := by
  have hlt := h.lt
  have hH := h.hH
  have hne : ∀ q, v.ownBlock = some q → H ≤ q ∧ q ≠ H + 1 := fun q hq => by
    refine ⟨Nat.le_trans hB (hv.lt q hq).1, fun e1 => ?_⟩
    rcases owns_nebox hv h.box he with h1 | h1
    · rw [h1] at hq; cases hq
    · exact h1 (by rw [hq, e1])
  refine ⟨?_, (hg.block _ (by omega) (fun e1 => by have := hne _ e1.symm; omega)).trans h.res, (hg.block _ (by omega) (fun e1 => by have := hne _ e1.symm; omega)).trans h.place, (hg.block _ (by omega) (fun e1 => (hne _ e1.symm).2 rfl)).trans h.box⟩
  cases hq : v.ownBlock with
  | none => rw [hq] at hg; exact grown_trans h.grown hg
  | some q => rw [hq] at hg; exact grown_new h.grown hg (by have := (hne q hq).1; omega)

/-- A store into the box. -/
theorem GbAt.boxed {vt' vn' vl' vp' : Value} {st' : Int} {i : Nat} {u : Value} (hH : Y.heap.size + 2 ≤ H) (hG : Y.grownBy wz none) (hres : wz.heap[Y.heap.size]? = some (.cells #[.slice none 0 0, .slice none 0 0, .slice none 0 0, .int .i64 0, .slice none 0 0] 27 (0, 0))) (hpl : wz.heap[Y.heap.size + 1]? = some (.cells ((List.range N).map fun i => Value.int .i64 (pl i)).toArray 3 (0, 0)))
    (hbox : wz.heap[H + 1]? = some (.cells #[vt, vn, vl, .int .i64 st, vp] 27 (0, 0))) (hset : (#[vt, vn, vl, .int .i64 st, vp] : Array Value).setIfInBounds i u = #[vt', vn', vl', .int .i64 st', vp'])
    (tr : wz.ownsRow (H) 88 2 vt' ts.length (tmsL ts)) (nr : wz.ownsRow (H + 2) 9 1 vn' ns.length (ns.map Value.string)) (lr : wz.ownsRow (H + 2) 3 1 vl' lv.length (lv.map (Value.int .i64)))
    (rs : List Value) (e1 : rs.length = ps.length) (e2 : wz.ownsRow (H + 2) 71 3 vp' ps.length ((ps.zip rs).flatMap fun x => prL x.1 x.2)) (e3 : ∀ i, i < ps.length → wz.ownsRow (H + 2) 3 1 (rs.getD i undef) (ps.getD i ⟨0, [], 0⟩).right.length ((ps.getD i ⟨0, [], 0⟩).right.map (Value.int .i64))) :
    GbAt Y H (wz.setCell ⟨H + 1, i, none⟩ u) vt' vn' vl' vp' st' ts ns lv N pl ps := by
  have hst := grown_setCell (w := wz) (H + 1) i u
  have hlt : H + 1 < wz.heap.size := (Array.getElem?_eq_some_iff.1 hbox).1
  refine ⟨hH, grown_new hG hst (by omega), (hst.block _ (by omega) (by simp <;> omega)).trans hres, (hst.block _ (by omega) (by simp <;> omega)).trans hpl, by rw [heap_setCell_same wz _ _ _ _ _ hbox, hset], tr.kept hst (owns_nebox tr hbox (by decide)), nr.kept hst (owns_nebox nr hbox (by decide)), lr.kept hst (owns_nebox lr hbox (by decide)), rs, e1, e2.kept hst (owns_nebox e2 hbox (by decide)), fun j hj => (e3 j hj).kept hst (owns_nebox (e3 j hj) hbox (by decide))⟩

theorem base_ne {w : World} {B B' e e' s s' n n' : Nat} {v v' : Value} {xs xs' : List Value} (h : w.ownsRow B e s v n xs) (h' : w.ownsRow B' e' s' v' n' xs') (he : e ≠ e') : v.ownBlock = none ∨ v.ownBlock ≠ v'.ownBlock := owns_ne h h' he

/-- The terminals: the end marker, and the builder's. -/
theorem GbAt.setT {v' : Value} {ts' : List (ByteArray × Int)} (h : GbAt Y H wz vt vn vl vp st ts ns lv N pl ps) (hg : wz.grownBy w' vt.ownBlock) (ho : w'.ownsRow (H) 88 2 v' ts'.length (tmsL ts')) : GbAt Y H (w'.setCell ⟨H + 1, 0, none⟩ v') v' vn vl vp st ts' ns lv N pl ps := by
  obtain ⟨g1, g2, g3, g4⟩ := h.grew h.tr (Nat.le_refl _) (by decide) hg
  obtain ⟨rs, e1, e2, e3⟩ := h.pr
  exact GbAt.boxed h.hH g1 g2 g3 g4 rfl ho (h.nr.kept hg (owns_ne h.nr h.tr (by decide))) (h.lr.kept hg (owns_ne h.lr h.tr (by decide))) rs e1 (e2.kept hg (owns_ne e2 h.tr (by decide))) (fun i hi => (e3 i hi).kept hg (owns_ne (e3 i hi) h.tr (by decide)))
/-- The levels' sides: while there are no productions. -/
theorem GbAt.setL {v' : Value} {lv' : List Int} (h : GbAt Y H wz vt vn vl vp st ts ns lv N pl []) (hg : wz.grownBy w' vl.ownBlock) (ho : w'.ownsRow (H + 2) 3 1 v' lv'.length (lv'.map (Value.int .i64))) : GbAt Y H (w'.setCell ⟨H + 1, 2, none⟩ v') vt vn v' vp st ts ns lv' N pl [] := by
  obtain ⟨g1, g2, g3, g4⟩ := h.grew h.lr (by omega) (by decide) hg
  obtain ⟨rs, e1, e2, e3⟩ := h.pr
  exact GbAt.boxed h.hH g1 g2 g3 g4 rfl (h.tr.kept hg (owns_ne h.tr h.lr (by decide))) (h.nr.kept hg (owns_ne h.nr h.lr (by decide))) ho rs e1 (e2.kept hg (owns_ne e2 h.lr (by decide))) (fun i hi => by simp at hi)
/-- A nonterminal more. -/
theorem GbAt.pushN {v' : Value} {ns' : List ByteArray} (h : GbAt Y H wz vt vn vl vp st ts ns lv N pl ps) (hg : wz.grownBy w' vn.ownBlock) (ho : w'.ownsRow (H + 2) 9 1 v' ns'.length (ns'.map Value.string)) : GbAt Y H (w'.setCell ⟨H + 1, 1, none⟩ v') vt v' vl vp st ts ns' lv N pl ps := by
  obtain ⟨g1, g2, g3, g4⟩ := h.grew h.nr (by omega) (by decide) hg
  obtain ⟨rs, e1, e2, e3⟩ := h.pr
  exact GbAt.boxed h.hH g1 g2 g3 g4 rfl (h.tr.kept hg (owns_ne h.tr h.nr (by decide))) ho (h.lr.kept hg (owns_ne h.lr h.nr (by decide))) rs e1 (e2.kept hg (owns_ne e2 h.nr (by decide))) (fun i hi => (e3 i hi).kept hg (owns_ne (e3 i hi) h.nr (by decide)))
theorem GbAt.setStart {x : Int} (h : GbAt Y H wz vt vn vl vp st ts ns lv N pl ps) : GbAt Y H (wz.setCell ⟨H + 1, 3, none⟩ (.int .i64 x)) vt vn vl vp x ts ns lv N pl ps := by
  obtain ⟨rs, e1, e2, e3⟩ := h.pr
  exact GbAt.boxed h.hH h.grown h.res h.place h.box rfl h.tr h.nr h.lr rs e1 e2 e3
/-- A place. -/
theorem GbAt.setPlace {i : Nat} {x : Int} (h : GbAt Y H wz vt vn vl vp st ts ns lv N pl ps) : GbAt Y H (wz.setCell ⟨Y.heap.size + 1, i, none⟩ (.int .i64 x)) vt vn vl vp st ts ns lv N (updL pl i x) ps := by
  have hst := grown_setCell (w := wz) (Y.heap.size + 1) i (.int .i64 x)
  have hlt := h.lt
  have hH := h.hH
  have ne : ∀ {B e s n : Nat} {v : Value} {xs : List Value}, wz.ownsRow B e s v n xs → H ≤ B → v.ownBlock = none ∨ v.ownBlock ≠ some (Y.heap.size + 1) := fun {B e s n v xs} ho hB => by
    cases hv : v.ownBlock with
    | none => exact .inl rfl
    | some q => right; intro e1; have := (ho.lt q hv).1; simp at e1; omega
  obtain ⟨rs, e1, e2, e3⟩ := h.pr
  refine ⟨hH, grown_new h.grown hst (by omega), (hst.block _ (by omega) (by simp <;> omega)).trans h.res, ?_, (hst.block _ (by omega) (by simp <;> omega)).trans h.box, h.tr.kept hst (ne h.tr (Nat.le_refl _)), h.nr.kept hst (ne h.nr (by omega)), h.lr.kept hst (ne h.lr (by omega)), rs, e1, e2.kept hst (ne e2 (by omega)), fun j hj => (e3 j hj).kept hst (ne (e3 j hj) (by omega))⟩
  rw [heap_setCell_same wz _ _ _ _ _ h.place]
  congr 2
  apply Array.ext'
  rw [Array.toList_setIfInBounds]
  apply List.ext_getElem
  · simp
  · intro j h1 h2
    rw [List.getElem_set]
    by_cases e : i = j
    · subst e; simp [updL]
    · rw [if_neg e]; simp [updL, show ¬ j = i from fun x => e x.symm]
/-- A production more: its right side lies in a row of its own. -/
theorem GbAt.pushP {v' v : Value} {p : PR} (h : GbAt Y H wz vt vn vl vp st ts ns lv N pl ps) (hg : wz.grownBy w' vp.ownBlock) (hv : wz.ownsRow (H + 2) 3 1 v p.right.length (p.right.map (Value.int .i64)))
    (rs : List Value) (e1 : rs.length = ps.length) (e2 : wz.ownsRow (H + 2) 71 3 vp ps.length ((ps.zip rs).flatMap fun x => prL x.1 x.2)) (e3 : ∀ i, i < ps.length → wz.ownsRow (H + 2) 3 1 (rs.getD i undef) (ps.getD i ⟨0, [], 0⟩).right.length ((ps.getD i ⟨0, [], 0⟩).right.map (Value.int .i64)))
    (ho : w'.ownsRow (H + 2) 71 3 v' (ps.length + 1) (((ps.zip rs).flatMap fun x => prL x.1 x.2) ++ prL p v)) : GbAt Y H (w'.setCell ⟨H + 1, 4, none⟩ v') vt vn vl v' st ts ns lv N pl (ps ++ [p]) := by
  obtain ⟨g1, g2, g3, g4⟩ := h.grew e2 (by omega) (by decide) hg
  have e : (((ps ++ [p]).zip (rs ++ [v])).flatMap fun x => prL x.1 x.2) = ((ps.zip rs).flatMap fun x => prL x.1 x.2) ++ prL p v := by
    rw [List.zip_append e1.symm, List.flatMap_append]
    simp
  refine GbAt.boxed h.hH g1 g2 g3 g4 rfl (h.tr.kept hg (owns_ne h.tr e2 (by decide))) (h.nr.kept hg (owns_ne h.nr e2 (by decide))) (h.lr.kept hg (owns_ne h.lr e2 (by decide))) (rs ++ [v]) (by simp [e1]) (by rw [e, show (ps ++ [p]).length = ps.length + 1 by simp]; exact ho) (fun i hi => ?_)
  by_cases hi' : i < ps.length
  · have a1 : (rs ++ [v]).getD i undef = rs.getD i undef := by simp [List.getD, List.getElem?_append_left (show i < rs.length by omega)]
    have a2 : (ps ++ [p]).getD i ⟨0, [], 0⟩ = ps.getD i ⟨0, [], 0⟩ := by simp [List.getD, List.getElem?_append_left hi']
    rw [a1, a2]
    exact (e3 i hi').kept hg (owns_ne (e3 i hi') e2 (by decide))
  · have hie : i = ps.length := by simp at hi; omega
    have a1 : (rs ++ [v]).getD i undef = v := by simp [List.getD, hie, ← e1]
    have a2 : (ps ++ [p]).getD i ⟨0, [], 0⟩ = p := by simp [List.getD, hie]
    rw [a1, a2]
    exact hv.kept hg (owns_ne hv e2 (by decide))
end

/-- A production that is being made, in its box right behind Y. -/
structure PuAt (Y wz : World) (left : Int) (l : List Int) (lv : Int) (v : Value) : Prop where
  grown : Y.grownBy wz none
  box : wz.heap[Y.heap.size]? = some (.cells #[.int .i64 left, v, .int .i64 lv] 71 (0, 0))
  row : wz.ownsRow (Y.heap.size + 1) 3 1 v l.length (l.map (Value.int .i64))
theorem PuAt.lt {Y wz : World} {left lv : Int} {l : List Int} {v : Value} (h : PuAt Y wz left l lv v) : Y.heap.size < wz.heap.size := (Array.getElem?_eq_some_iff.1 h.box).1
theorem PuAt.kept {Y wz wx : World} {left lv : Int} {l : List Int} {v : Value} (h : PuAt Y wz left l lv v) (hg : wz.grownBy wx none) : PuAt Y wx left l lv v :=
  ⟨grown_trans h.grown hg, (hg.block _ h.lt (by simp)).trans h.box, h.row.kept hg (none_ne rfl)⟩
theorem PuAt.cells {Y wz : World} {left lv : Int} {l : List Int} {v : Value} (h : PuAt Y wz left l lv v) : wz.cell? ⟨Y.heap.size, 0, none⟩ = some (.int .i64 left) ∧ wz.cell? ⟨Y.heap.size, 1, none⟩ = some v ∧ wz.cell? ⟨Y.heap.size, 2, none⟩ = some (.int .i64 lv) := by
  refine ⟨?_, ?_, ?_⟩ <;> rw [cell_of_row _ _ _ _ _ _ h.box] <;> rfl
theorem PuAt.free {Y wz : World} {left lv : Int} {l : List Int} {v : Value} (h : PuAt Y wz left l lv v) (i : Nat) : wz.frozen? ⟨Y.heap.size, i, none⟩ = false := frozen_of_row _ _ i _ _ h.box
theorem PuAt.ne {Y wz : World} {left lv : Int} {l : List Int} {v : Value} (h : PuAt Y wz left l lv v) : v.ownBlock ≠ some Y.heap.size := fun e => by
  have := (h.row.lt _ e).1
  omega
/-- The row has grown, and lies elsewhere or in its place. -/
theorem PuAt.grew {Y wz w4 : World} {left lv : Int} {l : List Int} {v : Value} (h : PuAt Y wz left l lv v) (hg : wz.grownBy w4 v.ownBlock) : w4.heap[Y.heap.size]? = some (.cells #[.int .i64 left, v, .int .i64 lv] 71 (0, 0)) ∧ Y.grownBy w4 none := by
  refine ⟨(hg.block _ h.lt (fun e => h.ne e.symm)).trans h.box, ?_⟩
  cases hv : v.ownBlock with
  | none => rw [hv] at hg; exact grown_trans h.grown hg
  | some q => rw [hv] at hg; exact grown_new h.grown hg (by have := (h.row.lt q hv).1; omega)
theorem PuAt.push {Y wz w4 : World} {left lv x : Int} {l : List Int} {v v' : Value} (h : PuAt Y wz left l lv v) (hg : wz.grownBy w4 v.ownBlock) (ho : w4.ownsRow (Y.heap.size + 1) 3 1 v' (l.length + 1) (l.map (Value.int .i64) ++ [.int .i64 x])) : PuAt Y (w4.setCell ⟨Y.heap.size, 1, none⟩ v') left (l ++ [x]) lv v' := by
  obtain ⟨hb, hG⟩ := h.grew hg
  have hst := grown_setCell (w := w4) Y.heap.size 1 v'
  refine ⟨grown_new hG hst (Nat.le_refl _), by rw [heap_setCell_same w4 _ _ _ _ _ hb]; rfl, ?_⟩
  rw [show (l ++ [x]).length = l.length + 1 by simp, show (l ++ [x]).map (Value.int .i64) = l.map (Value.int .i64) ++ [.int .i64 x] by simp]
  refine ho.kept hst ?_
  cases hv : v'.ownBlock with
  | none => exact .inl rfl
  | some q => right; intro e; have := (ho.lt q hv).1; simp at e; omega
theorem PuAt.setLev {Y wz : World} {left lv z : Int} {l : List Int} {v : Value} (h : PuAt Y wz left l lv v) : PuAt Y (wz.setCell ⟨Y.heap.size, 2, none⟩ (.int .i64 z)) left l z v := by
  have hst := grown_setCell (w := wz) Y.heap.size 2 (.int .i64 z)
  refine ⟨grown_new h.grown hst (Nat.le_refl _), by rw [heap_setCell_same wz _ _ _ _ _ h.box]; rfl, h.row.kept hst ?_⟩
  cases hv : v.ownBlock with
  | none => exact .inl rfl
  | some q => right; intro e; have := (h.row.lt q hv).1; simp at e; omega

/-! ### Places and symbols -/
theorem sym_place {S : BS} {i : Nat} (hi : i ∈ ordOf S.prods) : (S.terms.length : Int) + symOf 1 (ordOf S.prods) i = S.sym i := by
  unfold BS.sym symOf
  rw [if_pos hi, if_pos hi]
  omega
/-- Numbers from 1 to n, no two alike, n at least: all of them. -/
theorem all_in {l : List Nat} {n : Nat} (hn : l.Nodup) (hr : ∀ i ∈ l, 1 ≤ i ∧ i ≤ n) (hl : n ≤ l.length) {i : Nat} (h1 : 1 ≤ i) (h2 : i ≤ n) : i ∈ l := by
  apply Classical.byContradiction
  intro hi
  have h := nodup_short (i :: l) ((List.range n).map (· + 1)) (List.nodup_cons.2 ⟨hi, hn⟩) (fun x hx => by
    have hx' : 1 ≤ x ∧ x ≤ n := by
      rcases List.mem_cons.1 hx with rfl | hx
      · exact ⟨h1, h2⟩
      · exact hr x hx
    exact List.mem_map.2 ⟨x - 1, List.mem_range.2 (by omega), by omega⟩)
  simp at h
  omega

end Go.Proofs.YthoamlahbnphkaaGreat

/-
  What lend lays: the box of the grammar, the lent one's box, and the rows behind.
-/
namespace Go.Proofs.YthoamlahbnphkaaGreat
open Go.RowKit Go.Maps Go.Shelf

/-- A row that lies behind the box stays, when the box is written. -/
theorem owns_box {W : World} {k j e s n : Nat} {v u : Value} {xs : List Value} (h : W.ownsRow (k + 1) e s v n xs) : (W.setCell ⟨k, j, none⟩ u).ownsRow (k + 1) e s v n xs := by
  refine h.kept (grown_setCell k j u) ?_
  cases hv : v.ownBlock with
  | none => exact .inl rfl
  | some g => have := (h.lt g hv).1; exact .inr (by simp; omega)

theorem keep0 {W W' : World} {B e s n : Nat} {v : Value} {xs : List Value} (h : W.ownsRow B e s v n xs) (hg : W.grownBy W' none) : W'.ownsRow B e s v n xs := h.kept hg (by cases hv : v.ownBlock <;> simp)

theorem ints_cells {w : World} {a : Option Addr} {l : List Int} (h : IntsAt w a l) : ∀ x, a = some x → ∀ j u, (l.map (Value.int .i64))[j]? = some u → w.cell? (x.add j) = some u := by
  intro x hx j u hu
  rcases h with h | ⟨b, off, e, hc⟩
  · rw [h] at hu; simp at hu
  · rw [hx] at e
    simp only [Option.some.injEq] at e
    subst e
    rw [Addr.add_mid]
    have hj : j < l.length := by have := (List.getElem?_eq_some_iff.1 hu).1; simpa using this
    rw [hc j hj]
    simp [hj] at hu
    simp [List.getD, hj, hu]

theorem wpList_append_src {w : World} {ops : Array Oper} {rest : List Oper} {o : Oper} {a : Act} {Q : Exit → Act → World → Prop} (hgd : o.guard = none) (s x : Operand) (t : TypeId)
    (ho : o.op = .call { callee := .builtin .append, args := #[s, x], argTypes := #[t, t] })
    (base : Nat) (e : TypeId) (i : TypeInfo) (z : Value) (size bytes : Nat) (ht : Tryz.prog.underlying t = some (.slice e)) (hi : Tryz.prog.info? e = some i) (hz : i.zero = some z)
    (hsize : i.size = size) (hby : i.bytes = bytes) (hzs : z.cells.size = size) (hsz : 0 < size)
    (v : Value) (n : Nat) (xs : List Value) (hs : a.eval s = v) (hown : w.ownsRow base e size v n xs)
    (xo : Option Addr) (m c : Nat) (news : List Value) (hx : a.eval x = .slice xo m c) (hnil : xo = none → m = 0 ∧ c = 0) (hl : news.length = m * size) (hnews : ∀ ad, xo = some ad → ∀ j u, news[j]? = some u → w.cell? (ad.add j) = some u) (h1 : ∀ u ∈ news, u.oneCell' = true)
    (h63 : n + m ≤ maxLen) (hbytes : (n + m) * bytes ≤ 140737488355328) (hbase : base ≤ w.heap.size)
    (h : ∀ v' w', w'.ownsRow base e size v' (n + m) (xs ++ news) → w.grownBy w' v.ownBlock → wpList Tryz.prog ops Q rest (a.put o.dst v') w') : wpList Tryz.prog ops Q (o :: rest) a w := by
  refine wpList_plain hgd fun K hK => ?_
  cases xo with
  | some ad => exact wp_append_own w s x t ho base e i z size bytes ht hi hz hsize hby hzs hsz v n xs hs hown ad m c news hx hl (hnews ad rfl) h1 h63 hbytes hbase fun v' w' h2 h3 _ => hK _ _ (h v' w' h2 h3)
  | none =>
    obtain ⟨rfl, rfl⟩ := hnil rfl
    have hn0 : news = [] := List.eq_nil_of_length_eq_zero (by simpa using hl)
    subst hn0
    have hrun := run_append_owned_none (P := Tryz.prog) (w := w) base t o.type e i size ht hi v n xs hown
    have hk := hK _ _ (h v w (by simpa using hown) ⟨rfl, rfl, rfl, Nat.le_refl _, fun _ _ _ => rfl⟩)
    unfold Oper.wp
    simp [execOp, ho, resolve, invoke, builtin, hs, hx, hrun, Result.andThen]
    exact hk

/-- What is appended lies in a block of its own. -/
theorem news_new (w : World) (cs : Array Value) (t : TypeId) : ∀ j u, cs.toList[j]? = some u → (w.alloc (.cells cs t)).cell? ((⟨w.heap.size, 0, none⟩ : Addr).add j) = some u := World.news_of_block (heap_alloc_last w _)
theorem news_kept {w w' : World} {B : Nat} {cs : Array Value} {t : TypeId} {fz : Nat × Nat} (hb : w.heap[B]? = some (.cells cs t fz)) (hg : w.grownBy w' none) : ∀ j u, cs.toList[j]? = some u → w'.cell? ((⟨B, 0, none⟩ : Addr).add j) = some u := World.news_of_block ((hg.block B (Array.getElem?_eq_some_iff.1 hb).1 (by simp)).trans hb)

/-- A row that grew: what was there stays. -/
theorem grown_row {X w w' : World} {B e s n : Nat} {v : Value} {xs : List Value} (hX : X.grownBy w none) (ho : w.ownsRow B e s v n xs) (hB : X.heap.size ≤ B) (hg : w.grownBy w' v.ownBlock) : X.grownBy w' none := by
  cases hv : v.ownBlock with
  | none => rw [hv] at hg; exact grown_trans hX hg
  | some q => rw [hv] at hg; exact grown_new hX hg (Nat.le_trans hB (ho.lt q hv).1)

theorem infoInts : (Tryz.prog.info? 24).map (fun i => (i.zero, i.size, i.bytes)) = some (some (.slice none 0 0), 1, 24) := by kernel_rfl

/-- While the productions are lent: the first kr of their right sides, the first kp of them. -/
structure LMid (X : World) (B : Nat) (ts : List (ByteArray × Int)) (ns : List ByteArray) (lv : List Int) (kr kp : Nat) (L : Nat → Int) (R : Nat → List Int) (V : Nat → Int) (a1 a2 a3 a4 a5 : Option Addr) (tn nn ln c1 c2 c3 c4 c5 : Nat) (rg : Nat → Nat × Nat) : Prop where
  t : X.ownsRow B 88 2 (.slice a1 (tn + 1) c1) (tn + 1) (tmsL ts ++ [.string { data := #[115, 112, 97, 114, 101] }, .int .i64 0])
  s : X.ownsRow B 9 1 (.slice a2 (nn + 1) c2) (nn + 1) (ns.map Value.string ++ [.string { data := #[115, 112, 97, 114, 101] }])
  l : X.ownsRow B 3 1 (.slice a3 (ln + 1) c3) (ln + 1) (lv.map (Value.int .i64) ++ [.int .i64 77])
  r : X.ownsRow B 24 1 (.slice a4 kr c4) kr ((List.range kr).map fun i => .slice (some ⟨(rg i).1, 0, none⟩) ((R i).length + 1) (rg i).2)
  p : X.ownsRow B 71 3 (.slice a5 kp c5) kp (prodRow kp L (fun i => .slice (some ⟨(rg i).1, 0, none⟩) (R i).length (rg i).2) V)
  rr : ∀ i, i < kr → X.ownsRow B 3 1 (.slice (some ⟨(rg i).1, 0, none⟩) ((R i).length + 1) (rg i).2) ((R i).length + 1) ((R i).map (Value.int .i64) ++ [.int .i64 77])

section
variable {X Y : World} {B kr kp tn nn ln c1 c2 c3 c4 c5 : Nat} {ts : List (ByteArray × Int)} {ns : List ByteArray} {lv : List Int} {L : Nat → Int} {R : Nat → List Int} {V : Nat → Int} {a1 a2 a3 a4 a5 : Option Addr} {rg : Nat → Nat × Nat}
theorem LMid.kept (h : LMid X B ts ns lv kr kp L R V a1 a2 a3 a4 a5 tn nn ln c1 c2 c3 c4 c5 rg) (hg : X.grownBy Y none) : LMid Y B ts ns lv kr kp L R V a1 a2 a3 a4 a5 tn nn ln c1 c2 c3 c4 c5 rg :=
  ⟨keep0 h.t hg, keep0 h.s hg, keep0 h.l hg, keep0 h.r hg, keep0 h.p hg, fun i hi => keep0 (h.rr i hi) hg⟩
theorem LMid.box {kb j : Nat} {u : Value} (h : LMid X (kb + 1) ts ns lv kr kp L R V a1 a2 a3 a4 a5 tn nn ln c1 c2 c3 c4 c5 rg) : LMid (X.setCell ⟨kb, j, none⟩ u) (kb + 1) ts ns lv kr kp L R V a1 a2 a3 a4 a5 tn nn ln c1 c2 c3 c4 c5 rg :=
  ⟨owns_box h.t, owns_box h.s, owns_box h.l, owns_box h.r, owns_box h.p, fun i hi => owns_box (h.rr i hi)⟩
theorem owns_other {B' e e' s s' n n' : Nat} {v v' : Value} {xs xs' : List Value} (h : X.ownsRow B e s v n xs) (h' : X.ownsRow B' e' s' v' n' xs') (he : e ≠ e') (hg : X.grownBy Y v'.ownBlock) : Y.ownsRow B e s v n xs := h.kept hg (owns_ne h h' he)
theorem LMid.pushR {g c : Nat} {v3 : Value} (h : LMid X B ts ns lv kr kp L R V a1 a2 a3 a4 a5 tn nn ln c1 c2 c3 c4 c5 rg) (hle : kp ≤ kr) (ho : X.ownsRow B 3 1 (.slice (some ⟨g, 0, none⟩) ((R kr).length + 1) c) ((R kr).length + 1) ((R kr).map (Value.int .i64) ++ [.int .i64 77]))
    (hr : Y.ownsRow B 24 1 v3 (kr + 1) (((List.range kr).map fun i => .slice (some ⟨(rg i).1, 0, none⟩) ((R i).length + 1) (rg i).2) ++ [.slice (some ⟨g, 0, none⟩) ((R kr).length + 1) c])) (hg : X.grownBy Y (Value.slice a4 kr c4).ownBlock) :
    ∃ a c', v3 = .slice a (kr + 1) c' ∧ LMid Y B ts ns lv (kr + 1) kp L R V a1 a2 a3 a a5 tn nn ln c1 c2 c3 c' c5 (fun i => if i = kr then (g, c) else rg i) := by
  obtain ⟨a, c', rfl⟩ := owns_slice hr
  refine ⟨a, c', rfl, owns_other h.t h.r (by decide) hg, owns_other h.s h.r (by decide) hg, owns_other h.l h.r (by decide) hg, ?_, ?_, fun i hi => ?_⟩
  · rw [List.range_succ, List.map_append]
    have e : ((List.range kr).map fun i => Value.slice (some ⟨(if i = kr then (g, c) else rg i).1, 0, none⟩) ((R i).length + 1) (if i = kr then (g, c) else rg i).2) = (List.range kr).map fun i => Value.slice (some ⟨(rg i).1, 0, none⟩) ((R i).length + 1) (rg i).2 := List.map_congr_left fun i hi => by
      have : i < kr := by simpa using hi
      rw [if_neg (by omega)]
    rw [e]
    simpa using hr
  · have e := prodRow_ext (n := kp) (L := L) (L' := L) (r := fun i => Value.slice (some ⟨(rg i).1, 0, none⟩) (R i).length (rg i).2) (r' := fun i => Value.slice (some ⟨(if i = kr then (g, c) else rg i).1, 0, none⟩) (R i).length (if i = kr then (g, c) else rg i).2) (V := V) (V' := V) (fun _ _ => rfl) (fun i hi => by rw [if_neg (by omega)]) (fun _ _ => rfl)
    rw [← e]
    exact owns_other h.p h.r (by decide) hg
  · by_cases e : i = kr
    · subst e
      simp only [if_true]
      exact owns_other ho h.r (by decide) hg
    · simp only [if_neg e]
      exact owns_other (h.rr i (by omega)) h.r (by decide) hg
theorem LMid.pushP {v4 : Value} (h : LMid X B ts ns lv kr kp L R V a1 a2 a3 a4 a5 tn nn ln c1 c2 c3 c4 c5 rg)
    (hp : Y.ownsRow B 71 3 v4 (kp + 1) (prodRow kp L (fun i => .slice (some ⟨(rg i).1, 0, none⟩) (R i).length (rg i).2) V ++ [.int .i64 (L kp), .slice (some ⟨(rg kp).1, 0, none⟩) (R kp).length (rg kp).2, .int .i64 (V kp)])) (hg : X.grownBy Y (Value.slice a5 kp c5).ownBlock) :
    ∃ a c', v4 = .slice a (kp + 1) c' ∧ LMid Y B ts ns lv kr (kp + 1) L R V a1 a2 a3 a4 a tn nn ln c1 c2 c3 c4 c' rg := by
  obtain ⟨a, c', rfl⟩ := owns_slice hp
  exact ⟨a, c', rfl, owns_other h.t h.p (by decide) hg, owns_other h.s h.p (by decide) hg, owns_other h.l h.p (by decide) hg, owns_other h.r h.p (by decide) hg, by rw [prodRow_succ]; exact hp, fun i hi => owns_other (h.rr i hi) h.p (by decide) hg⟩
end

/-- All rows of what was lent. -/
structure LRows (X : World) (B : Nat) (ts : List (ByteArray × Int)) (ns : List ByteArray) (lv : List Int) (n : Nat) (L : Nat → Int) (R : Nat → List Int) (V : Nat → Int) (a1 a2 a3 a4 a5 : Option Addr) (tn nn ln c1 c2 c3 c4 c5 : Nat) (rg : Nat → Nat × Nat) : Prop where
  t : X.ownsRow B 88 2 (.slice a1 (tn + 1) c1) (tn + 1) (tmsL ts ++ [.string { data := #[115, 112, 97, 114, 101] }, .int .i64 0])
  s : X.ownsRow B 9 1 (.slice a2 (nn + 1) c2) (nn + 1) (ns.map Value.string ++ [.string { data := #[115, 112, 97, 114, 101] }])
  l : X.ownsRow B 3 1 (.slice a3 (ln + 1) c3) (ln + 1) (lv.map (Value.int .i64) ++ [.int .i64 77])
  r : X.ownsRow B 24 1 (.slice a4 n c4) n ((List.range n).map fun i => .slice (some ⟨(rg i).1, 0, none⟩) ((R i).length + 1) (rg i).2)
  p : X.ownsRow B 71 3 (.slice a5 (n + 1) c5) (n + 1) (prodRow n L (fun i => .slice (some ⟨(rg i).1, 0, none⟩) (R i).length (rg i).2) V ++ [.int .i64 77, .slice none 0 0, .int .i64 0])
  rr : ∀ i, i < n → X.ownsRow B 3 1 (.slice (some ⟨(rg i).1, 0, none⟩) ((R i).length + 1) (rg i).2) ((R i).length + 1) ((R i).map (Value.int .i64) ++ [.int .i64 77])

section
variable {X Y : World} {B n tn nn ln c1 c2 c3 c4 c5 : Nat} {ts : List (ByteArray × Int)} {ns : List ByteArray} {lv : List Int} {L : Nat → Int} {R : Nat → List Int} {V : Nat → Int} {a1 a2 a3 a4 a5 : Option Addr} {rg : Nat → Nat × Nat}
theorem LRows.kept (h : LRows X B ts ns lv n L R V a1 a2 a3 a4 a5 tn nn ln c1 c2 c3 c4 c5 rg) (hg : X.grownBy Y none) : LRows Y B ts ns lv n L R V a1 a2 a3 a4 a5 tn nn ln c1 c2 c3 c4 c5 rg :=
  ⟨keep0 h.t hg, keep0 h.s hg, keep0 h.l hg, keep0 h.r hg, keep0 h.p hg, fun i hi => keep0 (h.rr i hi) hg⟩
theorem LRows.box {kb j : Nat} {u : Value} (h : LRows X (kb + 1) ts ns lv n L R V a1 a2 a3 a4 a5 tn nn ln c1 c2 c3 c4 c5 rg) : LRows (X.setCell ⟨kb, j, none⟩ u) (kb + 1) ts ns lv n L R V a1 a2 a3 a4 a5 tn nn ln c1 c2 c3 c4 c5 rg :=
  ⟨owns_box h.t, owns_box h.s, owns_box h.l, owns_box h.r, owns_box h.p, fun i hi => owns_box (h.rr i hi)⟩
end

end Go.Proofs.YthoamlahbnphkaaGreat

/-
  lr0: begun.
-/
namespace Go.Proofs.YthoamlahbnphkaaGreat.J
open Go.RowKit Go.Maps Go.Shelf

attribute [local go_sem] Oper.semAt_some

theorem infoItem : (Tryz.prog.info? 69).map (fun i => (i.zero, i.size, i.bytes)) = some (some (.agg #[.int .i64 0, .int .i64 0]), 2, 16) := by kernel_rfl

/-- The productions of s among the first k, begun. -/
def begL (L : Nat → Int) (s : Int) (k : Nat) : List It := ((List.range k).filter fun i => L i == s).map fun i : Nat => ((i : Int), (0 : Int))
theorem begL_succ (L : Nat → Int) (s : Int) (k : Nat) : begL L s (k + 1) = begL L s k ++ (if (L k == s) = true then [((k : Int), (0 : Int))] else []) := by
  unfold begL
  rw [List.range_succ, List.filter_append, List.map_append]
  congr 1
  by_cases h : (L k == s) = true
  · rw [if_pos h]; simp [h]
  · rw [if_neg h]; simp [h]
theorem begL_len (L : Nat → Int) (s : Int) (k : Nat) : (begL L s k).length ≤ k := by
  unfold begL
  rw [List.length_map]
  have := List.length_filter_le (fun i => L i == s) (List.range k)
  simpa using this

/-- What begun tells. -/
def ItsTold (l : List It) (w : World) (e : Ending) (y : World) : Prop := ∃ (a : Option Addr) (c : Nat), e = .returned (.slice a l.length c) ∧ y.ownsRow w.heap.size 69 2 (.slice a l.length c) l.length (itsV l) ∧ w.grownBy y none

set_option maxRecDepth 100000 in
set_option maxHeartbeats 1000000 in
theorem begun_any (ta na la pa : Option Addr) (tc nc lc pc : Nat) (n : Nat) (L : Nat → Int) (R : Nat → List Int) (ra : Nat → Option Addr) (rc : Nat → Nat) (V : Nat → Int) (st s : Int) (w : World) (tn nn ln : Nat) (hP : ProdsAt w pa n L R ra rc V) (hn : n ≤ 97) (hn0 : 0 < n) :
    Calls Tryz.prog 79 #[.agg #[.slice ta tn tc, .slice na nn nc, .slice la ln lc, .int .i64 st, .slice pa n pc], .int .i64 s] w fun e y => ItsTold (begL L s n) w e y := by
  obtain ⟨bp, op, rfl, hp⟩ : ∃ bp op, pa = some ⟨bp, op, none⟩ ∧ ∀ k, k < n → w.cell? ⟨bp, op + k * 3, none⟩ = some (.int .i64 (L k)) ∧ w.cell? ⟨bp, op + k * 3 + 1, none⟩ = some (.slice (ra k) (R k).length (rc k)) ∧ w.cell? ⟨bp, op + k * 3 + 2, none⟩ = some (.int .i64 (V k)) := by
    rcases hP with h | ⟨bp, op, e, h⟩
    · omega
    · exact ⟨bp, op, e, fun k hk => ⟨(h k hk).1, (h k hk).2.1, (h k hk).2.2.1⟩⟩
  have HP : Hid (∀ k, k < n → ∀ X, w.grownBy X none → X.cell? ⟨bp, op + k * 3, none⟩ = some (.int .i64 (L k)) ∧ X.cell? ⟨bp, op + k * 3 + 1, none⟩ = some (.slice (ra k) (R k).length (rc k)) ∧ X.cell? ⟨bp, op + k * 3 + 2, none⟩ = some (.int .i64 (V k))) := fun k hk X hX => ⟨hX.cell (hp k hk).1 (by simp), hX.cell (hp k hk).2.1 (by simp), hX.cell (hp k hk).2.2 (by simp)⟩
  have HX0 : Hid (w.grownBy (w.alloc (.cells #[.slice ta tn tc, .slice na nn nc, .slice la ln lc, .int .i64 st, .slice (some ⟨bp, op, none⟩) n pc] 27)) none) := World.grownBy_alloc _ _ none
  obtain ⟨i0, hi0, hz0, hz1, hz2⟩ := info_parts infoItem
  clear hp
  go_enter Tryz.func79, Tryz.ntmps79
  go_wp2_with fail
  go_loopg [5, 11] n (fun gk v5 v11 wr => ∃ (k q : Nat) (a : Option Addr) (c : Nat), k ≤ n ∧ gk = n - k ∧ v5 = .slice a q c ∧ v11 = .int .i64 k ∧ q = (begL L s k).length ∧ wr.ownsRow w.heap.size 69 2 (.slice a q c) q (itsV (begL L s k)) ∧ w.grownBy wr none)
  case atStart => exact ⟨0, 0, none, 0, Nat.zero_le _, rfl, rfl, rfl, rfl, World.ownsRow_nil _ _ _ _, HX0.out⟩
  case round =>
    obtain ⟨k, q, a, c, hk, hgk, rfl, rfl, hq, hO, hg⟩ := hrel
    have HGK : Hid (gk = n - k) := hgk
    have HQ : Hid (q = (begL L s k).length) := hq
    have HO : Hid (wr.ownsRow w.heap.size 69 2 (.slice a q c) q (itsV (begL L s k))) := hO
    have HG : Hid (w.grownBy wr none) := hg
    have hqn : q ≤ 97 := by rw [hq]; exact Nat.le_trans (begL_len L s k) (by omega)
    clear hgk hq hO hg HX0
    by_cases hlt : k < n
    · have hk0 : (0 : Int) ≤ (k : Int) := by omega
      have hk1 : (k : Int) < (n : Int) := by omega
      have hkd : decide (k < n) = true := decide_eq_true hlt
      obtain ⟨p0, p1, p2⟩ := HP.out k hlt wr HG.out
      have HBS := show Hid _ from begL_succ L s k
      obtain ⟨lk, hlk⟩ : ∃ l, l = L k := ⟨_, rfl⟩
      rw [← hlk] at p0 HBS
      obtain ⟨rl, hrl⟩ : ∃ l, l = (R k).length := ⟨_, rfl⟩
      rw [← hrl] at p1
      clear hlk hrl
      obtain ⟨bb, hbb⟩ : ∃ b : Bool, b = (lk == s) := ⟨_, rfl⟩
      have hb1 : (lk == s) = bb := hbb.symm
      rw [hb1] at HBS
      clear hbb
      cases bb with
      | false =>
        go_wp2_with fail
        go_roundg (n - (k + 1))
        case measure => have := HGK.out; omega
        case rel =>
          have hb := HBS.out
          rw [if_neg (by decide), List.append_nil] at hb
          exact ⟨k + 1, q, a, c, by omega, rfl, rfl, by go_num, by rw [hb]; exact HQ.out, by rw [hb]; exact HO.out.alloc _, grown_trans HG.out (World.grownBy_alloc _ _ none)⟩
      | true =>
        obtain ⟨X1, hX1⟩ : ∃ X1, X1 = wr.alloc (.cells #[.int .i64 lk, .slice (ra k) rl (rc k), .int .i64 (V k)] 71) := ⟨_, rfl⟩
        have HOW : Hid ((X1.alloc (.cells #[.int .i64 (k : Int), .int .i64 0] 69)).ownsRow w.heap.size 69 2 (.slice a q c) q (itsV (begL L s k))) := by rw [hX1]; exact (HO.out.alloc _).alloc _
        have HNX : Hid (∀ j z, [Value.int .i64 (k : Int), Value.int .i64 0][j]? = some z → (X1.alloc (.cells #[.int .i64 (k : Int), .int .i64 0] 69)).cell? ((⟨X1.heap.size, 0, none⟩ : Addr).add j) = some z) := news_new X1 _ _
        have HGX : Hid (w.grownBy (X1.alloc (.cells #[.int .i64 (k : Int), .int .i64 0] 69)) none) := by rw [hX1]; exact grown_trans HG.out (grown_trans (World.grownBy_alloc _ _ none) (World.grownBy_alloc _ _ none))
        have HB2 : Hid (begL L s (k + 1) = begL L s k ++ [((k : Int), (0 : Int))]) := HBS.out.trans (by rw [if_pos rfl])
        have hsz : X1.heap.size = wr.heap.size + 1 := by rw [hX1]; simp
        rw [hsz] at HNX
        rw [hX1] at HOW HNX HGX
        clear hsz hX1 HBS
        go_wp2_with (at_builtin; refine wpList_append_src rfl (.tmp 20) (.tmp 23) 62 rfl w.heap.size 69 i0 (.agg #[.int .i64 0, .int .i64 0]) 2 16 Tryz.underlying62 hi0 hz0 hz1 hz2 rfl (by decide) (.slice a q c) q (itsV (begL L s k)) rfl HOW.out (some ⟨wr.heap.size + 1, 0, none⟩) 1 1 [.int .i64 (k : Int), .int .i64 0] rfl (fun h => by cases h) rfl (fun ad e => by cases e; exact HNX.out) (by simp [Value.oneCell']) (by unfold maxLen; omega) (by omega) HGX.out.size ?_; intro v6 wB hoB hgB; obtain ⟨a6, c6, rfl⟩ := owns_slice hoB; have HY1 := show Hid _ from hoB; have HY2 : Hid (w.grownBy wB none) := grown_row HGX.out HOW.out (Nat.le_refl _) hgB; clear hoB hgB)
        go_roundg (n - (k + 1))
        case measure => have := HGK.out; omega
        case rel => exact ⟨k + 1, q + 1, a6, c6, by omega, rfl, rfl, by go_num, by rw [HB2.out, List.length_append, ← HQ.out]; rfl, by rw [HB2.out, itsV_append]; exact HY1.out, HY2.out⟩
    · have hkn : n = k := by omega
      subst hkn
      have hkd : decide (n < n) = false := decide_eq_false (by omega)
      have HO2 := HO.out
      go_wp2_with fail
      go_ret
      exact ⟨a, c, by rw [← HQ.out]; rfl, by rw [← HQ.out]; exact HO.out, HG.out⟩

end Go.Proofs.YthoamlahbnphkaaGreat.J
