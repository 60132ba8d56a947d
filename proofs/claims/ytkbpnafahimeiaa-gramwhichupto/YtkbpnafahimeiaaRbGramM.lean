/-
  Grammar of the document's builder: what is being made, step by step.
-/
import Derived.Test.YtkbpnafahimeiaaRbRule
import Derived.Laws.AppendOwnNone
namespace Go.Proofs.Ytkbpnafahimeiaa
open Go.RowKit Go.Maps Go.Shelf

/-- An append of a row wherever it lies, nil or not, within a region that draws its order. -/
theorem step_append_src {w : World} {ops : Array Oper} {o : Oper} {a : Act} {K : Act → World → Prop} {Q : Exit → Act → World → Prop} {E : Prop} (hg : o.guard = none) (s x : Operand) (t : TypeId)
    (ho : o.op = .call { callee := .builtin .append, args := #[s, x], argTypes := #[t, t] })
    (base : Nat) (e : TypeId) (i : TypeInfo) (z : Value) (size bytes : Nat) (ht : Try.prog.underlying t = some (.slice e)) (hi : Try.prog.info? e = some i) (hz : i.zero = some z)
    (hsize : i.size = size) (hby : i.bytes = bytes) (hzs : z.cells.size = size) (hsz : 0 < size)
    (v : Value) (n : Nat) (xs : List Value) (hs : a.eval s = v) (hown : w.ownsRow base e size v n xs)
    (xo : Option Addr) (m c : Nat) (news : List Value) (hx : a.eval x = .slice xo m c) (hnil : xo = none → m = 0 ∧ c = 0) (hl : news.length = m * size) (hnews : ∀ ad, xo = some ad → ∀ j u, news[j]? = some u → w.cell? (ad.add j) = some u) (h1 : ∀ u ∈ news, u.oneCell' = true)
    (h63 : n + m ≤ maxLen) (hbytes : (n + m) * bytes ≤ 140737488355328) (hbase : base ≤ w.heap.size)
    (h : ∀ v' w', w'.ownsRow base e size v' (n + m) (xs ++ news) → w.grownBy w' v.ownBlock → K (a.put o.dst v') w') :
    if Region.wanted o (yielded ops a.tmps) = true then Oper.wp Try.prog o a w K Q else E := by
  have hw : Region.wanted o (yielded ops a.tmps) = true := by simp [Region.wanted, hg]
  rw [if_pos hw]
  cases xo with
  | some ad => exact wp_append_own w s x t ho base e i z size bytes ht hi hz hsize hby hzs hsz v n xs hs hown ad m c news hx hl (hnews ad rfl) h1 h63 hbytes hbase fun v' w' h2 h3 _ => h v' w' h2 h3
  | none =>
    obtain ⟨rfl, rfl⟩ := hnil rfl
    have hn0 : news = [] := List.eq_nil_of_length_eq_zero (by simpa using hl)
    subst hn0
    have hrun := run_append_owned_none (P := Try.prog) (w := w) base t o.type e i size ht hi v n xs hown
    have hk := h v w (by simpa using hown) ⟨rfl, rfl, rfl, Nat.le_refl _, fun _ _ _ => rfl⟩
    unfold Oper.wp
    simp [execOp, ho, resolve, invoke, builtin, hs, hx, hrun, Result.andThen]
    exact hk

/-- The grammar that is being made: the result's cell, the places, the grammar's box and its lists; all behind Y. -/
structure GbAt (Y : World) (H : Nat) (wz : World) (vt vn vl vp : Value) (st : Int) (ts : List (ByteArray × Int)) (ns : List ByteArray) (lv : List Int) (N : Nat) (pl : Nat → Int) (ps : List PR) : Prop where
  hH : Y.heap.size + 2 ≤ H
  grown : Y.grownBy wz none
  res : wz.heap[Y.heap.size]? = some (.cells #[.slice none 0 0, .slice none 0 0, .slice none 0 0, .int .i64 0, .slice none 0 0] 42 (0, 0))
  place : wz.heap[Y.heap.size + 1]? = some (.cells ((List.range N).map fun i => Value.int .i64 (pl i)).toArray 3 (0, 0))
  box : wz.heap[H + 1]? = some (.cells #[vt, vn, vl, .int .i64 st, vp] 42 (0, 0))
  tr : wz.ownsRow (H) 74 2 vt ts.length (tmsL ts)
  nr : wz.ownsRow (H + 2) 9 1 vn ns.length (ns.map Value.string)
  lr : wz.ownsRow (H + 2) 3 1 vl lv.length (lv.map (Value.int .i64))
  pr : ∃ rs : List Value, rs.length = ps.length ∧ wz.ownsRow (H + 2) 52 3 vp ps.length ((ps.zip rs).flatMap fun x => prL x.1 x.2) ∧
    ∀ i, i < ps.length → wz.ownsRow (H + 2) 3 1 (rs.getD i undef) (ps.getD i ⟨0, [], 0⟩).right.length ((ps.getD i ⟨0, [], 0⟩).right.map (Value.int .i64))

section
variable {Y : World} {H : Nat} {wz w' : World} {vt vn vl vp : Value} {st : Int} {ts : List (ByteArray × Int)} {ns : List ByteArray} {lv : List Int} {N : Nat} {pl : Nat → Int} {ps : List PR}

theorem GbAt.lt (h : GbAt Y H wz vt vn vl vp st ts ns lv N pl ps) : H + 1 < wz.heap.size := (Array.getElem?_eq_some_iff.1 h.box).1
theorem GbAt.kept (h : GbAt Y H wz vt vn vl vp st ts ns lv N pl ps) (hg : wz.grownBy w' none) : GbAt Y H w' vt vn vl vp st ts ns lv N pl ps := by
  have hlt := h.lt
  have hH := h.hH
  obtain ⟨rs, e1, e2, e3⟩ := h.pr
  exact ⟨h.hH, grown_trans h.grown hg, (hg.block _ (by omega) (by simp)).trans h.res, (hg.block _ (by omega) (by simp)).trans h.place, (hg.block _ (by omega) (by simp)).trans h.box, h.tr.kept hg (none_ne rfl), h.nr.kept hg (none_ne rfl), h.lr.kept hg (none_ne rfl),
    rs, e1, e2.kept hg (none_ne rfl), fun i hi => (e3 i hi).kept hg (none_ne rfl)⟩
theorem GbAt.cells (h : GbAt Y H wz vt vn vl vp st ts ns lv N pl ps) : wz.cell? ⟨H + 1, 0, none⟩ = some vt ∧ wz.cell? ⟨H + 1, 1, none⟩ = some vn ∧ wz.cell? ⟨H + 1, 2, none⟩ = some vl ∧ wz.cell? ⟨H + 1, 3, none⟩ = some (.int .i64 st) ∧ wz.cell? ⟨H + 1, 4, none⟩ = some vp := by
  refine ⟨?_, ?_, ?_, ?_, ?_⟩ <;> rw [cell_of_row _ _ _ _ _ _ h.box] <;> rfl
theorem GbAt.free (h : GbAt Y H wz vt vn vl vp st ts ns lv N pl ps) (i : Nat) : wz.frozen? ⟨H + 1, i, none⟩ = false := frozen_of_row _ _ i _ _ h.box
theorem GbAt.placeAt (h : GbAt Y H wz vt vn vl vp st ts ns lv N pl ps) {i : Nat} (hi : i < N) : wz.cell? ⟨Y.heap.size + 1, i, none⟩ = some (.int .i64 (pl i)) ∧ wz.frozen? ⟨Y.heap.size + 1, i, none⟩ = false := by
  refine ⟨?_, frozen_of_row _ _ i _ _ h.place⟩
  rw [cell_of_row _ _ _ _ _ _ h.place]
  simp [hi]
theorem GbAt.resAt (h : GbAt Y H wz vt vn vl vp st ts ns lv N pl ps) : wz.cell? ⟨Y.heap.size, 0, none⟩ = some (.slice none 0 0) ∧ wz.cell? ⟨Y.heap.size, 1, none⟩ = some (.slice none 0 0) ∧ wz.cell? ⟨Y.heap.size, 2, none⟩ = some (.slice none 0 0) ∧ wz.cell? ⟨Y.heap.size, 3, none⟩ = some (.int .i64 0) ∧ wz.cell? ⟨Y.heap.size, 4, none⟩ = some (.slice none 0 0) := by
  refine ⟨?_, ?_, ?_, ?_, ?_⟩ <;> rw [cell_of_row _ _ _ _ _ _ h.res] <;> rfl
theorem GbAt.resFree (h : GbAt Y H wz vt vn vl vp st ts ns lv N pl ps) (i : Nat) : wz.frozen? ⟨Y.heap.size, i, none⟩ = false := frozen_of_row _ _ i _ _ h.res

/-- A row that has grown by one of its own kind, in its place or elsewhere. -/
theorem GbAt.grew (h : GbAt Y H wz vt vn vl vp st ts ns lv N pl ps) {v : Value} {B e s n : Nat} {xs : List Value} (hv : wz.ownsRow B e s v n xs) (hB : H ≤ B) (he : e ≠ 42) (hg : wz.grownBy w' v.ownBlock) :
    Y.grownBy w' none ∧ w'.heap[Y.heap.size]? = some (.cells #[.slice none 0 0, .slice none 0 0, .slice none 0 0, .int .i64 0, .slice none 0 0] 42 (0, 0)) ∧ w'.heap[Y.heap.size + 1]? = some (.cells ((List.range N).map fun i => Value.int .i64 (pl i)).toArray 3 (0, 0)) ∧ w'.heap[H + 1]? = some (.cells #[vt, vn, vl, .int .i64 st, vp] 42 (0, 0)) := by
  have hlt := h.lt
  have hH := h.hH
  have hne : ∀ q, v.ownBlock = some q → H ≤ q ∧ q ≠ H + 1 := fun q hq => by
    refine ⟨Nat.le_trans hB (hv.lt q hq).1, fun e1 => ?_⟩
    rcases owns_nebox hv h.box he with h1 | h1
    · rw [h1] at hq; cases hq
    · exact h1 (by rw [hq, e1])
  refine ⟨?_, (hg.block _ (by omega) (fun e1 => by have := hne _ e1.symm; omega)).trans h.res, (hg.block _ (by omega) (fun e1 => by have := hne _ e1.symm; omega)).trans h.place, (hg.block _ (by omega) (fun e1 => (hne _ e1.symm).2 rfl)).trans h.box⟩
  cases hq : v.ownBlock with
  | none => rw [hq] at hg; exact grown_trans h.grown hg
  | some q => rw [hq] at hg; exact grown_new h.grown hg (by have := (hne q hq).1; omega)

/-- A store into the box. -/
theorem GbAt.boxed {vt' vn' vl' vp' : Value} {st' : Int} {i : Nat} {u : Value} (hH : Y.heap.size + 2 ≤ H) (hG : Y.grownBy wz none) (hres : wz.heap[Y.heap.size]? = some (.cells #[.slice none 0 0, .slice none 0 0, .slice none 0 0, .int .i64 0, .slice none 0 0] 42 (0, 0))) (hpl : wz.heap[Y.heap.size + 1]? = some (.cells ((List.range N).map fun i => Value.int .i64 (pl i)).toArray 3 (0, 0)))
    (hbox : wz.heap[H + 1]? = some (.cells #[vt, vn, vl, .int .i64 st, vp] 42 (0, 0))) (hset : (#[vt, vn, vl, .int .i64 st, vp] : Array Value).setIfInBounds i u = #[vt', vn', vl', .int .i64 st', vp'])
    (tr : wz.ownsRow (H) 74 2 vt' ts.length (tmsL ts)) (nr : wz.ownsRow (H + 2) 9 1 vn' ns.length (ns.map Value.string)) (lr : wz.ownsRow (H + 2) 3 1 vl' lv.length (lv.map (Value.int .i64)))
    (rs : List Value) (e1 : rs.length = ps.length) (e2 : wz.ownsRow (H + 2) 52 3 vp' ps.length ((ps.zip rs).flatMap fun x => prL x.1 x.2)) (e3 : ∀ i, i < ps.length → wz.ownsRow (H + 2) 3 1 (rs.getD i undef) (ps.getD i ⟨0, [], 0⟩).right.length ((ps.getD i ⟨0, [], 0⟩).right.map (Value.int .i64))) :
    GbAt Y H (wz.setCell ⟨H + 1, i, none⟩ u) vt' vn' vl' vp' st' ts ns lv N pl ps := by
  have hst := grown_setCell (w := wz) (H + 1) i u
  have hlt : H + 1 < wz.heap.size := (Array.getElem?_eq_some_iff.1 hbox).1
  refine ⟨hH, grown_new hG hst (by omega), (hst.block _ (by omega) (by simp <;> omega)).trans hres, (hst.block _ (by omega) (by simp <;> omega)).trans hpl, by rw [heap_setCell_same wz _ _ _ _ _ hbox, hset], tr.kept hst (owns_nebox tr hbox (by decide)), nr.kept hst (owns_nebox nr hbox (by decide)), lr.kept hst (owns_nebox lr hbox (by decide)), rs, e1, e2.kept hst (owns_nebox e2 hbox (by decide)), fun j hj => (e3 j hj).kept hst (owns_nebox (e3 j hj) hbox (by decide))⟩

theorem base_ne {w : World} {B B' e e' s s' n n' : Nat} {v v' : Value} {xs xs' : List Value} (h : w.ownsRow B e s v n xs) (h' : w.ownsRow B' e' s' v' n' xs') (he : e ≠ e') : v.ownBlock = none ∨ v.ownBlock ≠ v'.ownBlock := owns_ne h h' he

/-- The terminals: the end marker, and the builder's. -/
theorem GbAt.setT {v' : Value} {ts' : List (ByteArray × Int)} (h : GbAt Y H wz vt vn vl vp st ts ns lv N pl ps) (hg : wz.grownBy w' vt.ownBlock) (ho : w'.ownsRow (H) 74 2 v' ts'.length (tmsL ts')) : GbAt Y H (w'.setCell ⟨H + 1, 0, none⟩ v') v' vn vl vp st ts' ns lv N pl ps := by
  obtain ⟨g1, g2, g3, g4⟩ := h.grew h.tr (Nat.le_refl _) (by decide) hg
  obtain ⟨rs, e1, e2, e3⟩ := h.pr
  exact GbAt.boxed h.hH g1 g2 g3 g4 rfl ho (h.nr.kept hg (owns_ne h.nr h.tr (by decide))) (h.lr.kept hg (owns_ne h.lr h.tr (by decide))) rs e1 (e2.kept hg (owns_ne e2 h.tr (by decide))) (fun i hi => (e3 i hi).kept hg (owns_ne (e3 i hi) h.tr (by decide)))
/-- The levels' sides: while there are no productions. -/
theorem GbAt.setL {v' : Value} {lv' : List Int} (h : GbAt Y H wz vt vn vl vp st ts ns lv N pl []) (hg : wz.grownBy w' vl.ownBlock) (ho : w'.ownsRow (H + 2) 3 1 v' lv'.length (lv'.map (Value.int .i64))) : GbAt Y H (w'.setCell ⟨H + 1, 2, none⟩ v') vt vn v' vp st ts ns lv' N pl [] := by
  obtain ⟨g1, g2, g3, g4⟩ := h.grew h.lr (by omega) (by decide) hg
  obtain ⟨rs, e1, e2, e3⟩ := h.pr
  exact GbAt.boxed h.hH g1 g2 g3 g4 rfl (h.tr.kept hg (owns_ne h.tr h.lr (by decide))) (h.nr.kept hg (owns_ne h.nr h.lr (by decide))) ho rs e1 (e2.kept hg (owns_ne e2 h.lr (by decide))) (fun i hi => by simp at hi)
/-- A nonterminal more. -/
theorem GbAt.pushN {v' : Value} {ns' : List ByteArray} (h : GbAt Y H wz vt vn vl vp st ts ns lv N pl ps) (hg : wz.grownBy w' vn.ownBlock) (ho : w'.ownsRow (H + 2) 9 1 v' ns'.length (ns'.map Value.string)) : GbAt Y H (w'.setCell ⟨H + 1, 1, none⟩ v') vt v' vl vp st ts ns' lv N pl ps := by
  obtain ⟨g1, g2, g3, g4⟩ := h.grew h.nr (by omega) (by decide) hg
  obtain ⟨rs, e1, e2, e3⟩ := h.pr
  exact GbAt.boxed h.hH g1 g2 g3 g4 rfl (h.tr.kept hg (owns_ne h.tr h.nr (by decide))) ho (h.lr.kept hg (owns_ne h.lr h.nr (by decide))) rs e1 (e2.kept hg (owns_ne e2 h.nr (by decide))) (fun i hi => (e3 i hi).kept hg (owns_ne (e3 i hi) h.nr (by decide)))
theorem GbAt.setStart {x : Int} (h : GbAt Y H wz vt vn vl vp st ts ns lv N pl ps) : GbAt Y H (wz.setCell ⟨H + 1, 3, none⟩ (.int .i64 x)) vt vn vl vp x ts ns lv N pl ps := by
  obtain ⟨rs, e1, e2, e3⟩ := h.pr
  exact GbAt.boxed h.hH h.grown h.res h.place h.box rfl h.tr h.nr h.lr rs e1 e2 e3
/-- A place. -/
theorem GbAt.setPlace {i : Nat} {x : Int} (h : GbAt Y H wz vt vn vl vp st ts ns lv N pl ps) : GbAt Y H (wz.setCell ⟨Y.heap.size + 1, i, none⟩ (.int .i64 x)) vt vn vl vp st ts ns lv N (updL pl i x) ps := by
  have hst := grown_setCell (w := wz) (Y.heap.size + 1) i (.int .i64 x)
  have hlt := h.lt
  have hH := h.hH
  have ne : ∀ {B e s n : Nat} {v : Value} {xs : List Value}, wz.ownsRow B e s v n xs → H ≤ B → v.ownBlock = none ∨ v.ownBlock ≠ some (Y.heap.size + 1) := fun {B e s n v xs} ho hB => by
    cases hv : v.ownBlock with
    | none => exact .inl rfl
    | some q => right; intro e1; have := (ho.lt q hv).1; simp at e1; omega
  obtain ⟨rs, e1, e2, e3⟩ := h.pr
  refine ⟨hH, grown_new h.grown hst (by omega), (hst.block _ (by omega) (by simp <;> omega)).trans h.res, ?_, (hst.block _ (by omega) (by simp <;> omega)).trans h.box, h.tr.kept hst (ne h.tr (Nat.le_refl _)), h.nr.kept hst (ne h.nr (by omega)), h.lr.kept hst (ne h.lr (by omega)), rs, e1, e2.kept hst (ne e2 (by omega)), fun j hj => (e3 j hj).kept hst (ne (e3 j hj) (by omega))⟩
  rw [heap_setCell_same wz _ _ _ _ _ h.place]
  congr 2
  apply Array.ext'
  rw [Array.toList_setIfInBounds]
  apply List.ext_getElem
  · simp
  · intro j h1 h2
    rw [List.getElem_set]
    by_cases e : i = j
    · subst e; simp [updL]
    · rw [if_neg e]; simp [updL, show ¬ j = i from fun x => e x.symm]
/-- A production more: its right side lies in a row of its own. -/
theorem GbAt.pushP {v' v : Value} {p : PR} (h : GbAt Y H wz vt vn vl vp st ts ns lv N pl ps) (hg : wz.grownBy w' vp.ownBlock) (hv : wz.ownsRow (H + 2) 3 1 v p.right.length (p.right.map (Value.int .i64)))
    (rs : List Value) (e1 : rs.length = ps.length) (e2 : wz.ownsRow (H + 2) 52 3 vp ps.length ((ps.zip rs).flatMap fun x => prL x.1 x.2)) (e3 : ∀ i, i < ps.length → wz.ownsRow (H + 2) 3 1 (rs.getD i undef) (ps.getD i ⟨0, [], 0⟩).right.length ((ps.getD i ⟨0, [], 0⟩).right.map (Value.int .i64)))
    (ho : w'.ownsRow (H + 2) 52 3 v' (ps.length + 1) (((ps.zip rs).flatMap fun x => prL x.1 x.2) ++ prL p v)) : GbAt Y H (w'.setCell ⟨H + 1, 4, none⟩ v') vt vn vl v' st ts ns lv N pl (ps ++ [p]) := by
  obtain ⟨g1, g2, g3, g4⟩ := h.grew e2 (by omega) (by decide) hg
  have e : (((ps ++ [p]).zip (rs ++ [v])).flatMap fun x => prL x.1 x.2) = ((ps.zip rs).flatMap fun x => prL x.1 x.2) ++ prL p v := by
    rw [List.zip_append e1.symm, List.flatMap_append]
    simp
  refine GbAt.boxed h.hH g1 g2 g3 g4 rfl (h.tr.kept hg (owns_ne h.tr e2 (by decide))) (h.nr.kept hg (owns_ne h.nr e2 (by decide))) (h.lr.kept hg (owns_ne h.lr e2 (by decide))) (rs ++ [v]) (by simp [e1]) (by rw [e, show (ps ++ [p]).length = ps.length + 1 by simp]; exact ho) (fun i hi => ?_)
  by_cases hi' : i < ps.length
  · have a1 : (rs ++ [v]).getD i undef = rs.getD i undef := by simp [List.getD, List.getElem?_append_left (show i < rs.length by omega)]
    have a2 : (ps ++ [p]).getD i ⟨0, [], 0⟩ = ps.getD i ⟨0, [], 0⟩ := by simp [List.getD, List.getElem?_append_left hi']
    rw [a1, a2]
    exact (e3 i hi').kept hg (owns_ne (e3 i hi') e2 (by decide))
  · have hie : i = ps.length := by simp at hi; omega
    have a1 : (rs ++ [v]).getD i undef = v := by simp [List.getD, hie, ← e1]
    have a2 : (ps ++ [p]).getD i ⟨0, [], 0⟩ = p := by simp [List.getD, hie]
    rw [a1, a2]
    exact hv.kept hg (owns_ne hv e2 (by decide))
end

/-- A production that is being made, in its box right behind Y. -/
structure PuAt (Y wz : World) (left : Int) (l : List Int) (lv : Int) (v : Value) : Prop where
  grown : Y.grownBy wz none
  box : wz.heap[Y.heap.size]? = some (.cells #[.int .i64 left, v, .int .i64 lv] 52 (0, 0))
  row : wz.ownsRow (Y.heap.size + 1) 3 1 v l.length (l.map (Value.int .i64))
theorem PuAt.lt {Y wz : World} {left lv : Int} {l : List Int} {v : Value} (h : PuAt Y wz left l lv v) : Y.heap.size < wz.heap.size := (Array.getElem?_eq_some_iff.1 h.box).1
theorem PuAt.kept {Y wz wx : World} {left lv : Int} {l : List Int} {v : Value} (h : PuAt Y wz left l lv v) (hg : wz.grownBy wx none) : PuAt Y wx left l lv v :=
  ⟨grown_trans h.grown hg, (hg.block _ h.lt (by simp)).trans h.box, h.row.kept hg (none_ne rfl)⟩
theorem PuAt.cells {Y wz : World} {left lv : Int} {l : List Int} {v : Value} (h : PuAt Y wz left l lv v) : wz.cell? ⟨Y.heap.size, 0, none⟩ = some (.int .i64 left) ∧ wz.cell? ⟨Y.heap.size, 1, none⟩ = some v ∧ wz.cell? ⟨Y.heap.size, 2, none⟩ = some (.int .i64 lv) := by
  refine ⟨?_, ?_, ?_⟩ <;> rw [cell_of_row _ _ _ _ _ _ h.box] <;> rfl
theorem PuAt.free {Y wz : World} {left lv : Int} {l : List Int} {v : Value} (h : PuAt Y wz left l lv v) (i : Nat) : wz.frozen? ⟨Y.heap.size, i, none⟩ = false := frozen_of_row _ _ i _ _ h.box
theorem PuAt.ne {Y wz : World} {left lv : Int} {l : List Int} {v : Value} (h : PuAt Y wz left l lv v) : v.ownBlock ≠ some Y.heap.size := fun e => by
  have := (h.row.lt _ e).1
  omega
/-- The row has grown, and lies elsewhere or in its place. -/
theorem PuAt.grew {Y wz w4 : World} {left lv : Int} {l : List Int} {v : Value} (h : PuAt Y wz left l lv v) (hg : wz.grownBy w4 v.ownBlock) : w4.heap[Y.heap.size]? = some (.cells #[.int .i64 left, v, .int .i64 lv] 52 (0, 0)) ∧ Y.grownBy w4 none := by
  refine ⟨(hg.block _ h.lt (fun e => h.ne e.symm)).trans h.box, ?_⟩
  cases hv : v.ownBlock with
  | none => rw [hv] at hg; exact grown_trans h.grown hg
  | some q => rw [hv] at hg; exact grown_new h.grown hg (by have := (h.row.lt q hv).1; omega)
theorem PuAt.push {Y wz w4 : World} {left lv x : Int} {l : List Int} {v v' : Value} (h : PuAt Y wz left l lv v) (hg : wz.grownBy w4 v.ownBlock) (ho : w4.ownsRow (Y.heap.size + 1) 3 1 v' (l.length + 1) (l.map (Value.int .i64) ++ [.int .i64 x])) : PuAt Y (w4.setCell ⟨Y.heap.size, 1, none⟩ v') left (l ++ [x]) lv v' := by
  obtain ⟨hb, hG⟩ := h.grew hg
  have hst := grown_setCell (w := w4) Y.heap.size 1 v'
  refine ⟨grown_new hG hst (Nat.le_refl _), by rw [heap_setCell_same w4 _ _ _ _ _ hb]; rfl, ?_⟩
  rw [show (l ++ [x]).length = l.length + 1 by simp, show (l ++ [x]).map (Value.int .i64) = l.map (Value.int .i64) ++ [.int .i64 x] by simp]
  refine ho.kept hst ?_
  cases hv : v'.ownBlock with
  | none => exact .inl rfl
  | some q => right; intro e; have := (ho.lt q hv).1; simp at e; omega
theorem PuAt.setLev {Y wz : World} {left lv z : Int} {l : List Int} {v : Value} (h : PuAt Y wz left l lv v) : PuAt Y (wz.setCell ⟨Y.heap.size, 2, none⟩ (.int .i64 z)) left l z v := by
  have hst := grown_setCell (w := wz) Y.heap.size 2 (.int .i64 z)
  refine ⟨grown_new h.grown hst (Nat.le_refl _), by rw [heap_setCell_same wz _ _ _ _ _ h.box]; rfl, h.row.kept hst ?_⟩
  cases hv : v.ownBlock with
  | none => exact .inl rfl
  | some q => right; intro e; have := (h.row.lt q hv).1; simp at e; omega

/-! ### Places and symbols -/
theorem sym_place {S : BS} {i : Nat} (hi : i ∈ ordOf S.prods) : (S.terms.length : Int) + symOf 1 (ordOf S.prods) i = S.sym i := by
  unfold BS.sym symOf
  rw [if_pos hi, if_pos hi]
  omega
/-- Numbers from 1 to n, no two alike, n at least: all of them. -/
theorem all_in {l : List Nat} {n : Nat} (hn : l.Nodup) (hr : ∀ i ∈ l, 1 ≤ i ∧ i ≤ n) (hl : n ≤ l.length) {i : Nat} (h1 : 1 ≤ i) (h2 : i ≤ n) : i ∈ l := by
  apply Classical.byContradiction
  intro hi
  have h := nodup_short (i :: l) ((List.range n).map (· + 1)) (List.nodup_cons.2 ⟨hi, hn⟩) (fun x hx => by
    have hx' : 1 ≤ x ∧ x ≤ n := by
      rcases List.mem_cons.1 hx with rfl | hx
      · exact ⟨h1, h2⟩
      · exact hr x hx
    exact List.mem_map.2 ⟨x - 1, List.mem_range.2 (by omega), by omega⟩)
  simp at h
  omega

end Go.Proofs.Ytkbpnafahimeiaa
