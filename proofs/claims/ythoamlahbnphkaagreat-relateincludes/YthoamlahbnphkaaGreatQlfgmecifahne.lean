import Derived.Test.YthoamlahbnphkaaGreatQkcobfonflehg
import Derived.Test.YthoamlahbnphkaaGreatQcompfealipec
import Derived.Laws.AppendOwnNone

/-
  Term, Non and Start of the document's builder.
-/
namespace Go.Proofs.YthoamlahbnphkaaGreat
open Go.RowKit

attribute [local go_sem] Oper.semAt_some

def BS.startA (S : BS) (h : Int) : Int × BS := if S.isN h then (0, { S with start := h }) else (1, S)
end Go.Proofs.YthoamlahbnphkaaGreat

/-
  Grade of the document's builder.
-/
namespace Go.Proofs.YthoamlahbnphkaaGreat
open Go.RowKit

attribute [local go_sem] Oper.semAt_some

end Go.Proofs.YthoamlahbnphkaaGreat

/-
  Level of the document's builder.
-/
namespace Go.Proofs.YthoamlahbnphkaaGreat
open Go.RowKit

attribute [local go_sem] Oper.semAt_some

/-- A list's places: what Level asks of each. -/
def levAsk (S : BS) (hs : List Int) (j : Nat) : Prop := S.isT (hs.getD j 0) = true ∧ S.lev (hs.getD j 0).toNat = 0 ∧ ∀ m, m < j → hs.getD m 0 ≠ hs.getD j 0
/-- The levels, told of the first k. -/
def levTold (S : BS) (K : Int) (hs : List Int) (k : Nat) : Nat → Int := fun j => if (j : Int) ∈ hs.take k then K else S.lev j
def BS.tolds (S : BS) (side K : Int) (hs : List Int) (k : Nat) : BS := { S with lev := levTold S K hs k, sides := S.sides ++ [side] }
end Go.Proofs.YthoamlahbnphkaaGreat

/-
  Rule of the document's builder.
-/
namespace Go.Proofs.YthoamlahbnphkaaGreat
open Go.RowKit Go.Maps Go.Shelf

attribute [local go_sem] Oper.semAt_some

end Go.Proofs.YthoamlahbnphkaaGreat

/-
  Rule of the document's builder, walked.
-/
namespace Go.Proofs.YthoamlahbnphkaaGreat
open Go.RowKit Go.Maps Go.Shelf

attribute [local go_sem] Oper.semAt_some

end Go.Proofs.YthoamlahbnphkaaGreat

/-
  Grammar of the document's builder: what is being made, step by step.
-/
namespace Go.Proofs.YthoamlahbnphkaaGreat
open Go.RowKit Go.Maps Go.Shelf

/-- The grammar that is being made: the result's cell, the places, the grammar's box and its lists; all behind Y. -/
structure GbAt (Y : World) (H : Nat) (wz : World) (vt vn vl vp : Value) (st : Int) (ts : List (ByteArray × Int)) (ns : List ByteArray) (lv : List Int) (N : Nat) (pl : Nat → Int) (ps : List PR) : Prop where
  hH : Y.heap.size + 2 ≤ H
  grown : Y.grownBy wz none
  res : wz.heap[Y.heap.size]? = some (.cells #[.slice none 0 0, .slice none 0 0, .slice none 0 0, .int .i64 0, .slice none 0 0] 27 (0, 0))
  place : wz.heap[Y.heap.size + 1]? = some (.cells ((List.range N).map fun i => Value.int .i64 (pl i)).toArray 3 (0, 0))
  box : wz.heap[H + 1]? = some (.cells #[vt, vn, vl, .int .i64 st, vp] 27 (0, 0))
  tr : wz.ownsRow (H) 88 2 vt ts.length (tmsL ts)
  nr : wz.ownsRow (H + 2) 9 1 vn ns.length (ns.map Value.string)
  lr : wz.ownsRow (H + 2) 3 1 vl lv.length (lv.map (Value.int .i64))
  pr : ∃ rs : List Value, rs.length = ps.length ∧ wz.ownsRow (H + 2) 71 3 vp ps.length ((ps.zip rs).flatMap fun x => prL x.1 x.2) ∧
    ∀ i, i < ps.length → wz.ownsRow (H + 2) 3 1 (rs.getD i undef) (ps.getD i ⟨0, [], 0⟩).right.length ((ps.getD i ⟨0, [], 0⟩).right.map (Value.int .i64))

section
variable {Y : World} {H : Nat} {wz w' : World} {vt vn vl vp : Value} {st : Int} {ts : List (ByteArray × Int)} {ns : List ByteArray} {lv : List Int} {N : Nat} {pl : Nat → Int} {ps : List PR}

theorem GbAt.lt (h : GbAt Y H wz vt vn vl vp st ts ns lv N pl ps) : H + 1 < wz.heap.size := (Array.getElem?_eq_some_iff.1 h.box).1
theorem GbAt.kept (h : GbAt Y H wz vt vn vl vp st ts ns lv N pl ps) (hg : wz.grownBy w' none) : GbAt Y H w' vt vn vl vp st ts ns lv N pl ps := by
  have hlt := h.lt
  have hH := h.hH
  obtain ⟨rs, e1, e2, e3⟩ := h.pr
  exact ⟨h.hH, grown_trans h.grown hg, (hg.block _ (by omega) (by simp)).trans h.res, (hg.block _ (by omega) (by simp)).trans h.place, (hg.block _ (by omega) (by simp)).trans h.box, h.tr.kept hg (none_ne rfl), h.nr.kept hg (none_ne rfl), h.lr.kept hg (none_ne rfl),
    rs, e1, e2.kept hg (none_ne rfl), fun i hi => (e3 i hi).kept hg (none_ne rfl)⟩
theorem GbAt.cells (h : GbAt Y H wz vt vn vl vp st ts ns lv N pl ps) : wz.cell? ⟨H + 1, 0, none⟩ = some vt ∧ wz.cell? ⟨H + 1, 1, none⟩ = some vn ∧ wz.cell? ⟨H + 1, 2, none⟩ = some vl ∧ wz.cell? ⟨H + 1, 3, none⟩ = some (.int .i64 st) ∧ wz.cell? ⟨H + 1, 4, none⟩ = some vp := by
  refine ⟨?_, ?_, ?_, ?_, ?_⟩ <;> rw [cell_of_row _ _ _ _ _ _ h.box] <;> rfl
theorem GbAt.free (h : GbAt Y H wz vt vn vl vp st ts ns lv N pl ps) (i : Nat) : wz.frozen? ⟨H + 1, i, none⟩ = false := frozen_of_row _ _ i _ _ h.box
/-- A row that has grown by one of its own kind, in its place or elsewhere. -/
theorem GbAt.grew (h : GbAt Y H wz vt vn vl vp st ts ns lv N pl ps) {v : Value} {B e s n : Nat} {xs : List Value} (hv : wz.ownsRow B e s v n xs) (hB : H ≤ B) (he : e ≠ 27) (hg : wz.grownBy w' v.ownBlock) :
    Y.grownBy w' none ∧ w'.heap[Y.heap.size]? = some (.cells #[.slice none 0 0, .slice none 0 0, .slice none 0 0, .int .i64 0, .slice none 0 0] 27 (0, 0)) ∧ w'.heap[Y.heap.size + 1]? = some (.cells ((List.range N).map fun i => Value.int .i64 (pl i)).toArray 3 (0, 0)) ∧ w'.heap[H + 1]? = some (.cells #[vt, vn, vl, .int .i64 st, vp] 27 (0, 0)) := by
  have hlt := h.lt
  have hH := h.hH
  have hne : ∀ q, v.ownBlock = some q → H ≤ q ∧ q ≠ H + 1 := fun q hq => by
    refine ⟨Nat.le_trans hB (hv.lt q hq).1, fun e1 => ?_⟩
    rcases owns_nebox hv h.box he with h1 | h1
    · rw [h1] at hq; cases hq
    · exact h1 (by rw [hq, e1])
  refine ⟨?_, (hg.block _ (by omega) (fun e1 => by have := hne _ e1.symm; omega)).trans h.res, (hg.block _ (by omega) (fun e1 => by have := hne _ e1.symm; omega)).trans h.place, (hg.block _ (by omega) (fun e1 => (hne _ e1.symm).2 rfl)).trans h.box⟩
  cases hq : v.ownBlock with
  | none => rw [hq] at hg; exact grown_trans h.grown hg
  | some q => rw [hq] at hg; exact grown_new h.grown hg (by have := (hne q hq).1; omega)

/-- A store into the box. -/
theorem GbAt.boxed {vt' vn' vl' vp' : Value} {st' : Int} {i : Nat} {u : Value} (hH : Y.heap.size + 2 ≤ H) (hG : Y.grownBy wz none) (hres : wz.heap[Y.heap.size]? = some (.cells #[.slice none 0 0, .slice none 0 0, .slice none 0 0, .int .i64 0, .slice none 0 0] 27 (0, 0))) (hpl : wz.heap[Y.heap.size + 1]? = some (.cells ((List.range N).map fun i => Value.int .i64 (pl i)).toArray 3 (0, 0)))
    (hbox : wz.heap[H + 1]? = some (.cells #[vt, vn, vl, .int .i64 st, vp] 27 (0, 0))) (hset : (#[vt, vn, vl, .int .i64 st, vp] : Array Value).setIfInBounds i u = #[vt', vn', vl', .int .i64 st', vp'])
    (tr : wz.ownsRow (H) 88 2 vt' ts.length (tmsL ts)) (nr : wz.ownsRow (H + 2) 9 1 vn' ns.length (ns.map Value.string)) (lr : wz.ownsRow (H + 2) 3 1 vl' lv.length (lv.map (Value.int .i64)))
    (rs : List Value) (e1 : rs.length = ps.length) (e2 : wz.ownsRow (H + 2) 71 3 vp' ps.length ((ps.zip rs).flatMap fun x => prL x.1 x.2)) (e3 : ∀ i, i < ps.length → wz.ownsRow (H + 2) 3 1 (rs.getD i undef) (ps.getD i ⟨0, [], 0⟩).right.length ((ps.getD i ⟨0, [], 0⟩).right.map (Value.int .i64))) :
    GbAt Y H (wz.setCell ⟨H + 1, i, none⟩ u) vt' vn' vl' vp' st' ts ns lv N pl ps := by
  have hst := grown_setCell (w := wz) (H + 1) i u
  have hlt : H + 1 < wz.heap.size := (Array.getElem?_eq_some_iff.1 hbox).1
  refine ⟨hH, grown_new hG hst (by omega), (hst.block _ (by omega) (by simp <;> omega)).trans hres, (hst.block _ (by omega) (by simp <;> omega)).trans hpl, by rw [heap_setCell_same wz _ _ _ _ _ hbox, hset], tr.kept hst (owns_nebox tr hbox (by decide)), nr.kept hst (owns_nebox nr hbox (by decide)), lr.kept hst (owns_nebox lr hbox (by decide)), rs, e1, e2.kept hst (owns_nebox e2 hbox (by decide)), fun j hj => (e3 j hj).kept hst (owns_nebox (e3 j hj) hbox (by decide))⟩

/-- The levels' sides: while there are no productions. -/
theorem GbAt.setL {v' : Value} {lv' : List Int} (h : GbAt Y H wz vt vn vl vp st ts ns lv N pl []) (hg : wz.grownBy w' vl.ownBlock) (ho : w'.ownsRow (H + 2) 3 1 v' lv'.length (lv'.map (Value.int .i64))) : GbAt Y H (w'.setCell ⟨H + 1, 2, none⟩ v') vt vn v' vp st ts ns lv' N pl [] := by
  obtain ⟨g1, g2, g3, g4⟩ := h.grew h.lr (by omega) (by decide) hg
  obtain ⟨rs, e1, e2, e3⟩ := h.pr
  exact GbAt.boxed h.hH g1 g2 g3 g4 rfl (h.tr.kept hg (owns_ne h.tr h.lr (by decide))) (h.nr.kept hg (owns_ne h.nr h.lr (by decide))) ho rs e1 (e2.kept hg (owns_ne e2 h.lr (by decide))) (fun i hi => by simp at hi)
/-- A nonterminal more. -/
theorem GbAt.pushN {v' : Value} {ns' : List ByteArray} (h : GbAt Y H wz vt vn vl vp st ts ns lv N pl ps) (hg : wz.grownBy w' vn.ownBlock) (ho : w'.ownsRow (H + 2) 9 1 v' ns'.length (ns'.map Value.string)) : GbAt Y H (w'.setCell ⟨H + 1, 1, none⟩ v') vt v' vl vp st ts ns' lv N pl ps := by
  obtain ⟨g1, g2, g3, g4⟩ := h.grew h.nr (by omega) (by decide) hg
  obtain ⟨rs, e1, e2, e3⟩ := h.pr
  exact GbAt.boxed h.hH g1 g2 g3 g4 rfl (h.tr.kept hg (owns_ne h.tr h.nr (by decide))) ho (h.lr.kept hg (owns_ne h.lr h.nr (by decide))) rs e1 (e2.kept hg (owns_ne e2 h.nr (by decide))) (fun i hi => (e3 i hi).kept hg (owns_ne (e3 i hi) h.nr (by decide)))
end

/-- A production that is being made, in its box right behind Y. -/
structure PuAt (Y wz : World) (left : Int) (l : List Int) (lv : Int) (v : Value) : Prop where
  grown : Y.grownBy wz none
  box : wz.heap[Y.heap.size]? = some (.cells #[.int .i64 left, v, .int .i64 lv] 71 (0, 0))
  row : wz.ownsRow (Y.heap.size + 1) 3 1 v l.length (l.map (Value.int .i64))
theorem PuAt.lt {Y wz : World} {left lv : Int} {l : List Int} {v : Value} (h : PuAt Y wz left l lv v) : Y.heap.size < wz.heap.size := (Array.getElem?_eq_some_iff.1 h.box).1
theorem PuAt.kept {Y wz wx : World} {left lv : Int} {l : List Int} {v : Value} (h : PuAt Y wz left l lv v) (hg : wz.grownBy wx none) : PuAt Y wx left l lv v :=
  ⟨grown_trans h.grown hg, (hg.block _ h.lt (by simp)).trans h.box, h.row.kept hg (none_ne rfl)⟩
theorem PuAt.cells {Y wz : World} {left lv : Int} {l : List Int} {v : Value} (h : PuAt Y wz left l lv v) : wz.cell? ⟨Y.heap.size, 0, none⟩ = some (.int .i64 left) ∧ wz.cell? ⟨Y.heap.size, 1, none⟩ = some v ∧ wz.cell? ⟨Y.heap.size, 2, none⟩ = some (.int .i64 lv) := by
  refine ⟨?_, ?_, ?_⟩ <;> rw [cell_of_row _ _ _ _ _ _ h.box] <;> rfl
theorem PuAt.free {Y wz : World} {left lv : Int} {l : List Int} {v : Value} (h : PuAt Y wz left l lv v) (i : Nat) : wz.frozen? ⟨Y.heap.size, i, none⟩ = false := frozen_of_row _ _ i _ _ h.box
theorem PuAt.ne {Y wz : World} {left lv : Int} {l : List Int} {v : Value} (h : PuAt Y wz left l lv v) : v.ownBlock ≠ some Y.heap.size := fun e => by
  have := (h.row.lt _ e).1
  omega
/-- The row has grown, and lies elsewhere or in its place. -/
theorem PuAt.grew {Y wz w4 : World} {left lv : Int} {l : List Int} {v : Value} (h : PuAt Y wz left l lv v) (hg : wz.grownBy w4 v.ownBlock) : w4.heap[Y.heap.size]? = some (.cells #[.int .i64 left, v, .int .i64 lv] 71 (0, 0)) ∧ Y.grownBy w4 none := by
  refine ⟨(hg.block _ h.lt (fun e => h.ne e.symm)).trans h.box, ?_⟩
  cases hv : v.ownBlock with
  | none => rw [hv] at hg; exact grown_trans h.grown hg
  | some q => rw [hv] at hg; exact grown_new h.grown hg (by have := (h.row.lt q hv).1; omega)
theorem PuAt.push {Y wz w4 : World} {left lv x : Int} {l : List Int} {v v' : Value} (h : PuAt Y wz left l lv v) (hg : wz.grownBy w4 v.ownBlock) (ho : w4.ownsRow (Y.heap.size + 1) 3 1 v' (l.length + 1) (l.map (Value.int .i64) ++ [.int .i64 x])) : PuAt Y (w4.setCell ⟨Y.heap.size, 1, none⟩ v') left (l ++ [x]) lv v' := by
  obtain ⟨hb, hG⟩ := h.grew hg
  have hst := grown_setCell (w := w4) Y.heap.size 1 v'
  refine ⟨grown_new hG hst (Nat.le_refl _), by rw [heap_setCell_same w4 _ _ _ _ _ hb]; rfl, ?_⟩
  rw [show (l ++ [x]).length = l.length + 1 by simp, show (l ++ [x]).map (Value.int .i64) = l.map (Value.int .i64) ++ [.int .i64 x] by simp]
  refine ho.kept hst ?_
  cases hv : v'.ownBlock with
  | none => exact .inl rfl
  | some q => right; intro e; have := (ho.lt q hv).1; simp at e; omega
theorem PuAt.setLev {Y wz : World} {left lv z : Int} {l : List Int} {v : Value} (h : PuAt Y wz left l lv v) : PuAt Y (wz.setCell ⟨Y.heap.size, 2, none⟩ (.int .i64 z)) left l z v := by
  have hst := grown_setCell (w := wz) Y.heap.size 2 (.int .i64 z)
  refine ⟨grown_new h.grown hst (Nat.le_refl _), by rw [heap_setCell_same wz _ _ _ _ _ h.box]; rfl, h.row.kept hst ?_⟩
  cases hv : v.ownBlock with
  | none => exact .inl rfl
  | some q => right; intro e; have := (h.row.lt q hv).1; simp at e; omega

/-! ### Places and symbols -/
end Go.Proofs.YthoamlahbnphkaaGreat
