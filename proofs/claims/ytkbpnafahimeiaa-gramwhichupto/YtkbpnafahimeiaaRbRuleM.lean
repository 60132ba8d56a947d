/-
  Rule of the document's builder.
-/
import Derived.Test.YtkbpnafahimeiaaRbLevelM
namespace Go.Proofs.Ytkbpnafahimeiaa
open Go.RowKit Go.Maps Go.Shelf

attribute [local go_sem] Oper.semAt_some

theorem infoRule : (Try.prog.info? 100).map (fun i => (i.zero, i.size, i.bytes)) = some (some (.agg #[.int .i64 0, .slice none 0 0, .int .i64 0]), 3, 40) := by kernel_rfl

/-- A rule that is being made, in its box right behind Y. -/
structure RuAt (Y wz : World) (left : Int) (l : List Int) (lv : Int) (v : Value) : Prop where
  grown : Y.grownBy wz none
  box : wz.heap[Y.heap.size]? = some (.cells #[.int .i64 left, v, .int .i64 lv] 100 (0, 0))
  row : wz.ownsRow (Y.heap.size + 1) 3 1 v l.length (l.map (Value.int .i64))
theorem RuAt.lt {Y wz : World} {left lv : Int} {l : List Int} {v : Value} (h : RuAt Y wz left l lv v) : Y.heap.size < wz.heap.size := (Array.getElem?_eq_some_iff.1 h.box).1
theorem RuAt.kept {Y wz wx : World} {left lv : Int} {l : List Int} {v : Value} (h : RuAt Y wz left l lv v) (hg : wz.grownBy wx none) : RuAt Y wx left l lv v :=
  ⟨grown_trans h.grown hg, (hg.block _ h.lt (by simp)).trans h.box, h.row.kept hg (none_ne rfl)⟩
theorem RuAt.cells {Y wz : World} {left lv : Int} {l : List Int} {v : Value} (h : RuAt Y wz left l lv v) : wz.cell? ⟨Y.heap.size, 0, none⟩ = some (.int .i64 left) ∧ wz.cell? ⟨Y.heap.size, 1, none⟩ = some v ∧ wz.cell? ⟨Y.heap.size, 2, none⟩ = some (.int .i64 lv) := by
  refine ⟨?_, ?_, ?_⟩ <;> rw [cell_of_row _ _ _ _ _ _ h.box] <;> rfl
theorem RuAt.free {Y wz : World} {left lv : Int} {l : List Int} {v : Value} (h : RuAt Y wz left l lv v) (i : Nat) : wz.frozen? ⟨Y.heap.size, i, none⟩ = false := frozen_of_row _ _ i _ _ h.box
theorem RuAt.ne {Y wz : World} {left lv : Int} {l : List Int} {v : Value} (h : RuAt Y wz left l lv v) : v.ownBlock ≠ some Y.heap.size := fun e => by
  have := (h.row.lt _ e).1
  omega
/-- The row has grown, and lies elsewhere or in its place. -/
theorem RuAt.grew {Y wz w4 : World} {left lv : Int} {l : List Int} {v : Value} (h : RuAt Y wz left l lv v) (hg : wz.grownBy w4 v.ownBlock) : w4.heap[Y.heap.size]? = some (.cells #[.int .i64 left, v, .int .i64 lv] 100 (0, 0)) ∧ Y.grownBy w4 none := by
  refine ⟨(hg.block _ h.lt (fun e => h.ne e.symm)).trans h.box, ?_⟩
  cases hv : v.ownBlock with
  | none => rw [hv] at hg; exact grown_trans h.grown hg
  | some q => rw [hv] at hg; exact grown_new h.grown hg (by have := (h.row.lt q hv).1; omega)
theorem RuAt.push {Y wz w4 : World} {left lv x : Int} {l : List Int} {v v' : Value} (h : RuAt Y wz left l lv v) (hg : wz.grownBy w4 v.ownBlock) (ho : w4.ownsRow (Y.heap.size + 1) 3 1 v' (l.length + 1) (l.map (Value.int .i64) ++ [.int .i64 x])) : RuAt Y (w4.setCell ⟨Y.heap.size, 1, none⟩ v') left (l ++ [x]) lv v' := by
  obtain ⟨hb, hG⟩ := h.grew hg
  have hst := grown_setCell (w := w4) Y.heap.size 1 v'
  refine ⟨grown_new hG hst (Nat.le_refl _), by rw [heap_setCell_same w4 _ _ _ _ _ hb]; rfl, ?_⟩
  rw [show (l ++ [x]).length = l.length + 1 by simp, show (l ++ [x]).map (Value.int .i64) = l.map (Value.int .i64) ++ [.int .i64 x] by simp]
  refine ho.kept hst ?_
  cases hv : v'.ownBlock with
  | none => exact .inl rfl
  | some q => right; intro e; have := (ho.lt q hv).1; simp at e; omega
theorem RuAt.setLev {Y wz : World} {left lv z : Int} {l : List Int} {v : Value} (h : RuAt Y wz left l lv v) : RuAt Y (wz.setCell ⟨Y.heap.size, 2, none⟩ (.int .i64 z)) left l z v := by
  have hst := grown_setCell (w := wz) Y.heap.size 2 (.int .i64 z)
  refine ⟨grown_new h.grown hst (Nat.le_refl _), by rw [heap_setCell_same wz _ _ _ _ _ h.box]; rfl, h.row.kept hst ?_⟩
  cases hv : v.ownBlock with
  | none => exact .inl rfl
  | some q => right; intro e; have := (h.row.lt q hv).1; simp at e; omega

/-- A rule more. -/
theorem RCells.addP {w w1 : World} {Q : Nat → Prop} {S : BS} {vt vn vl vr v : Value} {r c4 g4 : Nat} {p : PR} (h : RCells w Q S vt vn vl vr) (hr : RRow w r vt vn vl vr S.start) (hup : ∀ g, w.heap.size ≤ g → Q g) (hQr : Q r) (hg : w.grownBy w1 vr.ownBlock)
    (rs : List Value) (e1 : rs.length = S.prods.length) (e2 : w.ownsRow 0 100 3 vr S.prods.length ((S.prods.zip rs).flatMap fun x => prL x.1 x.2)) (e3 : ∀ i, i < S.prods.length → IntsIn w (rs.getD i undef) (S.prods.getD i ⟨0, [], 0⟩).right ∧ ∀ g, (rs.getD i undef).ownBlock = some g → Q g ∧ vl.ownBlock ≠ some g)
    (hv : IntsIn w v p.right) (hvQ : ∀ g, v.ownBlock = some g → Q g ∧ vl.ownBlock ≠ some g)
    (ho : w1.ownsRow 0 100 3 (.slice (some ⟨g4, 0, none⟩) (S.prods.length + 1) c4) (S.prods.length + 1) (((S.prods.zip rs).flatMap fun x => prL x.1 x.2) ++ prL p v)) (hl : vr.ownBlock = some g4 ∨ w.heap.size ≤ g4) :
    RAt (w1.setCell ⟨r, 3, none⟩ (.slice (some ⟨g4, 0, none⟩) (S.prods.length + 1) c4)) r (S.addP p) Q ∧ GrownOff w (w1.setCell ⟨r, 3, none⟩ (.slice (some ⟨g4, 0, none⟩) (S.prods.length + 1) c4)) Q := by
  have hr1 := hr.keptOff hg (hr.ne e2 (by decide))
  have hQg : Q g4 := by
    rcases hl with hl | hl
    · exact h.qr g4 hl
    · exact hup g4 hl
  have hst := grown_setCell (w := w1) r 3 (.slice (some ⟨g4, 0, none⟩) (S.prods.length + 1) c4)
  have n1 := h.tl.kept hg (owns_ne h.tl e2 (by decide))
  have n2 := h.nl.kept hg (owns_ne h.nl e2 (by decide))
  have l1 := h.ll.kept hg (owns_ne h.ll e2 (by decide))
  have keepI : ∀ {u : Value} {l : List Int}, IntsIn w u l → IntsIn (w1.setCell ⟨r, 3, none⟩ (.slice (some ⟨g4, 0, none⟩) (S.prods.length + 1) c4)) u l := fun {u l} hu => by
    have i1 : IntsIn w1 u l := World.ownsRow.kept hu hg (owns_ne hu e2 (by decide))
    exact World.ownsRow.kept i1 hst (owns_nebox i1 hr1 (by decide))
  have hlen : (S.addP p).prods.length = S.prods.length + 1 := by simp [BS.addP]
  refine ⟨⟨fun g hg' => hup g (Nat.le_trans hg.size (Nat.le_trans hst.size hg')), hQr, vt, vn, vl, _, (hr1.set _).2.2.2, ?_⟩, (GrownOff.of_row hg e2 (by decide) h.qr).trans (GrownOff.of_box hst hr1 (by decide) hQr)⟩
  refine ⟨n1.kept hst (owns_nebox n1 hr1 (by decide)), n2.kept hst (owns_nebox n2 hr1 (by decide)), l1.kept hst (owns_nebox l1 hr1 (by decide)), ⟨rs ++ [v], by rw [hlen]; simp [e1], ?_, fun i hi => ?_⟩, h.qt, h.qn, h.ql, fun g hv => by cases hv; exact hQg⟩
  · have e : (((S.addP p).prods.zip (rs ++ [v])).flatMap fun x => prL x.1 x.2) = ((S.prods.zip rs).flatMap fun x => prL x.1 x.2) ++ prL p v := by
      show (((S.prods ++ [p]).zip (rs ++ [v])).flatMap fun x => prL x.1 x.2) = _
      rw [List.zip_append e1.symm, List.flatMap_append]
      simp
    rw [hlen, e]
    exact ho.kept hst (owns_nebox ho hr1 (by decide))
  · rw [hlen] at hi
    by_cases hi' : i < S.prods.length
    · have a1 : (rs ++ [v]).getD i undef = rs.getD i undef := by simp [List.getD, List.getElem?_append_left (show i < rs.length by omega)]
      have a2 : (S.addP p).prods.getD i ⟨0, [], 0⟩ = S.prods.getD i ⟨0, [], 0⟩ := by
        show (S.prods ++ [p]).getD i ⟨0, [], 0⟩ = _
        simp [List.getD, List.getElem?_append_left hi']
      rw [a1, a2]
      exact ⟨keepI (e3 i hi').1, (e3 i hi').2⟩
    · have hie : i = S.prods.length := by omega
      have a1 : (rs ++ [v]).getD i undef = v := by simp [List.getD, hie, ← e1]
      have a2 : (S.addP p).prods.getD i ⟨0, [], 0⟩ = p := by
        show (S.prods ++ [p]).getD i ⟨0, [], 0⟩ = _
        simp [List.getD, hie]
      rw [a1, a2]
      exact ⟨keepI hv, hvQ⟩

theorem good_iff {S : BS} {l : List Int} : S.good l = true ↔ ∀ j, j < l.length → (S.isT (l.getD j 0) || S.isN (l.getD j 0)) = true := by
  unfold BS.good
  rw [List.all_eq_true]
  constructor
  · intro h j hj
    exact h _ (getD_mem_int hj)
  · intro h x hx
    obtain ⟨j, hj, e⟩ := List.getElem_of_mem hx
    have := h j hj
    rwa [show l.getD j 0 = x by simp [List.getD, hj, e]] at this

end Go.Proofs.Ytkbpnafahimeiaa
