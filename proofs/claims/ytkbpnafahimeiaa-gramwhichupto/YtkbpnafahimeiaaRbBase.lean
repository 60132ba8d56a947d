/-
  The document's builder in memory: four lists of its own and the start symbol; what its steps leave.
-/
import Derived.Test.YtkbpnafahimeiaaGrammar
import Derived.Test.YtkbpnafahimeiaaGradeWalk
namespace Go.Proofs.Ytkbpnafahimeiaa
open Go.RowKit

/-- What a step of the document's builder may touch: blocks of Q that hold rows, or the builder itself. -/
structure GrownOff (w w' : World) (Q : Nat → Prop) : Prop where
  os : w'.os = w.os
  tape : w'.tape = w.tape
  output : w'.output = w.output
  size : w.heap.size ≤ w'.heap.size
  block : ∀ i, i < w.heap.size → (Q i ∧ ∃ cs e, w.heap[i]? = some (.cells cs e (0, 0)) ∧ e ≠ 69) ∨ w'.heap[i]? = w.heap[i]?
theorem GrownOff.refl (w : World) (Q : Nat → Prop) : GrownOff w w Q := ⟨rfl, rfl, rfl, Nat.le_refl _, fun _ _ => .inr rfl⟩
theorem GrownOff.trans {w w1 w2 : World} {Q : Nat → Prop} (h : GrownOff w w1 Q) (k : GrownOff w1 w2 Q) : GrownOff w w2 Q :=
  ⟨k.os.trans h.os, k.tape.trans h.tape, k.output.trans h.output, Nat.le_trans h.size k.size, fun i hi => by
    rcases h.block i hi with h1 | h1
    · exact .inl h1
    · rcases k.block i (Nat.lt_of_lt_of_le hi h.size) with ⟨q, cs, e, h2, h3⟩ | h2
      · exact .inl ⟨q, cs, e, by rw [← h1]; exact h2, h3⟩
      · exact .inr (h2.trans h1)⟩
theorem GrownOff.of_none {w w' : World} {Q : Nat → Prop} (h : w.grownBy w' none) : GrownOff w w' Q := ⟨h.os, h.tape, h.output, h.size, fun i hi => .inr (h.block i hi (by simp))⟩
theorem GrownOff.of_row {w w' : World} {Q : Nat → Prop} {B e s n : Nat} {v : Value} {xs : List Value} (h : w.grownBy w' v.ownBlock) (ho : w.ownsRow B e s v n xs) (he : e ≠ 69) (hq : ∀ g, v.ownBlock = some g → Q g) : GrownOff w w' Q :=
  ⟨h.os, h.tape, h.output, h.size, fun i hi => by
    by_cases e1 : some i = v.ownBlock
    · rcases ho.2 with ⟨hv, _⟩ | ⟨g, cap, cur, hv, _, hg, _⟩
      · rw [hv] at e1; cases e1
      · have hig : i = g := by rw [hv] at e1; simpa [Value.ownBlock] using e1
        exact .inl ⟨hq i e1.symm, cur, e, by rw [hig]; exact hg, he⟩
    · exact .inr (h.block i hi e1)⟩
theorem GrownOff.of_box {w w' : World} {Q : Nat → Prop} {r e : Nat} {cs : Array Value} (h : w.grownBy w' (some r)) (hb : w.heap[r]? = some (.cells cs e (0, 0))) (he : e ≠ 69) (hq : Q r) : GrownOff w w' Q :=
  ⟨h.os, h.tape, h.output, h.size, fun i hi => by
    by_cases e1 : i = r
    · exact .inl ⟨by rw [e1]; exact hq, cs, e, by rw [e1]; exact hb, he⟩
    · exact .inr (h.block i hi (by simp [e1]))⟩
/-- What it leaves, seen from a world ahead of all of Q. -/
theorem GrownOff.grown {X w w' : World} {Q : Nat → Prop} (h : GrownOff w w' Q) (hX : X.grownBy w none) (hq : ∀ g, Q g → X.heap.size ≤ g) : X.grownBy w' none :=
  ⟨h.os.trans hX.os, h.tape.trans hX.tape, h.output.trans hX.output, Nat.le_trans hX.size h.size, fun i hi _ => by
    rcases h.block i (Nat.lt_of_lt_of_le hi hX.size) with ⟨q, _⟩ | h1
    · have := hq i q; omega
    · exact h1.trans (hX.block i hi (by simp))⟩

theorem owns_ne {w : World} {B B' e e' s s' n n' : Nat} {v v' : Value} {xs xs' : List Value} (h : w.ownsRow B e s v n xs) (h' : w.ownsRow B' e' s' v' n' xs') (he : e ≠ e') : v.ownBlock = none ∨ v.ownBlock ≠ v'.ownBlock := by
  rcases h.2 with ⟨rfl, _⟩ | ⟨g, cap, cur, rfl, _, hg, _⟩
  · exact .inl rfl
  · right
    intro hh
    rcases h'.2 with ⟨rfl, _⟩ | ⟨g', cap', cur', rfl, _, hg', _⟩
    · cases hh
    · have : g = g' := by simpa [Value.ownBlock] using hh
      rw [this, hg'] at hg
      simp at hg
      exact he hg.2.symm
theorem owns_nebox {w : World} {B e e' s n r : Nat} {v : Value} {xs : List Value} {cs : Array Value} (h : w.ownsRow B e s v n xs) (hr : w.heap[r]? = some (.cells cs e' (0, 0))) (he : e ≠ e') : v.ownBlock = none ∨ v.ownBlock ≠ some r := by
  rcases h.2 with ⟨rfl, _⟩ | ⟨g, cap, cur, rfl, _, hg, _⟩
  · exact .inl rfl
  · right
    intro hh
    have : g = r := by simpa [Value.ownBlock] using hh
    rw [this, hr] at hg
    simp at hg
    exact he hg.2.symm

/-- The terminals with their levels. -/
def rts (S : BS) : List (ByteArray × Int) := (List.range S.terms.length).map fun j => (S.terms.getD j ⟨#[]⟩, S.lev (j + 1))
theorem rts_length (S : BS) : (rts S).length = S.terms.length := by simp [rts]
theorem rts_at (S : BS) {j : Nat} (h : j < S.terms.length) : (rts S).getD j (⟨#[]⟩, 0) = (S.terms.getD j ⟨#[]⟩, S.lev (j + 1)) := by simp [rts, List.getD, h]

structure RCells (w : World) (Q : Nat → Prop) (S : BS) (vt vn vl vr : Value) : Prop where
  tl : w.ownsRow 0 74 2 vt S.terms.length (tmsL (rts S))
  nl : w.ownsRow 0 9 1 vn S.nons.length (S.nons.map Value.string)
  ll : w.ownsRow 0 3 1 vl S.sides.length (S.sides.map (Value.int .i64))
  rl : ∃ rs : List Value, rs.length = S.prods.length ∧ w.ownsRow 0 100 3 vr S.prods.length ((S.prods.zip rs).flatMap fun x => prL x.1 x.2) ∧
    ∀ i, i < S.prods.length → IntsIn w (rs.getD i undef) (S.prods.getD i ⟨0, [], 0⟩).right ∧ ∀ g, (rs.getD i undef).ownBlock = some g → Q g ∧ vl.ownBlock ≠ some g
  qt : ∀ g, vt.ownBlock = some g → Q g
  qn : ∀ g, vn.ownBlock = some g → Q g
  ql : ∀ g, vl.ownBlock = some g → Q g
  qr : ∀ g, vr.ownBlock = some g → Q g

def RRow (w : World) (r : Nat) (vt vn vl vr : Value) (st : Int) : Prop := w.heap[r]? = some (.cells #[vt, vn, vl, vr, .int .i64 st] 33 (0, 0))
/-- The document's builder at r. -/
def RAt (w : World) (r : Nat) (S : BS) (Q : Nat → Prop) : Prop := (∀ g, w.heap.size ≤ g → Q g) ∧ Q r ∧ ∃ vt vn vl vr, RRow w r vt vn vl vr S.start ∧ RCells w Q S vt vn vl vr

theorem RRow.cells {w : World} {r : Nat} {vt vn vl vr : Value} {st : Int} (h : RRow w r vt vn vl vr st) : w.cell? ⟨r, 0, none⟩ = some vt ∧ w.cell? ⟨r, 1, none⟩ = some vn ∧ w.cell? ⟨r, 2, none⟩ = some vl ∧ w.cell? ⟨r, 3, none⟩ = some vr ∧ w.cell? ⟨r, 4, none⟩ = some (.int .i64 st) := by
  refine ⟨?_, ?_, ?_, ?_, ?_⟩ <;> rw [cell_of_row _ _ _ _ _ _ h] <;> rfl
theorem RRow.free {w : World} {r : Nat} {vt vn vl vr : Value} {st : Int} (h : RRow w r vt vn vl vr st) (i : Nat) : w.frozen? ⟨r, i, none⟩ = false := frozen_of_row w r i _ _ h
theorem RRow.lt {w : World} {r : Nat} {vt vn vl vr : Value} {st : Int} (h : RRow w r vt vn vl vr st) : r < w.heap.size := (Array.getElem?_eq_some_iff.1 h).1
theorem RRow.keptOff {w w' : World} {r : Nat} {vt vn vl vr : Value} {st : Int} {row : Option Nat} (h : RRow w r vt vn vl vr st) (hg : w.grownBy w' row) (hne : row ≠ some r) : RRow w' r vt vn vl vr st := (hg.block r h.lt (fun e => hne e.symm)).trans h
/-- A row of another kind is not the builder. -/
theorem RRow.ne {w : World} {r : Nat} {vt vn vl vr : Value} {st : Int} (h : RRow w r vt vn vl vr st) {B e s n : Nat} {v : Value} {xs : List Value} (ho : w.ownsRow B e s v n xs) (he : e ≠ 33) : v.ownBlock ≠ some r := by
  rcases owns_nebox ho h he with h' | h'
  · rw [h']; simp
  · exact h'
theorem RRow.set {w : World} {r : Nat} {vt vn vl vr : Value} {st : Int} (h : RRow w r vt vn vl vr st) (v : Value) :
    RRow (w.setCell ⟨r, 0, none⟩ v) r v vn vl vr st ∧ RRow (w.setCell ⟨r, 1, none⟩ v) r vt v vl vr st ∧ RRow (w.setCell ⟨r, 2, none⟩ v) r vt vn v vr st ∧ RRow (w.setCell ⟨r, 3, none⟩ v) r vt vn vl v st := by
  refine ⟨?_, ?_, ?_, ?_⟩ <;> (unfold RRow; rw [heap_setCell_same w r _ _ _ _ h]; rfl)
theorem RRow.setStart {w : World} {r : Nat} {vt vn vl vr : Value} {st : Int} (h : RRow w r vt vn vl vr st) (x : Int) : RRow (w.setCell ⟨r, 4, none⟩ (.int .i64 x)) r vt vn vl vr x := by
  unfold RRow; rw [heap_setCell_same w r _ _ _ _ h]; rfl

/-- All rows stay, where the block that was turned is none of theirs. -/
theorem RCells.kept {w w' : World} {Q : Nat → Prop} {S : BS} {vt vn vl vr : Value} {row : Option Nat} (h : RCells w Q S vt vn vl vr) (hg : w.grownBy w' row) (h1 : vt.ownBlock = none ∨ vt.ownBlock ≠ row) (h2 : vn.ownBlock = none ∨ vn.ownBlock ≠ row) (h3 : vl.ownBlock = none ∨ vl.ownBlock ≠ row) (h4 : vr.ownBlock = none ∨ vr.ownBlock ≠ row)
    (h5 : ∀ v n (xs : List Value), w.ownsRow 0 3 1 v n xs → (∀ g, v.ownBlock = some g → vl.ownBlock ≠ some g) → v.ownBlock = none ∨ v.ownBlock ≠ row) : RCells w' Q S vt vn vl vr := by
  obtain ⟨rs, e1, e2, e3⟩ := h.rl
  exact ⟨h.tl.kept hg h1, h.nl.kept hg h2, h.ll.kept hg h3, ⟨rs, e1, e2.kept hg h4, fun i hi => ⟨World.ownsRow.kept (e3 i hi).1 hg (h5 _ _ _ (e3 i hi).1 (fun g hg' => ((e3 i hi).2 g hg').2)), (e3 i hi).2⟩⟩, h.qt, h.qn, h.ql, h.qr⟩
theorem none_ne {o row : Option Nat} (h : row = none) : o = none ∨ o ≠ row := by
  cases o with
  | none => exact .inl rfl
  | some g => right; rw [h]; simp
theorem RCells.kept0 {w w' : World} {Q : Nat → Prop} {S : BS} {vt vn vl vr : Value} (h : RCells w Q S vt vn vl vr) (hg : w.grownBy w' none) : RCells w' Q S vt vn vl vr :=
  h.kept hg (none_ne rfl) (none_ne rfl) (none_ne rfl) (none_ne rfl) (fun _ _ _ _ _ => none_ne rfl)
/-- A store into a box. -/
theorem RCells.keptBox {w w' : World} {Q : Nat → Prop} {S : BS} {vt vn vl vr : Value} {r e : Nat} {cs : Array Value} (h : RCells w Q S vt vn vl vr) (hg : w.grownBy w' (some r)) (hb : w.heap[r]? = some (.cells cs e (0, 0))) (he : e ≠ 74 ∧ e ≠ 9 ∧ e ≠ 3 ∧ e ≠ 100) : RCells w' Q S vt vn vl vr := by
  obtain ⟨rs, e1, e2, e3⟩ := h.rl
  exact h.kept hg (owns_nebox h.tl hb he.1.symm) (owns_nebox h.nl hb he.2.1.symm) (owns_nebox h.ll hb he.2.2.1.symm) (owns_nebox e2 hb he.2.2.2.symm) (fun v n xs ho _ => owns_nebox ho hb he.2.2.1.symm)
theorem RAt.kept0 {w w' : World} {r : Nat} {S : BS} {Q : Nat → Prop} (h : RAt w r S Q) (hg : w.grownBy w' none) : RAt w' r S Q := by
  obtain ⟨h1, h2, vt, vn, vl, vr, h3, h4⟩ := h
  exact ⟨fun g hg' => h1 g (Nat.le_trans hg.size hg'), h2, vt, vn, vl, vr, h3.keptOff hg (by simp), h4.kept0 hg⟩
/-- Behind a call of the program's builder. -/
theorem RAt.beside {w w' : World} {r b : Nat} {S : BS} {Q : Nat → Prop} (h : RAt w r S Q) (hg : w.grownBy w' (some b)) (ha : Apart w (some b)) : RAt w' r S (fun g => (Q g ∧ g < w.heap.size) ∨ w'.heap.size ≤ g) := by
  obtain ⟨h1, h2, vt, vn, vl, vr, h3, h4⟩ := h
  obtain ⟨cs, hcs⟩ := ha b rfl
  have hrb : (some b : Option Nat) ≠ some r := fun e => by
    have : b = r := by simpa using e
    rw [this] at hcs
    rw [RRow, hcs] at h3
    simp at h3
  have h5 := h4.keptBox hg hcs (by decide)
  have lt : ∀ {B e s n : Nat} {v : Value} {xs : List Value}, w.ownsRow B e s v n xs → ∀ g, v.ownBlock = some g → g < w.heap.size := fun ho g hv => (ho.lt g hv).2
  obtain ⟨rs, e1, e2, e3⟩ := h4.rl
  obtain ⟨rs', f1, f2, f3⟩ := h5.rl
  refine ⟨fun g hg' => .inr hg', .inl ⟨h2, h3.lt⟩, vt, vn, vl, vr, h3.keptOff hg hrb, ?_⟩
  refine ⟨h5.tl, h5.nl, h5.ll, ⟨rs, e1, e2.kept hg (owns_nebox e2 hcs (by decide)), fun i hi => ⟨World.ownsRow.kept (e3 i hi).1 hg (owns_nebox (e3 i hi).1 hcs (by decide)), fun g hg' => ⟨.inl ⟨((e3 i hi).2 g hg').1, lt (e3 i hi).1 g hg'⟩, ((e3 i hi).2 g hg').2⟩⟩⟩, fun g hv => .inl ⟨h4.qt g hv, lt h4.tl g hv⟩, fun g hv => .inl ⟨h4.qn g hv, lt h4.nl g hv⟩, fun g hv => .inl ⟨h4.ql g hv, lt h4.ll g hv⟩, fun g hv => .inl ⟨h4.qr g hv, lt e2 g hv⟩⟩

/-- The program's builder, behind a step of the document's. -/
theorem BAt.off {w w' : World} {b : Nat} {S : BS} {Q : Nat → Prop} (h : BAt w b S) (hg : GrownOff w w' Q) (hd : ∀ g, g < w.heap.size → S.P g → ¬ Q g) : BAt w' b { S with P := fun g => (S.P g ∧ g < w.heap.size) ∨ w'.heap.size ≤ g } := by
  obtain ⟨hok, c, hr, hc⟩ := h
  have same : ∀ i, i < w.heap.size → (S.P i ∨ (∃ es k, w.heap[i]? = some (.map es k)) ∨ ∃ cs, w.heap[i]? = some (.cells cs 69 (0, 0))) → w'.heap[i]? = w.heap[i]? := fun i hi h => by
    rcases hg.block i hi with ⟨q, cs, e, h1, h2⟩ | h1
    · rcases h with h | ⟨es, k, h⟩ | ⟨cs', h⟩
      · exact absurd q (hd i hi h)
      · rw [h] at h1; cases h1
      · rw [h] at h1; simp at h1; exact absurd h1.2.symm h2
    · exact h1
  have rowK : ∀ {e s n : Nat} {v : Value} {xs : List Value}, w.ownsRow 0 e s v n xs → (∀ g, v.ownBlock = some g → S.P g) → w'.ownsRow 0 e s v n xs := fun {e s n v xs} ho hp => by
    refine ⟨ho.1, ?_⟩
    rcases ho.2 with h | ⟨g, cap, cur, hv, h1, h2, h3⟩
    · exact .inl h
    · exact .inr ⟨g, cap, cur, hv, h1, (same g (Array.getElem?_eq_some_iff.1 h2).1 (.inl (hp g (by rw [hv]; rfl)))).trans h2, h3⟩
  have mapK : ∀ {v : Value} {l : List ByteArray}, MapIs w v l → MapIs w' v l := fun {v l} hm => by
    rcases hm with h | ⟨B, n, D, hv, hn, ho, hat⟩
    · exact .inl h
    · refine .inr ⟨B, n, D, hv, hn, ?_, hat⟩
      obtain ⟨es, clock, hb, rest⟩ := ho
      exact ⟨es, clock, (same B (Array.getElem?_eq_some_iff.1 hb).1 (.inr (.inl ⟨es, clock, hb⟩))).trans hb, rest⟩
  have ft := hc.ft
  obtain ⟨rs, e1, e2, e3⟩ := hc.pr
  have rP := foot_rights ft e2
  have lt : ∀ {B e s n : Nat} {v : Value} {xs : List Value}, w.ownsRow B e s v n xs → ∀ g, v.ownBlock = some g → g < w.heap.size := fun ho g hv => (ho.lt g hv).2
  have rmem : ∀ i, i < S.prods.length → rs.getD i undef ∈ (S.prods.zip rs).flatMap fun x => prL x.1 x.2 := fun i hi => by
    have hi' : i < rs.length := by rw [e1]; exact hi
    refine List.mem_flatMap.2 ⟨(S.prods[i], rs[i]), List.mem_iff_getElem.2 ⟨i, by rw [List.length_zip]; omega, by simp⟩, ?_⟩
    simp [prL, List.getD, hi']
  refine ⟨⟨hok.syms, hok.tnames, hok.nnames, hok.tnd, hok.nnd, hok.sides, hok.sdv, hok.prods, hok.lev, hok.lev0, hok.levT, hok.has, hok.pl, hok.pr, hok.plen, hok.pv, hok.st⟩, c, (same b hr.lt (.inr (.inr ⟨_, hr⟩))).trans hr, ?_⟩
  refine ⟨mapK hc.tm, rowK hc.tl (ft.2.1 1 (by simp)), mapK hc.nm, rowK hc.nl (ft.2.1 3 (by simp)), hc.lv, rowK hc.sd (ft.2.1 69 (by simp)), ⟨rs, e1, rowK e2 (ft.2.1 70 (by simp)), fun i hi => rowK (e3 i hi) (fun g hg' => rP _ (rmem i hi) g hg')⟩, hc.st, fun g hg' => .inr hg', fun i hi g hv => ?_, fun gp k v g h1 h2 h3 h4 => ?_⟩
  · refine .inl ⟨ft.2.1 i hi g hv, ?_⟩
    rcases hi with rfl | rfl | rfl | rfl
    · exact lt hc.tl g hv
    · exact lt hc.nl g hv
    · exact lt hc.sd g hv
    · exact lt e2 g hv
  · have h2' : k < S.prods.length * 3 := h2
    obtain ⟨u, u1, u2⟩ := own_cell e2 h1 h2'
    obtain ⟨u', u1', u2'⟩ := own_cell (rowK e2 (ft.2.1 70 (by simp))) h1 h2'
    rw [u2'] at h3
    cases h3
    rw [u1] at u1'
    cases u1'
    refine .inl ⟨rP _ (List.mem_of_getElem? u1) g h4, ?_⟩
    obtain ⟨x, hx, hu⟩ := List.mem_flatMap.1 (List.mem_of_getElem? u1)
    simp only [prL, List.mem_cons, List.not_mem_nil, or_false] at hu
    rcases hu with rfl | rfl | rfl
    · cases h4
    · obtain ⟨i, hi, e⟩ := List.getElem_of_mem (List.of_mem_zip (a := x.1) (b := x.2) hx).2
      have := (e3 i (by rw [← e1]; exact hi))
      rw [show rs.getD i undef = x.2 by simp [List.getD, hi, e]] at this
      exact lt this g h4
    · cases h4

end Go.Proofs.Ytkbpnafahimeiaa
