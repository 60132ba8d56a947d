/-
  The sets that a script works on, and what they are by the document: what holds of them, and what a call turns.
-/
import Derived.Test.YtkmocjdjdlpphaaDoorPlaysStep
namespace Go.Proofs.YtkmocjdjdlpphaaDoor
open Go.RowKit Go.Shelf

/-- Of each number: the set's block, the document's set's two blocks, the size, the members of the one and of the other. -/
structure Fam where
  b : Nat → Nat
  br : Nat → Nat
  bi : Nat → Nat
  n : Nat → Nat
  mx : Nat → Nat
  mr : Nat → Nat

def upd (f : Nat → Nat) (i v : Nat) : Nat → Nat := fun j => if j = i then v else f j
theorem upd_same (f : Nat → Nat) (i v : Nat) : upd f i v i = v := by simp [upd]
theorem upd_other (f : Nat → Nat) {i v j : Nat} (h : j ≠ i) : upd f i v j = f j := by simp [upd, h]

def ptrsL (f : Nat → Nat) (N : Nat) : List Value := (List.range N).map (fun j => Value.pointer (some ⟨f j, 0, none⟩))
theorem ptrsL_length (f : Nat → Nat) (N : Nat) : (ptrsL f N).length = N := by simp [ptrsL]
theorem ptrsL_at (f : Nat → Nat) (N j : Nat) (hj : j < N) : (ptrsL f N)[j]? = some (.pointer (some ⟨f j, 0, none⟩)) := by simp [ptrsL, hj]
theorem ptrsL_succ (f : Nat → Nat) (N v : Nat) : ptrsL f N ++ [.pointer (some ⟨v, 0, none⟩)] = ptrsL (upd f N v) (N + 1) := by
  unfold ptrsL
  rw [List.range_succ, List.map_append]
  congr 1
  · exact List.map_congr_left fun j hj => by rw [upd_other f (by have := List.mem_range.1 hj; omega)]
  · simp [upd_same]

/-- The sets lie in the world: Bw: the block of the struct with both lists. -/
structure PInv (w W : World) (Bw Nx Nr : Nat) (vx vr : Value) (F : Fam) : Prop where
  bel : Below w.heap.size w W
  head : W.heap[Bw]? = some (.cells #[vx, vr] 28 (0, 0))
  low : w.heap.size ≤ Bw
  xs : W.ownsRow w.heap.size 34 1 vx Nx (ptrsL F.b Nx)
  rs : W.ownsRow w.heap.size 35 1 vr Nr (ptrsL F.br Nr)
  sets : ∀ j, j < Nx → w.heap.size ≤ F.b j ∧ SetM W (some ⟨F.b j, 0, none⟩) (F.n j) (F.mx j)
  refs : ∀ j, j < Nr → w.heap.size ≤ F.bi j ∧ RefAt W (F.br j) (F.bi j) (F.n j) (F.mr j)
  apx : ∀ i j, i < Nx → j < Nx → F.b i = F.b j → i = j
  apr : ∀ i j, i < Nr → j < Nr → F.bi i = F.bi j → i = j
  le : Nx ≤ 64 ∧ Nr ≤ 64

theorem But.grown {b : Nat} {w w' : World} (h : But b w w') : w.grownBy w' (some b) := ⟨h.os, h.tape, h.output, h.size, fun k hk hne => h.block k hk (fun e => hne (by rw [e]))⟩
theorem below_grown {w w' : World} (h : Below w.heap.size w w') : w.grownBy w' none := ⟨h.os, h.tape, h.output, h.size, fun k hk _ => h.block k hk⟩

theorem row_apart {W : World} {base e size n g : Nat} {v : Value} {xs : List Value} {cs : Array Value} {t : TypeId} {fz : Nat × Nat} (h : W.ownsRow base e size v n xs) (hg : W.heap[g]? = some (.cells cs t fz)) (hne : t ≠ e) : v.ownBlock = none ∨ v.ownBlock ≠ some g := by
  rcases h.2 with ⟨rfl, _⟩ | ⟨g', cap, cur, rfl, _, hh, _⟩
  · exact .inl rfl
  · refine .inr fun e' => ?_
    obtain rfl : g' = g := by simpa [Value.ownBlock] using e'
    rw [hh] at hg
    simp only [Option.some.injEq, Obj.cells.injEq] at hg
    exact hne hg.2.1.symm

theorem cells_ne {W : World} {g g' : Nat} {cs cs' : Array Value} {t t' : TypeId} {fz fz' : Nat × Nat} (h : W.heap[g]? = some (.cells cs t fz)) (h' : W.heap[g']? = some (.cells cs' t' fz')) (hne : t ≠ t') : g ≠ g' := fun e => by
  rw [e, h'] at h
  simp only [Option.some.injEq, Obj.cells.injEq] at h
  exact hne h.2.1.symm

section
variable {w W W' : World} {Bw Nx Nr : Nat} {vx vr : Value} {F : Fam}

theorem PInv.keep (h : PInv w W Bw Nx Nr vx vr F) (hb : Below W.heap.size W W') : PInv w W' Bw Nx Nr vx vr F :=
  ⟨h.bel.trans (hb.mono h.bel.size), (hb.block Bw (Array.getElem?_eq_some_iff.1 h.head).1).trans h.head, h.low, h.xs.kept (below_grown hb) (by cases h' : vx.ownBlock <;> simp), h.rs.kept (below_grown hb) (by cases h' : vr.ownBlock <;> simp),
    fun j hj => ⟨(h.sets j hj).1, (h.sets j hj).2.keep hb⟩, fun j hj => ⟨(h.refs j hj).1, (h.refs j hj).2.keep hb⟩, h.apx, h.apr, h.le⟩
theorem PInv.drewN (h : PInv w W Bw Nx Nr vx vr F) (k : Nat) : PInv w (W.drewN k) Bw Nx Nr vx vr F := h.keep (Below.drewN' (Below.refl _ W) k)

/-- A set turns. -/
theorem PInv.turnX (h : PInv w W Bw Nx Nr vx vr F) {i m' : Nat} (hi : i < Nx) (hb : But (F.b i) W W') (hr : RowAt W' (F.b i) (F.n i) (wd m')) (hm : m' < 2 ^ F.n i) : PInv w W' Bw Nx Nr vx vr { F with mx := upd F.mx i m' } := by
  obtain ⟨h1, h2⟩ := h.sets i hi
  have hrow : W.heap[F.b i]? = some (.cells (rowL (F.n i) (wd (F.mx i))).toArray 58 (0, 0)) := h2.row
  refine ⟨h.bel.trans (hb.below h.bel.size h1), (hb.block Bw (Array.getElem?_eq_some_iff.1 h.head).1 (cells_ne h.head hrow (by decide))).trans h.head, h.low,
    h.xs.kept hb.grown (row_apart h.xs hrow (by decide)), h.rs.kept hb.grown (row_apart h.rs hrow (by decide)), fun j hj => ⟨(h.sets j hj).1, ?_⟩, fun j hj => ⟨(h.refs j hj).1, ?_⟩, h.apx, h.apr, h.le⟩
  · show SetM W' (some ⟨F.b j, 0, none⟩) (F.n j) (upd F.mx i m' j)
    by_cases e : j = i
    · subst e; rw [upd_same]; exact SetM.of hr h2.1 hm
    · rw [upd_other _ e]
      exact (h.sets j hj).2.but hb (fun b eb => by cases eb; exact fun e' => e (h.apx j i hj hi e'))
  · exact (h.refs j hj).2.but hb (cells_ne (h.refs j hj).2.head hrow (by decide)) (cells_ne (h.refs j hj).2.row hrow (by decide))

/-- A document's set turns. -/
theorem PInv.turnR (h : PInv w W Bw Nx Nr vx vr F) {i m' : Nat} (hi : i < Nr) (hb : But (F.bi i) W W') (hr : RefAt W' (F.br i) (F.bi i) (F.n i) m') : PInv w W' Bw Nx Nr vx vr { F with mr := upd F.mr i m' } := by
  obtain ⟨h1, h2⟩ := h.refs i hi
  have hrow := h2.row
  refine ⟨h.bel.trans (hb.below h.bel.size h1), (hb.block Bw (Array.getElem?_eq_some_iff.1 h.head).1 (cells_ne h.head hrow (by decide))).trans h.head, h.low,
    h.xs.kept hb.grown (row_apart h.xs hrow (by decide)), h.rs.kept hb.grown (row_apart h.rs hrow (by decide)), fun j hj => ⟨(h.sets j hj).1, ?_⟩, fun j hj => ⟨(h.refs j hj).1, ?_⟩, h.apx, h.apr, h.le⟩
  · exact (h.sets j hj).2.but hb (fun b eb => by cases eb; exact cells_ne (h.sets j hj).2.row hrow (by decide))
  · show RefAt W' (F.br j) (F.bi j) (F.n j) (upd F.mr i m' j)
    by_cases e : j = i
    · subst e; rw [upd_same]; exact hr
    · rw [upd_other _ e]
      exact (h.refs j hj).2.but hb (cells_ne (h.refs j hj).2.head hrow (by decide)) (fun e' => e (h.apr j i hj hi e'))

theorem PInv.xcell (h : PInv w W Bw Nx Nr vx vr F) : W.cell? ⟨Bw, 0, none⟩ = some vx := cell_of_row W Bw 0 _ _ _ h.head
theorem PInv.rcell (h : PInv w W Bw Nx Nr vx vr F) : W.cell? ⟨Bw, 1, none⟩ = some vr := cell_of_row W Bw 1 _ _ _ h.head
theorem PInv.free (h : PInv w W Bw Nx Nr vx vr F) (j : Nat) : W.frozen? ⟨Bw, j, none⟩ = false := frozen_of_row W Bw j _ _ h.head
theorem PInv.blt (h : PInv w W Bw Nx Nr vx vr F) : Bw < W.heap.size := (Array.getElem?_eq_some_iff.1 h.head).1

theorem PInv.xform (h : PInv w W Bw Nx Nr vx vr F) : ∃ a c, vx = .slice a Nx c ∧ ∀ j, j < Nx → ∃ g, a = some ⟨g, 0, none⟩ ∧ W.cell? ⟨g, j, none⟩ = some (.pointer (some ⟨F.b j, 0, none⟩)) := by
  have hx := h.xs
  rcases hx.2 with ⟨rfl, h0⟩ | ⟨g, cap, cur, rfl, _, hh, _⟩
  · subst h0; exact ⟨none, 0, rfl, fun j hj => absurd hj (Nat.not_lt_zero j)⟩
  · exact ⟨_, cap, rfl, fun j hj => ⟨g, rfl, (hx.cellAt j (by omega)).trans (ptrsL_at F.b Nx j hj)⟩⟩
theorem PInv.rform (h : PInv w W Bw Nx Nr vx vr F) : ∃ a c, vr = .slice a Nr c ∧ ∀ j, j < Nr → ∃ g, a = some ⟨g, 0, none⟩ ∧ W.cell? ⟨g, j, none⟩ = some (.pointer (some ⟨F.br j, 0, none⟩)) := by
  have hx := h.rs
  rcases hx.2 with ⟨rfl, h0⟩ | ⟨g, cap, cur, rfl, _, hh, _⟩
  · subst h0; exact ⟨none, 0, rfl, fun j hj => absurd hj (Nat.not_lt_zero j)⟩
  · exact ⟨_, cap, rfl, fun j hj => ⟨g, rfl, (hx.cellAt j (by omega)).trans (ptrsL_at F.br Nr j hj)⟩⟩
end

end Go.Proofs.YtkmocjdjdlpphaaDoor
