import Derived.Test.YtckgjolaoifgkaaGreatQgcgpgnhfbbco
import Derived.Deep.RegionLaw
import Derived.Deep.CutRange
import Derived.Shelf.Abstract

/-
  Steps of a region that draws its order: a call of a Go function. Lists in memory, element by element.
-/
namespace Go.Proofs.YtckgjolaoifgkaaGreat
open Go.RowKit Go.Maps Go.Shelf

theorem step_call {ops : Array Oper} {o : Oper} {a : Act} {w : World} {K : Act → World → Prop} {Q : Exit → Act → World → Prop} {E : Prop} (hg : o.guard = none) (f : FuncId) (os : Array Operand) (ts : Array TypeId)
    (hop : o.op = .call { callee := .value (.func f), args := os, argTypes := ts }) (vs : Array Value) (hvs : os.map a.eval = vs) {R : Ending → World → Prop} (hE : ∀ args w, (callFunc f args).run Tryz.prog w = .ok (.enter f args) w)
    (hC : Calls Tryz.prog f vs w R) (hR : ∀ e w', R e w' → ∃ v, e = .returned v ∧ K (a.put o.dst v) w') :
    if Region.wanted o (yielded ops a.tmps) = true then Oper.wp Tryz.prog o a w K Q else E := by
  have hw : Region.wanted o (yielded ops a.tmps) = true := by simp [Region.wanted, hg]
  rw [if_pos hw]
  unfold Oper.wp
  have hrun : (execOp a.eval o).run Tryz.prog w = .ok (.enter f vs) w := by
    unfold execOp
    simp [hop, resolve, invoke, go_sem, hE, hvs, Act.eval]
  rw [hrun, Oper.upon_enter]
  refine hC.mono ?_
  intro e w' h
  obtain ⟨v, rfl, hk⟩ := hR e w' h
  exact hk

theorem StrsIn.at {w : World} {v : Value} {l : List ByteArray} (h : StrsIn w v l) (hl : 0 < l.length) : ∃ g cap, v = .slice (some ⟨g, 0, none⟩) l.length cap ∧ ∀ i, i < l.length → w.cell? ⟨g, i, none⟩ = some (.string (l.getD i ⟨#[]⟩)) := by
  have h' := h
  rcases h.2 with ⟨rfl, hn⟩ | ⟨g, cap, cur, rfl, _, hg, hle, _⟩
  · omega
  · refine ⟨g, cap, rfl, fun i hi => ?_⟩
    have := World.ownsRow.cells h' (g := g) rfl i (.string (l.getD i ⟨#[]⟩)) (by simp [List.getD, hi])
    rw [Addr.add_mid, Nat.zero_add] at this
    exact this

end Go.Proofs.YtckgjolaoifgkaaGreat

/-
  terms of a builder: the end marker, then the terminals, each with its level.
-/
namespace Go.Proofs.YtckgjolaoifgkaaGreat
open Go.RowKit Go.Maps Go.Shelf

attribute [local go_sem] Oper.semAt_some

theorem infoTerm : (Tryz.prog.info? 63).map (fun i => (i.zero, i.size, i.bytes)) = some (some (.agg #[.string ⟨#[]⟩, .int .i64 0]), 2, 24) := by kernel_rfl

/-- A terminal's two cells. -/
def tmL (s : ByteArray) (l : Int) : List Value := [.string s, .int .i64 l]
def tmsL (ts : List (ByteArray × Int)) : List Value := ts.flatMap fun t => tmL t.1 t.2
/-- The terminals of a builder, the end marker first, up to the k-th. -/
def BS.tms (S : BS) (k : Nat) : List (ByteArray × Int) := (⟨#[]⟩, 0) :: (List.range k).map fun j => (S.terms.getD j ⟨#[]⟩, S.lev (j + 1))

end Go.Proofs.YtckgjolaoifgkaaGreat
