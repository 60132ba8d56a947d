/-
  Steps of a region that draws its order: a call of a Go function. Lists in memory, element by element.
-/
import Derived.Test.YtkbpnafahimeiaaRuleWalk
import Derived.Deep.RegionLaw
import Derived.Deep.CutRange
import Derived.Shelf.Abstract
namespace Go.Proofs.Ytkbpnafahimeiaa
open Go.RowKit Go.Maps Go.Shelf

theorem step_call {ops : Array Oper} {o : Oper} {a : Act} {w : World} {K : Act → World → Prop} {Q : Exit → Act → World → Prop} {E : Prop} (hg : o.guard = none) (f : FuncId) (os : Array Operand) (ts : Array TypeId)
    (hop : o.op = .call { callee := .value (.func f), args := os, argTypes := ts }) (vs : Array Value) (hvs : os.map a.eval = vs) {R : Ending → World → Prop} (hE : ∀ args w, (callFunc f args).run Try.prog w = .ok (.enter f args) w)
    (hC : Calls Try.prog f vs w R) (hR : ∀ e w', R e w' → ∃ v, e = .returned v ∧ K (a.put o.dst v) w') :
    if Region.wanted o (yielded ops a.tmps) = true then Oper.wp Try.prog o a w K Q else E := by
  have hw : Region.wanted o (yielded ops a.tmps) = true := by simp [Region.wanted, hg]
  rw [if_pos hw]
  unfold Oper.wp
  have hrun : (execOp a.eval o).run Try.prog w = .ok (.enter f vs) w := by
    unfold execOp
    simp [hop, resolve, invoke, go_sem, hE, hvs, Act.eval]
  rw [hrun, Oper.upon_enter]
  refine hC.mono ?_
  intro e w' h
  obtain ⟨v, rfl, hk⟩ := hR e w' h
  exact hk

theorem StrsIn.at {w : World} {v : Value} {l : List ByteArray} (h : StrsIn w v l) (hl : 0 < l.length) : ∃ g cap, v = .slice (some ⟨g, 0, none⟩) l.length cap ∧ ∀ i, i < l.length → w.cell? ⟨g, i, none⟩ = some (.string (l.getD i ⟨#[]⟩)) := by
  have h' := h
  rcases h.2 with ⟨rfl, hn⟩ | ⟨g, cap, cur, rfl, _, hg, hle, _⟩
  · omega
  · refine ⟨g, cap, rfl, fun i hi => ?_⟩
    have := World.ownsRow.cells h' (g := g) rfl i (.string (l.getD i ⟨#[]⟩)) (by simp [List.getD, hi])
    rw [Addr.add_mid, Nat.zero_add] at this
    exact this

theorem termText_at (b : Nat) (S : BS) (j : Nat) (w : World) (hB : BAt w b S) (hj : j < S.terms.length) :
    Calls Try.prog 78 #[.pointer (some ⟨b, 0, none⟩), .int .i64 (j + 1)] w fun e w' => e = .returned (.string (S.terms.getD j ⟨#[]⟩)) ∧ w' = w := by
  obtain ⟨hok, c, hr, hc⟩ := hB
  obtain ⟨g, cap, hv, hcs⟩ := hc.tl.at (by omega)
  have hc1 := hr.cell 1 (by omega)
  rw [hv] at hc1
  have hcj := hcs j hj
  have hsy := hok.syms
  generalize S.terms.getD j ⟨#[]⟩ = r at *
  clear hr hc hcs hok hv
  go_enter Try.func78, Try.ntmps78
  go_wp2_with fail
  go_ret
  exact ⟨rfl, rfl⟩

theorem nonName_at (b : Nat) (S : BS) (j : Nat) (w : World) (hB : BAt w b S) (hj : j < S.nons.length) :
    Calls Try.prog 77 #[.pointer (some ⟨b, 2, none⟩), .int .i64 (-((j : Int) + 1))] w fun e w' => e = .returned (.string (S.nons.getD j ⟨#[]⟩)) ∧ w' = w := by
  obtain ⟨hok, c, hr, hc⟩ := hB
  obtain ⟨g, cap, hv, hcs⟩ := hc.nl.at (by omega)
  have hc3 := hr.cell 3 (by omega)
  rw [hv] at hc3
  have hcj := hcs j hj
  have hsy := hok.syms
  generalize S.nons.getD j ⟨#[]⟩ = r at *
  clear hr hc hcs hok hv
  go_enter Try.func77, Try.ntmps77
  go_wp2_with fail
  go_ret
  exact ⟨rfl, rfl⟩

end Go.Proofs.Ytkbpnafahimeiaa
