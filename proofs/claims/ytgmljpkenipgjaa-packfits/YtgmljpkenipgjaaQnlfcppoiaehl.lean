import Derived.Test.YtgmljpkenipgjaaQblnmpaneppnd
import Derived.Deep.RegionLaw
import Derived.Deep.CutRange
import Derived.Shelf.Abstract

/-
  Steps of a region that draws its order: a call of a Go function. Lists in memory, element by element.
-/
namespace Go.Proofs.Ytgmljpkenipgjaa
open Go.RowKit Go.Maps Go.Shelf

theorem StrsIn.at {w : World} {v : Value} {l : List ByteArray} (h : StrsIn w v l) (hl : 0 < l.length) : ∃ g cap, v = .slice (some ⟨g, 0, none⟩) l.length cap ∧ ∀ i, i < l.length → w.cell? ⟨g, i, none⟩ = some (.string (l.getD i ⟨#[]⟩)) := by
  have h' := h
  rcases h.2 with ⟨rfl, hn⟩ | ⟨g, cap, cur, rfl, _, hg, hle, _⟩
  · omega
  · refine ⟨g, cap, rfl, fun i hi => ?_⟩
    have := World.ownsRow.cells h' (g := g) rfl i (.string (l.getD i ⟨#[]⟩)) (by simp [List.getD, hi])
    rw [Addr.add_mid, Nat.zero_add] at this
    exact this

end Go.Proofs.Ytgmljpkenipgjaa

/-
  terms of a builder: the end marker, then the terminals, each with its level.
-/
namespace Go.Proofs.Ytgmljpkenipgjaa
open Go.RowKit Go.Maps Go.Shelf

attribute [local go_sem] Oper.semAt_some

/-- A terminal's two cells. -/
def tmL (s : ByteArray) (l : Int) : List Value := [.string s, .int .i64 l]
def tmsL (ts : List (ByteArray × Int)) : List Value := ts.flatMap fun t => tmL t.1 t.2
/-- The terminals of a builder, the end marker first, up to the k-th. -/
def BS.tms (S : BS) (k : Nat) : List (ByteArray × Int) := (⟨#[]⟩, 0) :: (List.range k).map fun j => (S.terms.getD j ⟨#[]⟩, S.lev (j + 1))

end Go.Proofs.Ytgmljpkenipgjaa
