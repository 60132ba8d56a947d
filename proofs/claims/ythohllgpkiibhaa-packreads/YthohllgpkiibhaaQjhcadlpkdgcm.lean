import Derived.Test.YthohllgpkiibhaaQfgdaaebkjjdl
import Derived.Maps.Keyed
import Derived.Maps.Own
import Derived.Maps.OwnSet
import Derived.Maps.Views
import Derived.DeepKeys4
import Derived.Test.YthohllgpkiibhaaQpaaphhbdlgni
import Derived.Deep.RegionLaw
import Derived.Deep.AppendLies
import Derived.Deep.RegionHeld3

/-
  lr0: a map whose keys are items.
-/
namespace Go.Proofs.Ythohllgpkiibhaa.J
open Go.RowKit Go.Maps Go.Shelf

/-- An item as a value. -/
def aggI (x : It) : Value := .agg #[.int .i64 x.1, .int .i64 x.2]
/-- Numbers that an int can be. -/
def I64 (x : It) : Prop := (Lit.int .i64 x.1).wf = true ∧ (Lit.int .i64 x.2).wf = true
def heldR (v : Value) : Option (DataW Value × List MemPlace) := some (.held v, [])
/-- F with v at x. -/
noncomputable def putI (F : It → Value) (x : It) (v : Value) : It → Value := fun y => if y = x then v else F y
end Go.Proofs.Ythohllgpkiibhaa.J

/-
  lr0: newMaker.
-/
namespace Go.Proofs.Ythohllgpkiibhaa.J
open Go.RowKit Go.Maps Go.Shelf

attribute [local go_sem] Oper.semAt_some

end Go.Proofs.Ythohllgpkiibhaa.J

/-
  lr0: the maker in memory.
-/
namespace Go.Proofs.Ythohllgpkiibhaa.J
open Go.RowKit Go.Maps Go.Shelf

/-- The states whose kernels begin with x. -/
def begI (ks : List (List It)) (x : It) : List Nat := (List.range ks.length).filter fun i => (ks.getD i []).head? == some x
def natV (l : List Nat) : List Value := l.map fun (i : Nat) => Value.int .i64 (i : Int)
/-- States, as cells. -/
def stV (kv ev : Nat → Value) : Nat → List Value
  | 0 => []
  | N + 1 => stV kv ev N ++ [kv N, ev N]
section
variable {w X Y : World} {mb bm : Nat} {c0 c1 c2 c3 c4 bs : Value} {ba bi : Int} {rv : Value} {N : Nat} {kv ev : Nat → Value} {kl el : Nat → List It} {m : Nat} {mv fv : It → Value} {nl : It → List Nat} {E : Nat}
def updI {α : Type} (f : It → α) (s : It) (x : α) : It → α := fun i => if i = s then x else f i
end
end Go.Proofs.Ythohllgpkiibhaa.J

/-
  digraph: a search in memory.
-/
namespace Go.Proofs.Ythohllgpkiibhaa.J
open Go.RowKit Go.Maps Go.Shelf D

section
variable {B : Nat} {X Y Z : World}
end

/-- The visits, as cells. -/
def visV (W : List (Nat × Nat × Nat)) : List Value := W.flatMap fun v => [.int .i64 (v.1 : Int), .int .i64 (v.2.1 : Int), .int .i64 (v.2.2 : Int)]
/-- The way of a search. -/
def wayL : List Fr → List (Nat × Nat × Nat)
  | [] => []
  | f :: fs => wayL fs ++ [(f.node, (opens fs).length + 1, f.gone)]
section
variable {X Y : World} {B sb N : Nat} {ea : Option Addr} {ec lb : Nat} {W : List (Nat × Nat × Nat)} {O : List Nat} {low : Nat → Nat} {wa oa : Option Addr} {wc oc : Nat}
end

end Go.Proofs.Ythohllgpkiibhaa.J

/-
  lr0: the maker's ask, walked.
-/
namespace Go.Proofs.Ythohllgpkiibhaa.J
open Go.RowKit Go.Maps Go.Shelf

attribute [local go_sem] Oper.semAt_some

theorem owns_at {X : World} {B e s n : Nat} {v : Value} {xs : List Value} (h : X.ownsRow B e s v n xs) (hn : 0 < n) : ∃ g c, v = .slice (some ⟨g, 0, none⟩) n c ∧ ∀ j u, xs[j]? = some u → X.cell? ⟨g, j, none⟩ = some u := by
  rcases h.2 with ⟨_, h2⟩ | ⟨g, cap, cur, rfl, hB, hh, _, _, hs, ht⟩
  · omega
  · refine ⟨g, cap, rfl, fun j u hu => ?_⟩
    rw [cell_of_row _ _ _ _ _ _ hh]
    rw [← ht, List.getElem?_take] at hu
    split at hu
    · simpa using hu
    · cases hu
end Go.Proofs.Ythohllgpkiibhaa.J

/-
  digraph: enter.
-/
namespace Go.Proofs.Ythohllgpkiibhaa.J
open Go.RowKit Go.Maps Go.Shelf D

attribute [local go_sem] Oper.semAt_some

end Go.Proofs.Ythohllgpkiibhaa.J
