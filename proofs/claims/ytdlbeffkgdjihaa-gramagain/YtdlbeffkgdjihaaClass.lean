/-
  A region that draws its order, whose operations only read and whose callees keep a property: one walk, in the order of the text.
-/
import Derived.Test.YtdlbeffkgdjihaaNames
namespace Go.Proofs.Ytdlbeffkgdjihaa
open Go.RowKit

/-- A world of which p holds. -/
structure WBox (p : World → Prop) where
  w : World
  ok : p w

theorem wp_region_class {p : World → Prop} {id : Nat} {Q : Exit → Act → World → Prop} {a : Act} {w : World} {l : List Oper} (hm : Try.prog.follows .mixedOrders = true) (hB : Region.lexB .any l.toArray = true) (hC : p w.drew)
    (h : wpQuiet Try.prog l.toArray (fun w' => ∃ s : WBox p, w' = s.w) (fun a' => ∀ w', (∃ s : WBox p, w' = s.w) → Q .normal a' w') l a) : (Code.region id l.toArray true).wp Try.prog Q a w :=
  wp_region_quiet (C := fun w' => ∃ s : WBox p, w' = s.w) hm hB ⟨⟨_, hC⟩, rfl⟩ (by simpa using h)

theorem calls_class {p : World → Prop} {f : FuncId} {args : Array Value} {v : Value} {s : WBox p} (h : Calls Try.prog f args s.w fun e w' => e = .returned v ∧ p w') : Calls Try.prog f args s.w fun e w'' => e = .returned v ∧ ∃ s' : WBox p, w'' = s'.w :=
  h.mono fun _ _ ⟨he, hp⟩ => ⟨he, ⟨_, hp⟩, rfl⟩

end Go.Proofs.Ytdlbeffkgdjihaa
