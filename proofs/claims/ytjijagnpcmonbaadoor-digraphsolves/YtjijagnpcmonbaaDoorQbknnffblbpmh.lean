/-
  A grammar that came in, as the walks take it.
-/
import Derived.Test.YtjijagnpcmonbaaDoorQclllccldmchf
import Derived.ProofKit
import Derived.OpenShut
import Derived.SliceStrings
import Derived.Deep.Slices
import Derived.SizedLaws
namespace Go.Proofs.YtjijagnpcmonbaaDoor
open Go.ChangeShapes Go.WideShapes Go.ChangeAt Go.RowKit Go.Deep

theorem cellsInt : Tryd.prog.cellsOf 3 = 1 := by kernel_rfl
section
variable {H : Type} {enc : TypeId × Value → H} {W : World} {fuel : Nat} {cs : List Value} {x : DataW H × List MemPlace}

/-- What else is known of a grammar that came in. -/
structure GIn (ta la : Option Addr) (tc lc : Nat) (ts : List (ByteArray × Int)) (lv : List Int) (n : Nat) (L : Nat → Int) (R : Nat → List Int) (rc : Nat → Nat) (V : Nat → Int) (st : Int) (ns : List ByteArray) : Prop where
  tn : ts.length ≤ 5864062014805
  nn : ns.length ≤ 8796093022208
  pn : n ≤ 3518437208883
  tnil : ta = none → ts.length = 0 ∧ tc = 0
  lnil : la = none → lv.length = 0 ∧ lc = 0
  lcap : lv.length ≤ lc
  rcap : ∀ i, i < n → (R i).length ≤ rc i
  lvl : ∀ t ∈ ts, (Lit.int .i64 t.2).wf = true ∧ t.1.size ≤ 140737488355328
  nsz : ∀ s ∈ ns, s.size ≤ 140737488355328
  lvw : ∀ z ∈ lv, (Lit.int .i64 z).wf = true
  stw : (Lit.int .i64 st).wf = true
  prw : ∀ i, i < n → (Lit.int .i64 (L i)).wf = true ∧ (Lit.int .i64 (V i)).wf = true ∧ ∀ z ∈ R i, (Lit.int .i64 z).wf = true

end

end Go.Proofs.YtjijagnpcmonbaaDoor
