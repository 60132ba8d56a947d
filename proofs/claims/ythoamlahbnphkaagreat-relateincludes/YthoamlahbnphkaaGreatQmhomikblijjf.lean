/-
  Copy of any grammar: the same in new memory.
-/
import Derived.Test.YthoamlahbnphkaaGreatQhilhekbodjfg
import Derived.Test.YthoamlahbnphkaaGreatQkcobfonflehg
import Derived.Test.YthoamlahbnphkaaGreatQjdhdignnbkhd
namespace Go.Proofs.YthoamlahbnphkaaGreat
open Go.RowKit Go.Maps Go.Shelf

/-- A grammar out of its lists. -/
def grOf (ts : List (ByteArray × Int)) (ns : List ByteArray) (lv : List Int) (st : Int) (n : Nat) (L : Nat → Int) (R : Nat → List Int) (V : Nat → Int) : GR := ⟨ts, ns, lv, st, (List.range n).map fun i => ⟨L i, R i, V i⟩⟩
/-- Copied productions, in their own memory. -/
structure CNew (W : World) (B : Nat) (v : Value) (n : Nat) (L : Nat → Int) (R : Nat → List Int) (V : Nat → Int) (rg : Nat → Value) : Prop where
  row : W.ownsRow B 71 3 v n (prodRow n L rg V)
  rights : ∀ i, i < n → W.ownsRow B 3 1 (rg i) (R i).length ((R i).map (Value.int .i64))
end Go.Proofs.YthoamlahbnphkaaGreat
