import Derived.Test.YtgmljpkenipgjaaQgehhcgfoljml
import Derived.Deep.RegionHeld3

/-
  hasAdded of any grammar.
-/
namespace Go.Proofs.Ytgmljpkenipgjaa
open Go.RowKit Go.Maps Go.Shelf

/-- Are the first nonterminal and production 0 the added ones? -/
structure addedOK (ts : List (ByteArray × Int)) (ns : List ByteArray) (st : Int) (n : Nat) (L : Nat → Int) (R : Nat → List Int) (V : Nat → Int) : Prop where
  nn : 0 < ns.length
  name : ns.getD 0 ⟨#[]⟩ = ⟨#[]⟩
  pn : 0 < n
  left : L 0 = ts.length
  right : R 0 = [st]
  level : V 0 = 0

attribute [local go_sem] Oper.semAt_some

end Go.Proofs.Ytgmljpkenipgjaa

/-
  Closed, of any grammar: the program's and the document's.
-/
namespace Go.Proofs.Ytgmljpkenipgjaa
open Go.RowKit Go.Maps Go.Shelf

attribute [local go_sem] Oper.semAt_some

/-- All that holds asks of a grammar with the added ones. -/
structure holds1OK (ts : List (ByteArray × Int)) (ns : List ByteArray) (lv : List Int) (st : Int) (n : Nat) (L : Nat → Int) (R : Nat → List Int) (V : Nat → Int) : Prop where
  syms : (ts.length : Int) - 1 + (ns.length - 1 : Nat) ≤ 64
  cnt : n - 1 ≤ 96
  terms : termsOK ts lv.length
  nons : (∀ s ∈ ns.drop 1, isNameB s = true) ∧ (ns.drop 1).Nodup
  levels : ∀ j, j < lv.length → levelOK ts lv j
  prods : ∀ i, i < n - 1 → prodOK ts.length ns.length lv.length 1 (L (1 + i)) (R (1 + i)) (V (1 + i))
  lefts : (leftsTo (fun i => L (1 + i)) (n - 1)).length = ns.length - 1
  start : isNonI ts.length ns.length 1 st

theorem ProdsAt.kept {w w' : World} {a : Option Addr} {n : Nat} {L : Nat → Int} {R : Nat → List Int} {ra : Nat → Option Addr} {rc : Nat → Nat} {V : Nat → Int} (h : ProdsAt w a n L R ra rc V) (hg : w.grownBy w' none) : ProdsAt w' a n L R ra rc V := by
  rcases h with h | ⟨b, off, e, hc⟩
  · exact .inl h
  · refine .inr ⟨b, off, e, fun k hk => ?_⟩
    obtain ⟨h1, h2, h3, h4, h5⟩ := hc k hk
    exact ⟨hg.cell h1 (by simp), hg.cell h2 (by simp), hg.cell h3 (by simp), h4.kept hg, h5⟩

/-- Is a grammar closed? -/
def closedOK (ts : List (ByteArray × Int)) (ns : List ByteArray) (lv : List Int) (st : Int) (n : Nat) (L : Nat → Int) (R : Nat → List Int) (V : Nat → Int) : Prop := addedOK ts ns st n L R V ∧ fitsOK 1 ts ns lv st n L R V

end Go.Proofs.Ytgmljpkenipgjaa

/-
  The document's Closed, of any grammar.
-/
namespace Go.Proofs.Ytgmljpkenipgjaa
open Go.RowKit Go.Maps Go.Shelf

attribute [local go_sem] Oper.semAt_some

end Go.Proofs.Ytgmljpkenipgjaa

/-
  Copy of any grammar: the same in new memory.
-/
namespace Go.Proofs.Ytgmljpkenipgjaa
open Go.RowKit Go.Maps Go.Shelf

/-- A grammar out of its lists. -/
def grOf (ts : List (ByteArray × Int)) (ns : List ByteArray) (lv : List Int) (st : Int) (n : Nat) (L : Nat → Int) (R : Nat → List Int) (V : Nat → Int) : GR := ⟨ts, ns, lv, st, (List.range n).map fun i => ⟨L i, R i, V i⟩⟩
end Go.Proofs.Ytgmljpkenipgjaa

/-
  What lend lays: the box of the grammar, the lent one's box, and the rows behind.
-/
namespace Go.Proofs.Ytgmljpkenipgjaa
open Go.RowKit Go.Maps Go.Shelf

theorem keep0 {W W' : World} {B e s n : Nat} {v : Value} {xs : List Value} (h : W.ownsRow B e s v n xs) (hg : W.grownBy W' none) : W'.ownsRow B e s v n xs := h.kept hg (by cases hv : v.ownBlock <;> simp)

/-- A row that grew: what was there stays. -/
theorem grown_row {X w w' : World} {B e s n : Nat} {v : Value} {xs : List Value} (hX : X.grownBy w none) (ho : w.ownsRow B e s v n xs) (hB : X.heap.size ≤ B) (hg : w.grownBy w' v.ownBlock) : X.grownBy w' none := by
  cases hv : v.ownBlock with
  | none => rw [hv] at hg; exact grown_trans hX hg
  | some q => rw [hv] at hg; exact grown_new hX hg (Nat.le_trans hB (ho.lt q hv).1)

section
variable {X Y : World} {B kr kp tn nn ln c1 c2 c3 c4 c5 : Nat} {ts : List (ByteArray × Int)} {ns : List ByteArray} {lv : List Int} {L : Nat → Int} {R : Nat → List Int} {V : Nat → Int} {a1 a2 a3 a4 a5 : Option Addr} {rg : Nat → Nat × Nat}
end

section
variable {X Y : World} {B n tn nn ln c1 c2 c3 c4 c5 : Nat} {ts : List (ByteArray × Int)} {ns : List ByteArray} {lv : List Int} {L : Nat → Int} {R : Nat → List Int} {V : Nat → Int} {a1 a2 a3 a4 a5 : Option Addr} {rg : Nat → Nat × Nat}
end

end Go.Proofs.Ytgmljpkenipgjaa
