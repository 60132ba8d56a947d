/-
  What a builder's memory is: two tables of names, the terminals' levels, the sides, the productions, the start symbol.
-/
import Derived.Test.YtgmljpkenipgjaaQbcofglccpmfn
import Derived.Deep.MidRow
import Derived.Deep.WholeRow
import Derived.Maps.OwnSet
import Derived.ArgAppend
import Derived.Below
namespace Go.Proofs.Ytgmljpkenipgjaa
open Go.RowKit Go.Maps

/-- A production by handles. -/
structure PR where
  left : Int
  right : List Int
  level : Int

/-- A builder as it is told. -/
structure BS where
  terms : List ByteArray
  nons : List ByteArray
  lev : Nat → Int
  sides : List Int
  prods : List PR
  start : Int
  /-- (A mark of the proof's own: the blocks that its lists may lie in.) -/
  P : Nat → Prop := fun _ => True

/-- A text's number in a table, counted from k on; 0 if it is not there. -/
def numFrom : List ByteArray → ByteArray → Nat → Nat
  | [], _, _ => 0
  | x :: r, s, k => if x.data.toList = s.data.toList then k else numFrom r s (k + 1)
def numOf (l : List ByteArray) (s : ByteArray) : Nat := numFrom l s 1

theorem bytes_ext {x s : ByteArray} (h : x.data.toList = s.data.toList) : x = s := by
  cases x; cases s; congr 1; exact Array.ext' h

theorem numFrom_zero_iff (s : ByteArray) : ∀ (l : List ByteArray) (k : Nat), 0 < k → (numFrom l s k = 0 ↔ s ∉ l)
  | [], k, _ => by simp [numFrom]
  | x :: r, k, hk => by
    unfold numFrom
    split
    · next h => have e := bytes_ext h; subst e; simp; omega
    · next h =>
      rw [numFrom_zero_iff s r (k + 1) (by omega)]
      have : ¬ s = x := fun e => h (by rw [e])
      simp [this]
theorem numFrom_snoc_in (x s : ByteArray) : ∀ (l : List ByteArray) (k : Nat), s ∈ l → numFrom (l ++ [x]) s k = numFrom l s k
  | [], k, h => by cases h
  | y :: r, k, hs => by
    simp only [List.cons_append]
    unfold numFrom
    split
    · rfl
    · next h =>
      have : ¬ s = y := fun e => h (by rw [e])
      exact numFrom_snoc_in x s r (k + 1) (by simpa [this] using hs)
theorem numFrom_snoc_out (x s : ByteArray) : ∀ (l : List ByteArray) (k : Nat), s ∉ l → numFrom (l ++ [x]) s k = if x.data.toList = s.data.toList then k + l.length else 0
  | [], k, _ => by unfold numFrom; simp [numFrom]
  | y :: r, k, hs => by
    simp only [List.cons_append]
    unfold numFrom
    split
    · next h => exact absurd (by simp [bytes_ext h]) hs
    · rw [numFrom_snoc_out x s r (k + 1) (fun h => hs (by simp [h]))]
      split
      · simp; omega
      · rfl
theorem numOf_zero_iff {l : List ByteArray} {s : ByteArray} : numOf l s = 0 ↔ s ∉ l := numFrom_zero_iff s l 1 (by omega)
theorem numOf_zero {l : List ByteArray} {s : ByteArray} (h : s ∉ l) : numOf l s = 0 := numOf_zero_iff.2 h
theorem numOf_snoc_same {l : List ByteArray} {x : ByteArray} (hx : x ∉ l) : numOf (l ++ [x]) x = l.length + 1 := by
  unfold numOf; rw [numFrom_snoc_out _ _ _ _ hx, if_pos rfl]; omega
theorem numOf_snoc_other {l : List ByteArray} {x s : ByteArray} (h : s ≠ x) : numOf (l ++ [x]) s = numOf l s := by
  unfold numOf
  by_cases hs : s ∈ l
  · exact numFrom_snoc_in x s l 1 hs
  · rw [numFrom_snoc_out x s l 1 hs, if_neg (fun e => h (bytes_ext e).symm)]
    exact (numOf_zero hs).symm

noncomputable abbrev strR : Value → Option (DataW Unit × List MemPlace) := plainElem Try.prog 3

/-- A map that numbers the texts of a list. -/
def MapIs (w : World) (v : Value) (l : List ByteArray) : Prop :=
  (v = .map none ∧ l = []) ∨ ∃ B n, ∃ D : DataW Unit, v = .map (some B) ∧ n ≤ l.length ∧ w.ownsMap Try.prog 9 strR B n D ∧ ∀ s : ByteArray, D.atKey (.string s.data.toList) (.lit (.int .i64 0)) = .lit (.int .i64 (numOf l s))

def StrsIn (w : World) (v : Value) (l : List ByteArray) : Prop := w.ownsRow 0 9 1 v l.length (l.map Value.string)
def IntsIn (w : World) (v : Value) (l : List Int) : Prop := w.ownsRow 0 3 1 v l.length (l.map (Value.int .i64))
/-- The three cells of a production, its right side's slice r. -/
def prL (p : PR) (r : Value) : List Value := [.int .i64 p.left, r, .int .i64 p.level]
/-- Its lists lie in blocks of which S.P holds; of all blocks to come it holds. -/
def Foot (w : World) (S : BS) (c : Nat → Value) : Prop :=
  (∀ g, w.heap.size ≤ g → S.P g) ∧ (∀ i, i = 1 ∨ i = 3 ∨ i = 69 ∨ i = 70 → ∀ g, (c i).ownBlock = some g → S.P g) ∧
  ∀ gp k v g, (c 70).ownBlock = some gp → k < S.prods.length * 3 → w.cell? ⟨gp, k, none⟩ = some v → v.ownBlock = some g → S.P g

/-- What always holds of a builder. -/
structure BS.OK (S : BS) : Prop where
  syms : S.terms.length + S.nons.length ≤ 64
  tnames : ∀ s ∈ S.terms, isTextB s = true
  nnames : ∀ s ∈ S.nons, isNameB s = true
  tnd : S.terms.Nodup
  nnd : S.nons.Nodup
  sides : S.sides.length ≤ 64
  sdv : ∀ x ∈ S.sides, 1 ≤ x ∧ x ≤ 3
  prods : S.prods.length ≤ 96
  lev : ∀ i, 0 ≤ S.lev i ∧ S.lev i ≤ S.sides.length
  lev0 : S.lev 0 = 0
  levT : ∀ h, S.terms.length < h → S.lev h = 0
  has : ∀ i, i < S.sides.length → ∃ h, 1 ≤ h ∧ h ≤ S.terms.length ∧ S.lev h = (i : Int) + 1
  pl : ∀ p ∈ S.prods, -(S.nons.length : Int) ≤ p.left ∧ p.left < 0
  pr : ∀ p ∈ S.prods, ∀ h ∈ p.right, (0 < h ∧ h ≤ S.terms.length) ∨ (h < 0 ∧ -(S.nons.length : Int) ≤ h)
  plen : ∀ p ∈ S.prods, p.right.length ≤ 17592186044416
  pv : ∀ p ∈ S.prods, 0 ≤ p.level ∧ p.level ≤ S.sides.length
  st : S.start = 0 ∨ (-(S.nons.length : Int) ≤ S.start ∧ S.start < 0)

/-! ### What keeps -/
theorem grown_refl (w : World) (row : Option Nat) : w.grownBy w row := ⟨rfl, rfl, rfl, Nat.le_refl _, fun _ _ _ => rfl⟩
theorem grown_trans {w w1 w2 : World} {row : Option Nat} (h : w.grownBy w1 row) (k : w1.grownBy w2 row) : w.grownBy w2 row :=
  ⟨k.os.trans h.os, k.tape.trans h.tape, k.output.trans h.output, Nat.le_trans h.size k.size, fun i hi hne => (k.block i (Nat.lt_of_lt_of_le hi h.size) hne).trans (h.block i hi hne)⟩
theorem grown_below0 {w w1 : World} (h : w.grownBy w1 none) : Below w.heap.size w w1 := ⟨h.os, h.tape, h.output, h.size, fun k hk => h.block k hk (by simp)⟩
theorem grown_setCell {w : World} (b o : Nat) (v : Value) : w.grownBy (w.setCell ⟨b, o, none⟩ v) (some b) :=
  ⟨rfl, rfl, rfl, by simp [World.setCell], fun k _ hne => Below.heap_setCell _ _ _ _ (fun e => hne (by simp [e]))⟩
/-- What a new block beyond w does not touch. -/
theorem grown_new {w w1 w2 : World} {b : Nat} (h : w.grownBy w1 none) (k : w1.grownBy w2 (some b)) (hb : w.heap.size ≤ b) : w.grownBy w2 none :=
  ⟨k.os.trans h.os, k.tape.trans h.tape, k.output.trans h.output, Nat.le_trans h.size k.size, fun i hi _ => (k.block i (Nat.lt_of_lt_of_le hi h.size) (by simp; omega)).trans (h.block i hi (by simp))⟩

/-- One cell turned. -/
def putC (c : Nat → Value) (i : Nat) (v : Value) : Nat → Value := fun j => if j = i then v else c j
end Go.Proofs.Ytgmljpkenipgjaa
