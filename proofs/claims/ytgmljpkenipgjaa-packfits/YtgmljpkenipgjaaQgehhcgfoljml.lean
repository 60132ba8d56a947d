import Derived.Test.YtgmljpkenipgjaaQnlfcppoiaehl
import Derived.Laws.CopyOwn
import Derived.Test.YtgmljpkenipgjaaQfgjaffehooda
import Derived.Laws.StructEq
import Derived.Deep.LoopGhost
import Derived.Outline
import Derived.Test.YtgmljpkenipgjaaQblnmpaneppnd
import Derived.BigQuiet
import Derived.Deep.MidRow
import Derived.Deep.WholeRow
import Derived.Test.YtgmljpkenipgjaaQbcofglccpmfn
import Derived.Laws.AppendOwnNone

/-
  ordered of a builder, walked.
-/
namespace Go.Proofs.Ytgmljpkenipgjaa
open Go.RowKit Go.Maps Go.Shelf

attribute [local go_sem] Oper.semAt_some

/-! ### Productions in memory, one by one -/
/-- The productions of a slice lie where it leads to. -/
structure ProdAt (w : World) (g k : Nat) (p : PR) (a : Option Addr) (c : Nat) : Prop where
  left : w.cell? ⟨g, k * 3, none⟩ = some (.int .i64 p.left)
  right : w.cell? ⟨g, k * 3 + 1, none⟩ = some (.slice a p.right.length c)
  level : w.cell? ⟨g, k * 3 + 2, none⟩ = some (.int .i64 p.level)
  ints : IntsIn w (.slice a p.right.length c) p.right

/-! ### The order -/
def ordStep (out : List Nat) (p : PR) : List Nat := if (-p.left).toNat ∈ out then out else out ++ [(-p.left).toNat]
def ordOf (ps : List PR) : List Nat := ps.foldl ordStep []
def symOf (f : Nat) (out : List Nat) (i : Nat) : Int := if i ∈ out then (f : Int) + (out.idxOf i : Int) else 0

theorem symOf_snoc_same (f : Nat) {out : List Nat} {i : Nat} (h : i ∉ out) : symOf f (out ++ [i]) i = (f : Int) + out.length := by
  unfold symOf
  rw [if_pos (by simp), List.idxOf_append, if_neg h]
  simp
theorem symOf_snoc_other (f : Nat) {out : List Nat} {i j : Nat} (h : j ≠ i) : symOf f (out ++ [i]) j = symOf f out j := by
  unfold symOf
  by_cases hj : j ∈ out
  · rw [if_pos (by simp [hj]), if_pos hj, List.idxOf_append, if_pos hj]
  · rw [if_neg (by simp [hj, h]), if_neg hj]

def symL (f : Nat) (out : List Nat) (n : Nat) : List Value := (List.range n).map fun i => .int .i64 (symOf f out i)
def outL (S : BS) (out : List Nat) : List Value := out.map fun i => .string (S.nons.getD (i - 1) ⟨#[]⟩)

theorem symL_length (f : Nat) (out : List Nat) (n : Nat) : (symL f out n).length = n := by simp [symL]
theorem symL_at (f : Nat) (out : List Nat) (n i : Nat) (h : i < n) : (symL f out n)[i]? = some (.int .i64 (symOf f out i)) := by simp [symL, h]
theorem symL_set (f : Nat) (out : List Nat) (n i : Nat) (h : i < n) (hi : i ∉ out) : (symL f out n).set i (.int .i64 ((f : Int) + out.length)) = symL f (out ++ [i]) n := by
  apply List.ext_getElem?
  intro k
  rw [List.getElem?_set]
  by_cases hk : k < n
  · by_cases e : i = k
    · subst e; rw [if_pos rfl, if_pos (by rw [symL_length]; exact hk), symL_at _ _ _ _ hk, symOf_snoc_same f hi]
    · rw [if_neg e, symL_at _ _ _ _ hk, symL_at _ _ _ _ hk, symOf_snoc_other f (Ne.symm e)]
  · rw [if_neg (by omega)]
    simp [symL, hk]
end Go.Proofs.Ytgmljpkenipgjaa

namespace Go.Proofs.Ytgmljpkenipgjaa
open Go.RowKit Go.Maps Go.Shelf

attribute [local go_sem] Oper.semAt_some

/-- What holds while the productions are gone through: Bs: the symbols' block. -/
structure OrdAt (w wr : World) (S : BS) (Bs f : Nat) (out : List Nat) (v : Value) : Prop where
  syms : wr.heap[Bs]? = some (.cells (symL f out (S.nons.length + 1)).toArray 3 (0, 0))
  outs : wr.ownsRow (Bs + 1) 9 1 v out.length (outL S out)
  lo : w.heap.size ≤ Bs
  grown : w.grownBy wr none

theorem OrdAt.lt {w wr : World} {S : BS} {Bs f : Nat} {out : List Nat} {v : Value} (h : OrdAt w wr S Bs f out v) : Bs < wr.heap.size := (Array.getElem?_eq_some_iff.1 h.syms).1
theorem OrdAt.cell {w wr : World} {S : BS} {Bs f : Nat} {out : List Nat} {v : Value} (h : OrdAt w wr S Bs f out v) (i : Nat) (hi : i ≤ S.nons.length) : wr.cell? ⟨Bs, i, none⟩ = some (.int .i64 (symOf f out i)) := by
  rw [cell_of_row _ _ _ _ _ _ h.syms]
  simpa using symL_at f out (S.nons.length + 1) i (by omega)
theorem OrdAt.kept {w wr wx : World} {S : BS} {Bs f : Nat} {out : List Nat} {v : Value} (h : OrdAt w wr S Bs f out v) (hg : wr.grownBy wx none) : OrdAt w wx S Bs f out v :=
  ⟨(hg.block Bs h.lt (by simp)).trans h.syms, h.outs.kept hg (by cases hv : v.ownBlock <;> simp), h.lo, grown_trans h.grown hg⟩

theorem OrdAt.store {w wr : World} {S : BS} {Bs f j : Nat} {out : List Nat} {v : Value} (h : OrdAt w wr S Bs f out v) (hj : j ≤ S.nons.length) (hm : j ∉ out) :
    (wr.setCell ⟨Bs, j, none⟩ (.int .i64 ((f : Int) + out.length))).heap[Bs]? = some (.cells (symL f (out ++ [j]) (S.nons.length + 1)).toArray 3 (0, 0)) := by
  rw [heap_setCell_same wr Bs j _ _ _ h.syms, ← symL_set f out (S.nons.length + 1) j (by omega) hm]
  simp

end Go.Proofs.Ytgmljpkenipgjaa

/-
  copiedProds, walked: the same productions in new memory, no two right sides in one row.
-/
namespace Go.Proofs.Ytgmljpkenipgjaa
open Go.RowKit Go.Maps Go.Shelf

/-- A store into an own row. -/
theorem owns_set {w : World} {base e size g n c j : Nat} {xs : List Value} (h : w.ownsRow base e size (.slice (some ⟨g, 0, none⟩) n c) n xs) (u : Value) : (w.setCell ⟨g, j, none⟩ u).ownsRow base e size (.slice (some ⟨g, 0, none⟩) n c) n (xs.set j u) := by
  refine ⟨by rw [List.length_set]; exact h.1, ?_⟩
  rcases h.2 with ⟨hv, _⟩ | ⟨g', c', cur, hv, hb, hh, h1, h2, h3, h4⟩
  · cases hv
  · simp only [Value.slice.injEq, Option.some.injEq, Addr.mk.injEq, and_true, true_and] at hv
    obtain ⟨rfl, rfl⟩ := hv
    refine .inr ⟨g, c, cur.setIfInBounds j u, rfl, hb, heap_setCell_same w g j _ _ _ hh, h1, h2, by simpa using h3, ?_⟩
    rw [Array.toList_setIfInBounds, ← h4, List.take_set]

theorem owns_cell {w : World} {base e size g n c j : Nat} {xs : List Value} (h : w.ownsRow base e size (.slice (some ⟨g, 0, none⟩) n c) n xs) {u : Value} (hu : xs[j]? = some u) : w.cell? ⟨g, j, none⟩ = some u := by
  have := World.ownsRow.cells h (g := g) rfl j u hu
  rwa [Addr.add_mid, Nat.zero_add] at this
theorem owns_free {w : World} {base e size g n c : Nat} {xs : List Value} (h : w.ownsRow base e size (.slice (some ⟨g, 0, none⟩) n c) n xs) (j : Nat) : w.frozen? ⟨g, j, none⟩ = false := by
  rcases h.2 with ⟨hv, _⟩ | ⟨g', c', cur, hv, hb, hh, _⟩
  · cases hv
  · simp only [Value.slice.injEq, Option.some.injEq, Addr.mk.injEq, and_true, true_and] at hv
    obtain ⟨rfl, rfl⟩ := hv
    exact frozen_of_row w g j _ _ hh

/-- The cells of n productions. -/
def prodRow (n : Nat) (L : Nat → Int) (r : Nat → Value) (V : Nat → Int) : List Value := (List.range n).flatMap fun i => [.int .i64 (L i), r i, .int .i64 (V i)]

def updV (r : Nat → Value) (k : Nat) (v : Value) : Nat → Value := fun i => if i = k then v else r i
def updI (L : Nat → Int) (k : Nat) (x : Int) : Nat → Int := fun i => if i = k then x else L i
/-- Productions, wherever they lie: their left sides L, right sides R in the slices ra, rc, their levels V. -/
def ProdsAt (w : World) (a : Option Addr) (n : Nat) (L : Nat → Int) (R : Nat → List Int) (ra : Nat → Option Addr) (rc : Nat → Nat) (V : Nat → Int) : Prop :=
  n = 0 ∨ ∃ b off, a = some ⟨b, off, none⟩ ∧ ∀ k, k < n → w.cell? ⟨b, off + k * 3, none⟩ = some (.int .i64 (L k)) ∧ w.cell? ⟨b, off + k * 3 + 1, none⟩ = some (.slice (ra k) (R k).length (rc k)) ∧ w.cell? ⟨b, off + k * 3 + 2, none⟩ = some (.int .i64 (V k)) ∧ IntsAt w (ra k) (R k) ∧ (ra k = none → rc k = 0) ∧ (R k).length ≤ 17592186044416

end Go.Proofs.Ytgmljpkenipgjaa

namespace Go.Proofs.Ytgmljpkenipgjaa
open Go.RowKit Go.Maps Go.Shelf

end Go.Proofs.Ytgmljpkenipgjaa

/-
  lefts and IsSorted, walked.
-/
namespace Go.Proofs.Ytgmljpkenipgjaa
open Go.RowKit Go.Maps Go.Shelf

attribute [local go_sem] Oper.semAt_some

/-- A grammar by value. -/
def gramV (ta na la pa : Option Addr) (tn nn ln pn tc nc lc pc : Nat) (st : Int) : Value := .agg #[.slice ta tn tc, .slice na nn nc, .slice la ln lc, .int .i64 st, .slice pa pn pc]

end Go.Proofs.Ytgmljpkenipgjaa

namespace Go.Proofs.Ytgmljpkenipgjaa
open Go.RowKit Go.Maps Go.Shelf

attribute [local go_sem] Oper.semAt_some

def leftStep (L : Nat → Int) (out : List Int) (i : Nat) : List Int := if L i ∈ out then out else out ++ [L i]
def leftsTo (L : Nat → Int) (n : Nat) : List Int := (List.range n).foldl (leftStep L) []
def Asc (l : List Int) : Prop := ∀ i, i + 1 < l.length → l.getD i 0 ≤ l.getD (i + 1) 0

end Go.Proofs.Ytgmljpkenipgjaa

/-
  termsHold, walked: the end marker ahead, then terminals' texts, no two alike, their levels.
-/
namespace Go.Proofs.Ytgmljpkenipgjaa
open Go.RowKit Go.Maps Go.Shelf

attribute [local go_sem] Oper.semAt_some

/-- Terminals, wherever they lie. -/
def TermsAt (w : World) (a : Option Addr) (ts : List (ByteArray × Int)) : Prop :=
  ts = [] ∨ ∃ b off, a = some ⟨b, off, none⟩ ∧ ∀ i, i < ts.length → w.cell? ⟨b, off + i * 2, none⟩ = some (.string (ts.getD i (⟨#[]⟩, 0)).1) ∧ w.cell? ⟨b, off + i * 2 + 1, none⟩ = some (.int .i64 (ts.getD i (⟨#[]⟩, 0)).2)

theorem TermsAt.kept {w w' : World} {a : Option Addr} {ts : List (ByteArray × Int)} (h : TermsAt w a ts) (hg : w.grownBy w' none) : TermsAt w' a ts := by
  rcases h with h | ⟨b, off, ha, hc⟩
  · exact .inl h
  · exact .inr ⟨b, off, ha, fun i hi => ⟨hg.cell (hc i hi).1 (by simp), hg.cell (hc i hi).2 (by simp)⟩⟩

def termOK (ln : Nat) (t : ByteArray × Int) : Prop := isTextB t.1 = true ∧ 0 ≤ t.2 ∧ t.2 ≤ ln
def termsOK (ts : List (ByteArray × Int)) (ln : Nat) : Prop := ∃ rest, ts = (⟨#[]⟩, 0) :: rest ∧ (∀ t ∈ rest, termOK ln t) ∧ (rest.map (·.1)).Nodup

end Go.Proofs.Ytgmljpkenipgjaa

/-
  prodsHold, walked: each production's left side is a nonterminal, its level one, its right side's symbols terminals or nonterminals.
-/
namespace Go.Proofs.Ytgmljpkenipgjaa
open Go.RowKit Go.Maps Go.Shelf

attribute [local go_sem] Oper.semAt_some

def isNonI (tn nn ad : Nat) (x : Int) : Prop := (tn : Int) + ad ≤ x ∧ x < (tn : Int) + nn
def isSymI (tn nn ad : Nat) (x : Int) : Prop := (0 < x ∧ x < tn) ∨ isNonI tn nn ad x
def prodOK (tn nn ln ad : Nat) (L : Int) (R : List Int) (V : Int) : Prop := isNonI tn nn ad L ∧ (0 ≤ V ∧ V ≤ ln) ∧ ∀ x ∈ R, isSymI tn nn ad x

end Go.Proofs.Ytgmljpkenipgjaa

/-
  levelsHold itself.
-/
namespace Go.Proofs.Ytgmljpkenipgjaa
open Go.RowKit Go.Maps Go.Shelf

attribute [local go_sem] Oper.semAt_some

end Go.Proofs.Ytgmljpkenipgjaa

namespace Go.Proofs.Ytgmljpkenipgjaa
open Go.RowKit Go.Maps Go.Shelf

attribute [local go_sem] Oper.semAt_some

def levelOK (ts : List (ByteArray × Int)) (lv : List Int) (j : Nat) : Prop := (1 ≤ lv.getD j 0 ∧ lv.getD j 0 ≤ 3) ∧ ∃ t ∈ ts, t.2 = (j : Int) + 1

end Go.Proofs.Ytgmljpkenipgjaa

/-
  termsHold of whatever slice.
-/
namespace Go.Proofs.Ytgmljpkenipgjaa
open Go.RowKit Go.Maps Go.Shelf

attribute [local go_sem] Oper.semAt_some

end Go.Proofs.Ytgmljpkenipgjaa

/-
  inOrder, Valid: is a grammar plain?
-/
namespace Go.Proofs.Ytgmljpkenipgjaa
open Go.RowKit Go.Maps Go.Shelf

attribute [local go_sem] Oper.semAt_some

/-- A grammar, wherever it lies. -/
structure GAt (w : World) (ta na la pa : Option Addr) (tc nc lc pc : Nat) (ts : List (ByteArray × Int)) (ns : List ByteArray) (lv : List Int) (n : Nat) (L : Nat → Int) (R : Nat → List Int) (ra : Nat → Option Addr) (rc : Nat → Nat) (V : Nat → Int) : Prop where
  terms : TermsAt w ta ts
  nons : StrsAt w na ns
  levels : IntsAt w la lv
  prods : ProdsAt w pa n L R ra rc V
  tcap : ts.length ≤ tc
  ncap : ns.length ≤ nc
  pcap : n ≤ pc
  nnil : na = none → ns.length = 0 ∧ nc = 0
  pnil : pa = none → n = 0 ∧ pc = 0
  tlen : ts.length ≤ 17592186044416
  nlen : ns.length ≤ 17592186044416
  llen : lv.length ≤ 17592186044416
  plen : n ≤ 17592186044416

theorem GAt.kept {w w' : World} {ta na la pa : Option Addr} {tc nc lc pc : Nat} {ts : List (ByteArray × Int)} {ns : List ByteArray} {lv : List Int} {n : Nat} {L : Nat → Int} {R : Nat → List Int} {ra : Nat → Option Addr} {rc : Nat → Nat} {V : Nat → Int} (h : GAt w ta na la pa tc nc lc pc ts ns lv n L R ra rc V) (hg : w.grownBy w' none) : GAt w' ta na la pa tc nc lc pc ts ns lv n L R ra rc V := by
  refine ⟨h.terms.kept hg, h.nons.kept hg, h.levels.kept hg, ?_, h.tcap, h.ncap, h.pcap, h.nnil, h.pnil, h.tlen, h.nlen, h.llen, h.plen⟩
  rcases h.prods with h0 | ⟨b, off, ha, hc⟩
  · exact .inl h0
  · exact .inr ⟨b, off, ha, fun k hk => by
      obtain ⟨h1, h2, h3, h4, h5⟩ := hc k hk
      exact ⟨hg.cell h1 (by simp), hg.cell h2 (by simp), hg.cell h3 (by simp), h4.kept hg, h5⟩⟩

/-- All but the order. -/
structure holdsOK (ts : List (ByteArray × Int)) (ns : List ByteArray) (lv : List Int) (st : Int) (n : Nat) (L : Nat → Int) (R : Nat → List Int) (V : Nat → Int) : Prop where
  syms : (ts.length : Int) - 1 + ns.length ≤ 64
  cnt : n ≤ 96
  terms : termsOK ts lv.length
  nons : (∀ s ∈ ns, isNameB s = true) ∧ ns.Nodup
  levels : ∀ j, j < lv.length → levelOK ts lv j
  prods : ∀ i, i < n → prodOK ts.length ns.length lv.length 0 (L i) (R i) (V i)
  lefts : (leftsTo L n).length = ns.length
  start : isNonI ts.length ns.length 0 st

end Go.Proofs.Ytgmljpkenipgjaa

namespace Go.Proofs.Ytgmljpkenipgjaa
open Go.RowKit Go.Maps Go.Shelf

attribute [local go_sem] Oper.semAt_some

def validOK (ts : List (ByteArray × Int)) (ns : List ByteArray) (lv : List Int) (st : Int) (n : Nat) (L : Nat → Int) (R : Nat → List Int) (V : Nat → Int) : Prop := holdsOK ts ns lv st n L R V ∧ Asc (leftsTo L n)

end Go.Proofs.Ytgmljpkenipgjaa

/-
  numbered of a builder, walked.
-/
namespace Go.Proofs.Ytgmljpkenipgjaa
open Go.RowKit Go.Maps Go.Shelf

def updR (R : Nat → List Int) (k : Nat) (l : List Int) : Nat → List Int := fun i => if i = k then l else R i
/-- A handle's symbol, by the symbols' row. -/
def sg (σ : Nat → Int) (h : Int) : Int := if h < 0 then σ (-h).toNat else h
def mapTo (σ : Nat → Int) (j : Nat) (l : List Int) : List Int := (l.take j).map (sg σ) ++ l.drop j

/-- The stage at production k, j of its right side's symbols laid. -/
def LS (σ : Nat → Int) (L : Nat → Int) (k : Nat) : Nat → Int := fun i => if i < k then sg σ (L i) else L i
def RS (σ : Nat → Int) (R : Nat → List Int) (k j : Nat) : Nat → List Int := fun i => if i < k then (R i).map (sg σ) else if i = k then mapTo σ j (R i) else R i

end Go.Proofs.Ytgmljpkenipgjaa

namespace Go.Proofs.Ytgmljpkenipgjaa
open Go.RowKit Go.Maps Go.Shelf

attribute [local go_sem] Oper.semAt_some

end Go.Proofs.Ytgmljpkenipgjaa

/-
  Grammar of a builder: what is told, and the memory that it lies in.
-/
namespace Go.Proofs.Ytgmljpkenipgjaa
open Go.RowKit Go.Maps Go.Shelf

/-- A grammar as it is told. -/
structure GR where
  terms : List (ByteArray × Int)
  nons : List ByteArray
  levels : List Int
  start : Int
  prods : List PR

def BS.sym (S : BS) (i : Nat) : Int := symOf (S.terms.length + 1) (ordOf S.prods) i
def BS.first (S : BS) : Int := if S.start = 0 then (S.prods.getD 0 ⟨0, [], 0⟩).left else S.start
/-- Is there a grammar to tell? -/
def BS.tells (S : BS) : Bool := decide (0 < S.prods.length) && decide (S.nons.length ≤ (ordOf S.prods).length)
/-- The grammar that is told. -/
def BS.gram (S : BS) : GR :=
  { terms := S.tms S.terms.length, nons := (ordOf S.prods).map (fun i => S.nons.getD (i - 1) ⟨#[]⟩), levels := S.sides, start := S.sym (-S.first).toNat,
    prods := S.prods.map fun p => ⟨sg S.sym p.left, p.right.map (sg S.sym), p.level⟩ }

end Go.Proofs.Ytgmljpkenipgjaa

/-
  Grammar of a builder, walked.
-/
namespace Go.Proofs.Ytgmljpkenipgjaa
open Go.RowKit Go.Maps Go.Shelf

attribute [local go_sem] Oper.semAt_some

/-- The zero grammar's cells. -/
def zeroGC : Array Value := #[.slice none 0 0, .slice none 0 0, .slice none 0 0, .int .i64 0, .slice none 0 0]

end Go.Proofs.Ytgmljpkenipgjaa

/-
  Grammar of a builder, where there is one to tell.
-/
namespace Go.Proofs.Ytgmljpkenipgjaa
open Go.RowKit Go.Maps Go.Shelf

attribute [local go_sem] Oper.semAt_some

end Go.Proofs.Ytgmljpkenipgjaa

/-
  A told grammar, as Valid takes it.
-/
namespace Go.Proofs.Ytgmljpkenipgjaa
open Go.RowKit Go.Maps Go.Shelf

attribute [local go_sem] Oper.semAt_some

end Go.Proofs.Ytgmljpkenipgjaa

namespace Go.Proofs.Ytgmljpkenipgjaa
open Go.RowKit Go.Maps Go.Shelf

end Go.Proofs.Ytgmljpkenipgjaa

/-
  Level, walked.
-/
namespace Go.Proofs.Ytgmljpkenipgjaa
open Go.RowKit

attribute [local go_sem] Oper.semAt_some

end Go.Proofs.Ytgmljpkenipgjaa

namespace Go.Proofs.Ytgmljpkenipgjaa
open Go.RowKit

theorem nodup_short {α : Type} [DecidableEq α] : ∀ (l m : List α), l.Nodup → (∀ x ∈ l, x ∈ m) → l.length ≤ m.length
  | [], _, _, _ => Nat.zero_le _
  | a :: l, m, hn, hs => by
    rw [List.nodup_cons] at hn
    have ha := hs a (by simp)
    have h := nodup_short l (m.erase a) hn.2 (fun x hx => (List.mem_erase_of_ne (fun e => hn.1 (by rw [← e]; exact hx))).2 (hs x (by simp [hx])))
    rw [List.length_erase_of_mem ha] at h
    have : 0 < m.length := List.length_pos_of_mem ha
    simp only [List.length_cons]
    omega

def updL (f : Nat → Int) (i : Nat) (z : Int) : Nat → Int := fun j => if j = i then z else f j
/-- The terminals' levels, once a level is told of these; none: it is refused. -/
def levGo (S : BS) (L : Int) : (Nat → Int) → List Int → Option (Nat → Int)
  | lev, [] => some lev
  | lev, h :: r => if S.isT h = true ∧ lev h.toNat = 0 then levGo S L (updL lev h.toNat L) r else none
def BS.addL (S : BS) (lev : Nat → Int) (side : Int) : BS := { S with lev := lev, sides := S.sides ++ [side] }
def BS.level (S : BS) (side : Int) (terms : List Int) : Int × Int × BS :=
  if (1 ≤ side ∧ side ≤ 3) ∧ terms ≠ [] then
    match levGo S (S.sides.length + 1) S.lev terms with
    | some lev => (S.sides.length + 1, 0, S.addL lev side)
    | none => (0, 1, S)
  else (0, 1, S)

theorem isT_iff {S : BS} {h : Int} : S.isT h = true ↔ 0 < h ∧ h ≤ S.terms.length := by simp [BS.isT]
/-- What it leaves and what it turns. -/
theorem levGo_keeps {S : BS} {L : Int} (hL : L ≠ 0) : ∀ (terms : List Int) (lev lev' : Nat → Int), levGo S L lev terms = some lev' →
    (∀ i, lev i ≠ 0 → lev' i = lev i) ∧ (∀ i, lev' i = lev i ∨ (lev' i = L ∧ 1 ≤ i ∧ i ≤ S.terms.length)) ∧ (terms ≠ [] → ∃ i, 1 ≤ i ∧ i ≤ S.terms.length ∧ lev' i = L)
  | [], lev, lev', h => by
    cases h
    exact ⟨fun _ _ => rfl, fun _ => .inl rfl, fun h => absurd rfl h⟩
  | a :: r, lev, lev', h => by
    unfold levGo at h
    split at h
    · next hc =>
      obtain ⟨h1, h2⟩ := hc
      obtain ⟨t1, t2⟩ := isT_iff.1 h1
      obtain ⟨k1, k2, _⟩ := levGo_keeps hL r _ _ h
      have hat : lev' a.toNat = L := by
        rw [k1 a.toNat (by simp [updL, hL])]
        simp [updL]
      refine ⟨fun i hi => ?_, fun i => ?_, fun _ => ⟨a.toNat, by omega, by omega, hat⟩⟩
      · have hne : i ≠ a.toNat := fun e => hi (by rw [e]; exact h2)
        have hu : updL lev a.toNat L i = lev i := by simp [updL, hne]
        rw [k1 i (by rw [hu]; exact hi), hu]
      · by_cases e : i = a.toNat
        · right
          rw [e]
          exact ⟨hat, by omega, by omega⟩
        · have hu : updL lev a.toNat L i = lev i := by simp [updL, e]
          rcases k2 i with h3 | h3
          · left; rw [h3, hu]
          · exact .inr h3
    · cases h

theorem levels_le {S : BS} {lev : Nat → Int} {n : Nat} (has : ∀ i, i < n → ∃ h, 1 ≤ h ∧ h ≤ S.terms.length ∧ lev h = (i : Int) + 1) : n ≤ S.terms.length := by
  have hnd : ((List.range n).map fun i : Nat => (i : Int) + 1).Nodup := by
    rw [List.nodup_iff_pairwise_ne, List.pairwise_map]
    exact (List.nodup_range (n := n)).imp (fun h e => h (by omega))
  have h := nodup_short ((List.range n).map fun i : Nat => (i : Int) + 1) ((List.range S.terms.length).map fun j => lev (j + 1)) hnd (fun x hx => by
    obtain ⟨i, hi, rfl⟩ := List.mem_map.1 hx
    obtain ⟨h, h1, h2, h3⟩ := has i (List.mem_range.1 hi)
    exact List.mem_map.2 ⟨h - 1, List.mem_range.2 (by omega), by rw [show h - 1 + 1 = h by omega]; exact h3⟩)
  simpa using h

theorem BS.OK.addL {S : BS} (h : S.OK) {side : Int} {terms : List Int} {lev : Nat → Int} (hs : 1 ≤ side ∧ side ≤ 3) (ht : terms ≠ []) (hl : levGo S (S.sides.length + 1) S.lev terms = some lev) : (S.addL lev side).OK := by
  obtain ⟨k1, k2, k3⟩ := levGo_keeps (by omega) terms S.lev lev hl
  have hlen : (S.sides ++ [side]).length = S.sides.length + 1 := by simp
  have hhas : ∀ i, i < (S.sides ++ [side]).length → ∃ h, 1 ≤ h ∧ h ≤ S.terms.length ∧ lev h = (i : Int) + 1 := fun i hi => by
    rw [hlen] at hi
    by_cases e : i = S.sides.length
    · obtain ⟨j, j1, j2, j3⟩ := k3 ht
      exact ⟨j, j1, j2, by rw [j3, e]⟩
    · obtain ⟨j, j1, j2, j3⟩ := h.has i (by omega)
      exact ⟨j, j1, j2, by rw [k1 j (by rw [j3]; omega), j3]⟩
  have hle := levels_le hhas
  have hsy := h.syms
  refine { syms := h.syms, tnames := h.tnames, nnames := h.nnames, tnd := h.tnd, nnd := h.nnd, sides := by show (S.sides ++ [side]).length ≤ 64; omega, sdv := ?_, prods := h.prods, lev := ?_, lev0 := ?_, levT := ?_, has := hhas, pl := h.pl, pr := h.pr, plen := h.plen, pv := ?_, st := h.st }
  · intro x hx
    rcases List.mem_append.1 (show x ∈ S.sides ++ [side] from hx) with hx | hx
    · exact h.sdv x hx
    · rw [List.mem_singleton.1 hx]; exact hs
  · intro i
    show 0 ≤ lev i ∧ lev i ≤ ((S.sides ++ [side]).length : Int)
    have hi := h.lev i
    rw [hlen]
    rcases k2 i with e | ⟨e, _, _⟩
    · rw [e]; omega
    · rw [e]; omega
  · show lev 0 = 0
    rcases k2 0 with e | ⟨_, e, _⟩
    · rw [e]; exact h.lev0
    · omega
  · intro j hj
    show lev j = 0
    rcases k2 j with e | ⟨_, _, e⟩
    · rw [e]; exact h.levT j hj
    · have hj' : S.terms.length < j := hj
      omega
  · intro p hp
    have := h.pv p hp
    show 0 ≤ p.level ∧ p.level ≤ ((S.sides ++ [side]).length : Int)
    rw [hlen]
    omega
theorem BS.OK.level {S : BS} (h : S.OK) (side : Int) (terms : List Int) : (S.level side terms).2.2.OK := by
  unfold BS.level
  split
  · next hc =>
    split
    · next lev hl => exact h.addL hc.1 hc.2 hl
    · exact h
  · exact h

end Go.Proofs.Ytgmljpkenipgjaa

namespace Go.Proofs.Ytgmljpkenipgjaa
open Go.RowKit

attribute [local go_sem] Oper.semAt_some

/-- A row of the terminals' levels. -/
def IsLev (A : Array Value) (f : Nat → Int) : Prop := A.size = 65 ∧ ∀ i, i < 65 → A[i]? = some (.int .i64 (f i))
def levRow (f : Nat → Int) : List Value := (List.range 65).map fun i => .int .i64 (f i)
theorem IsLev.set {A : Array Value} {f : Nat → Int} (h : IsLev A f) (m : Nat) (L : Int) : IsLev (A.setIfInBounds m (.int .i64 L)) (updL f m L) := by
  refine ⟨by simp [h.1], fun i hi => ?_⟩
  by_cases e : i = m
  · subst e
    simp [updL, h.1, hi]
  · rw [Array.getElem?_setIfInBounds_ne (fun x => e x.symm), h.2 i hi]
    simp [updL, e]
def putL (c : Nat → Value) (o : Nat) (vs : List Value) : Nat → Value := fun i => if o ≤ i ∧ i < o + vs.length then vs.getD (i - o) undef else c i
end Go.Proofs.Ytgmljpkenipgjaa

/-
  Grade, walked.
-/
namespace Go.Proofs.Ytgmljpkenipgjaa
open Go.RowKit

def setLev (ps : List PR) (i : Nat) (l : Int) : List PR := ps.set i { ps.getD i ⟨0, [], 0⟩ with level := l }
def gradeGo (l : Int) : List PR → List Int → Option (List PR)
  | ps, [] => some ps
  | ps, h :: r => if 0 ≤ h ∧ h < ps.length then gradeGo l (setLev ps h.toNat l) r else none
def BS.grade (S : BS) (l : Int) (hs : List Int) : Int × BS :=
  if 0 ≤ l ∧ l ≤ S.sides.length then
    match gradeGo l S.prods hs with
    | some ps => (0, { S with prods := ps })
    | none => (1, S)
  else (1, S)
/-- As it was, but for its level. -/
def Graded (l : Int) (ps ps' : List PR) : Prop := ps'.length = ps.length ∧ ∀ i, i < ps.length → (ps'.getD i ⟨0, [], 0⟩).left = (ps.getD i ⟨0, [], 0⟩).left ∧ (ps'.getD i ⟨0, [], 0⟩).right = (ps.getD i ⟨0, [], 0⟩).right ∧ ((ps'.getD i ⟨0, [], 0⟩).level = (ps.getD i ⟨0, [], 0⟩).level ∨ (ps'.getD i ⟨0, [], 0⟩).level = l)
theorem Graded.refl (l : Int) (ps : List PR) : Graded l ps ps := ⟨rfl, fun _ _ => ⟨rfl, rfl, .inl rfl⟩⟩
theorem Graded.set {l : Int} {ps ps' : List PR} (h : Graded l ps ps') {k : Nat} (hk : k < ps.length) : Graded l ps (setLev ps' k l) := by
  refine ⟨by simp [setLev, h.1], fun i hi => ?_⟩
  obtain ⟨h1, h2, h3⟩ := h.2 i hi
  have hi' : i < ps'.length := by rw [h.1]; exact hi
  by_cases e : i = k
  · subst e
    have : (setLev ps' i l).getD i ⟨0, [], 0⟩ = { ps'.getD i ⟨0, [], 0⟩ with level := l } := by simp [setLev, List.getD, hi']
    rw [this]
    exact ⟨h1, h2, .inr rfl⟩
  · have : (setLev ps' k l).getD i ⟨0, [], 0⟩ = ps'.getD i ⟨0, [], 0⟩ := by simp [setLev, List.getD, show ¬ k = i from fun x => e x.symm]
    rw [this]
    exact ⟨h1, h2, h3⟩
theorem Graded.mem {l : Int} {ps ps' : List PR} (h : Graded l ps ps') {p : PR} (hp : p ∈ ps') : ∃ q ∈ ps, p.left = q.left ∧ p.right = q.right ∧ (p.level = q.level ∨ p.level = l) := by
  obtain ⟨i, hi, rfl⟩ := List.getElem_of_mem hp
  have hi' : i < ps.length := by rw [← h.1]; exact hi
  have := h.2 i hi'
  rw [show ps'.getD i ⟨0, [], 0⟩ = ps'[i] by simp [List.getD, hi], show ps.getD i ⟨0, [], 0⟩ = ps[i] by simp [List.getD, hi']] at this
  exact ⟨ps[i], List.getElem_mem hi', this⟩
end Go.Proofs.Ytgmljpkenipgjaa

namespace Go.Proofs.Ytgmljpkenipgjaa
open Go.RowKit

attribute [local go_sem] Oper.semAt_some

end Go.Proofs.Ytgmljpkenipgjaa

/-
  The document's builder in memory: four lists of its own and the start symbol; what its steps leave.
-/
namespace Go.Proofs.Ytgmljpkenipgjaa
open Go.RowKit

theorem owns_nebox {w : World} {B e e' s n r : Nat} {v : Value} {xs : List Value} {cs : Array Value} (h : w.ownsRow B e s v n xs) (hr : w.heap[r]? = some (.cells cs e' (0, 0))) (he : e ≠ e') : v.ownBlock = none ∨ v.ownBlock ≠ some r := by
  rcases h.2 with ⟨rfl, _⟩ | ⟨g, cap, cur, rfl, _, hg, _⟩
  · exact .inl rfl
  · right
    intro hh
    have : g = r := by simpa [Value.ownBlock] using hh
    rw [this, hr] at hg
    simp at hg
    exact he hg.2.symm

/-- The terminals with their levels. -/
def rts (S : BS) : List (ByteArray × Int) := (List.range S.terms.length).map fun j => (S.terms.getD j ⟨#[]⟩, S.lev (j + 1))
end Go.Proofs.Ytgmljpkenipgjaa

/-
  lr0: items, in memory; the small functions.
-/
namespace Go.Proofs.Ytgmljpkenipgjaa.J
open Go.RowKit Go.Maps Go.Shelf

attribute [local go_sem] Oper.semAt_some

/-- An item: a production and a dot. -/
abbrev It := Int × Int
def encIt (x : It) : List Value := [.int .i64 x.1, .int .i64 x.2]
/-- Items, as cells. -/
def itsV (l : List It) : List Value := l.flatMap encIt
theorem itsV_cons (x : It) (l : List It) : itsV (x :: l) = .int .i64 x.1 :: .int .i64 x.2 :: itsV l := rfl
theorem itsV_append (l m : List It) : itsV (l ++ m) = itsV l ++ itsV m := by unfold itsV; rw [List.flatMap_append]
theorem itsV_length (l : List It) : (itsV l).length = l.length * 2 := by
  induction l with
  | nil => rfl
  | cons x l ih => rw [itsV_cons]; simp [ih]; omega
theorem itsV_at : ∀ (l : List It) (i : Nat), i < l.length → (itsV l)[i * 2]? = some (.int .i64 (l.getD i (0, 0)).1) ∧ (itsV l)[i * 2 + 1]? = some (.int .i64 (l.getD i (0, 0)).2)
  | [], i, h => absurd h (Nat.not_lt_zero _)
  | x :: l, 0, _ => ⟨rfl, rfl⟩
  | x :: l, i + 1, h => by
    have ih := itsV_at l i (by simpa using h)
    rw [itsV_cons, show (i + 1) * 2 = i * 2 + 1 + 1 by omega]
    simpa using ih
theorem itsV_one (l : List It) : ∀ u ∈ itsV l, u.oneCell' = true := by
  induction l with
  | nil => intro u h; cases h
  | cons x l ih =>
    intro u h
    rw [itsV_cons] at h
    simp only [List.mem_cons] at h
    rcases h with rfl | rfl | h
    · rfl
    · rfl
    · exact ih u h

/-- Items that can be read. -/
def ItsAt (X : World) (a : Option Addr) (l : List It) : Prop := l = [] ∨ ∃ b off, a = some ⟨b, off, none⟩ ∧ ∀ i, i < l.length → X.cell? ⟨b, off + i * 2, none⟩ = some (.int .i64 (l.getD i (0, 0)).1) ∧ X.cell? ⟨b, off + i * 2 + 1, none⟩ = some (.int .i64 (l.getD i (0, 0)).2)
theorem ItsAt.kept {X Y : World} {a : Option Addr} {l : List It} (h : ItsAt X a l) (hg : X.grownBy Y none) : ItsAt Y a l := by
  rcases h with h | ⟨b, off, e, h⟩
  · exact .inl h
  · exact .inr ⟨b, off, e, fun i hi => ⟨hg.cell (h i hi).1 (by simp), hg.cell (h i hi).2 (by simp)⟩⟩
/-- Is it an item of n productions? -/
def itB (n : Nat) (R : Nat → List Int) (x : It) : Bool := decide (0 ≤ x.1) && decide (x.1 < (n : Int)) && decide (0 ≤ x.2) && decide (x.2 ≤ ((R x.1.toNat).length : Int))
/-- The symbol behind an item's dot. -/
def aheadV (R : Nat → List Int) (x : It) : Int := if x.2 = ((R x.1.toNat).length : Int) then -1 else (R x.1.toNat).getD x.2.toNat 0

section
variable (ta na la pa : Option Addr) (tc nc lc pc : Nat) (ts : List (ByteArray × Int)) (ns : List ByteArray) (lv : List Int) (n : Nat) (L : Nat → Int) (R : Nat → List Int) (ra : Nat → Option Addr) (rc : Nat → Nat) (V : Nat → Int) (st : Int) (w : World) (tn nn ln : Nat)

end

end Go.Proofs.Ytgmljpkenipgjaa.J

/-
  awake, walked.
-/
namespace Go.Proofs.Ytgmljpkenipgjaa
open Go.RowKit Go.Maps Go.Shelf

def SA : BS := (BS.zero.term ⟨#[43]⟩).2.2
def SB : BS := (SA.non ⟨#[101]⟩).2.2
def SC : BS := (SB.rule (-1) [-1, 1]).2.2
end Go.Proofs.Ytgmljpkenipgjaa

namespace Go.Proofs.Ytgmljpkenipgjaa
open Go.RowKit Go.Maps Go.Shelf

attribute [local go_sem] Oper.semAt_some

end Go.Proofs.Ytgmljpkenipgjaa

/-
  Lists that are compared: slices.Equal of numbers, texts, terminals; the document's SameInts.
-/
namespace Go.Proofs.Ytgmljpkenipgjaa
open Go.RowKit Go.Maps Go.Shelf

attribute [local go_sem] Oper.semAt_some

end Go.Proofs.Ytgmljpkenipgjaa

/-
  Productions that are compared: sameProd, slices.EqualFunc.
-/
namespace Go.Proofs.Ytgmljpkenipgjaa
open Go.RowKit Go.Maps Go.Shelf

attribute [local go_sem] Oper.semAt_some

/-- Two rows of productions are alike. -/
def prodsSame (n m : Nat) (L1 : Nat → Int) (R1 : Nat → List Int) (V1 : Nat → Int) (L2 : Nat → Int) (R2 : Nat → List Int) (V2 : Nat → Int) : Prop := n = m ∧ ∀ i, i < n → L1 i = L2 i ∧ R1 i = R2 i ∧ V1 i = V2 i

end Go.Proofs.Ytgmljpkenipgjaa

namespace Go.Proofs.Ytgmljpkenipgjaa
open Go.RowKit Go.Maps Go.Shelf

attribute [local go_sem] Oper.semAt_some

section
variable (ta na la pa ta' na' la' pa' : Option Addr) (tn nn ln pn tc nc lc pc tn' nn' ln' pn' tc' nc' lc' pc' : Nat) (st st' : Int)

end

end Go.Proofs.Ytgmljpkenipgjaa

/-
  The document's levelsFit and nonsFit.
-/
namespace Go.Proofs.Ytgmljpkenipgjaa
open Go.RowKit

def t0 : ByteArray × Int := (⟨#[]⟩, 0)
/-- The terminal at i. -/
def termAt (ts : List (ByteArray × Int)) (ln i : Nat) : Prop := termOK ln (ts.getD i (⟨#[]⟩, 0)) ∧ ∀ k, 1 ≤ k → k < i → (ts.getD k (⟨#[]⟩, 0)).1 ≠ (ts.getD i (⟨#[]⟩, 0)).1
/-- The nonterminal at i, of those from ad on. -/
def nonAt (ns : List ByteArray) (ad i : Nat) : Prop := isNameB (ns.getD i ⟨#[]⟩) = true ∧ ∀ k, ad ≤ k → k < i → ns.getD k ⟨#[]⟩ ≠ ns.getD i ⟨#[]⟩
/-- What the document's fits asks. -/
structure fitsOK (ad : Nat) (ts : List (ByteArray × Int)) (ns : List ByteArray) (lv : List Int) (st : Int) (n : Nat) (L : Nat → Int) (R : Nat → List Int) (V : Nat → Int) : Prop where
  nn : ns.length ≤ 64 + ad
  tn : ts.length ≤ 65
  pn : n ≤ 96 + ad
  p1 : 1 + ad ≤ n
  ln : lv.length ≤ 64
  syms : (ts.length : Int) - 1 + ns.length - ad ≤ 64
  terms : (0 < ts.length ∧ ts.getD 0 (⟨#[]⟩, 0) = (⟨#[]⟩, 0)) ∧ ∀ i, 1 ≤ i → i < ts.length → termAt ts lv.length i
  levels : ∀ j, j < lv.length → levelOK ts lv j
  nons : ∀ i, ad ≤ i → i < ns.length → nonAt ns ad i
  prods : ∀ i, ad ≤ i → i < n → prodOK ts.length ns.length lv.length ad (L i) (R i) (V i)
  lefts : (leftsTo (fun i => L (ad + i)) (n - ad)).length + ad = ns.length
  start : isNonI ts.length ns.length ad st

/-! ### The order -/
end Go.Proofs.Ytgmljpkenipgjaa

namespace Go.Proofs.Ytgmljpkenipgjaa
open Go.RowKit

attribute [local go_sem] Oper.semAt_some

end Go.Proofs.Ytgmljpkenipgjaa

namespace Go.Proofs.Ytgmljpkenipgjaa
open Go.RowKit

attribute [local go_sem] Oper.semAt_some

end Go.Proofs.Ytgmljpkenipgjaa

namespace Go.Proofs.Ytgmljpkenipgjaa
open Go.RowKit

attribute [local go_sem] Oper.semAt_some

end Go.Proofs.Ytgmljpkenipgjaa

/-
  The document's Symbols and prodsFit.
-/
namespace Go.Proofs.Ytgmljpkenipgjaa
open Go.RowKit

attribute [local go_sem] Oper.semAt_some

end Go.Proofs.Ytgmljpkenipgjaa

/-
  The document's fits and Valid.
-/
namespace Go.Proofs.Ytgmljpkenipgjaa
open Go.RowKit

attribute [local go_sem] Oper.semAt_some

end Go.Proofs.Ytgmljpkenipgjaa

namespace Go.Proofs.Ytgmljpkenipgjaa
open Go.RowKit

attribute [local go_sem] Oper.semAt_some

end Go.Proofs.Ytgmljpkenipgjaa

/-
  The document's Valid of any grammar.
-/
namespace Go.Proofs.Ytgmljpkenipgjaa
open Go.RowKit

attribute [local go_sem] Oper.semAt_some

end Go.Proofs.Ytgmljpkenipgjaa

/-
  The document's Same of two grammars, walked.
-/
namespace Go.Proofs.Ytgmljpkenipgjaa
open Go.RowKit Go.Maps Go.Shelf

attribute [local go_sem] Oper.semAt_some

section
variable (ta na la pa ta' na' la' pa' : Option Addr) (tn nn ln pn tc nc lc pc tn' nn' ln' pn' tc' nc' lc' pc' : Nat) (st st' : Int)

end

section
variable (ta na la pa ta' na' la' pa' : Option Addr) (tn nn ln pn tc nc lc pc ln' tc' nc' lc' pc' : Nat) (st : Int)

end

end Go.Proofs.Ytgmljpkenipgjaa

/-
  Same and the document's Same of any two grammars, wherever they lie.
-/
namespace Go.Proofs.Ytgmljpkenipgjaa
open Go.RowKit Go.Maps Go.Shelf

section
variable {w : World} {ta na la pa ta' na' la' pa' : Option Addr} {tc nc lc pc tc' nc' lc' pc' : Nat} {ts ts' : List (ByteArray × Int)} {ns ns' : List ByteArray} {lv lv' : List Int} {n n' : Nat} {L L' : Nat → Int} {R R' : Nat → List Int} {ra ra' : Nat → Option Addr} {rc rc' : Nat → Nat} {V V' : Nat → Int} (st st' : Int)

/-- Are two grammars the same? -/
def sameG (ts ts' : List (ByteArray × Int)) (ns ns' : List ByteArray) (lv lv' : List Int) (st st' : Int) (n n' : Nat) (L L' : Nat → Int) (R R' : Nat → List Int) (V V' : Nat → Int) : Prop := ts = ts' ∧ ns = ns' ∧ lv = lv' ∧ st = st' ∧ prodsSame n n' L R V L' R' V'

end

end Go.Proofs.Ytgmljpkenipgjaa

/-
  Term, Non and Start of the document's builder.
-/
namespace Go.Proofs.Ytgmljpkenipgjaa
open Go.RowKit

attribute [local go_sem] Oper.semAt_some

def BS.startA (S : BS) (h : Int) : Int × BS := if S.isN h then (0, { S with start := h }) else (1, S)
end Go.Proofs.Ytgmljpkenipgjaa

/-
  Grade of the document's builder.
-/
namespace Go.Proofs.Ytgmljpkenipgjaa
open Go.RowKit

attribute [local go_sem] Oper.semAt_some

end Go.Proofs.Ytgmljpkenipgjaa

/-
  Level of the document's builder.
-/
namespace Go.Proofs.Ytgmljpkenipgjaa
open Go.RowKit

attribute [local go_sem] Oper.semAt_some

/-- A list's places: what Level asks of each. -/
def levAsk (S : BS) (hs : List Int) (j : Nat) : Prop := S.isT (hs.getD j 0) = true ∧ S.lev (hs.getD j 0).toNat = 0 ∧ ∀ m, m < j → hs.getD m 0 ≠ hs.getD j 0
/-- The levels, told of the first k. -/
def levTold (S : BS) (K : Int) (hs : List Int) (k : Nat) : Nat → Int := fun j => if (j : Int) ∈ hs.take k then K else S.lev j
def BS.tolds (S : BS) (side K : Int) (hs : List Int) (k : Nat) : BS := { S with lev := levTold S K hs k, sides := S.sides ++ [side] }
end Go.Proofs.Ytgmljpkenipgjaa

/-
  Rule of the document's builder.
-/
namespace Go.Proofs.Ytgmljpkenipgjaa
open Go.RowKit Go.Maps Go.Shelf

attribute [local go_sem] Oper.semAt_some

end Go.Proofs.Ytgmljpkenipgjaa

/-
  Rule of the document's builder, walked.
-/
namespace Go.Proofs.Ytgmljpkenipgjaa
open Go.RowKit Go.Maps Go.Shelf

attribute [local go_sem] Oper.semAt_some

end Go.Proofs.Ytgmljpkenipgjaa

/-
  Grammar of the document's builder: what is being made, step by step.
-/
namespace Go.Proofs.Ytgmljpkenipgjaa
open Go.RowKit Go.Maps Go.Shelf

section
variable {Y : World} {H : Nat} {wz w' : World} {vt vn vl vp : Value} {st : Int} {ts : List (ByteArray × Int)} {ns : List ByteArray} {lv : List Int} {N : Nat} {pl : Nat → Int} {ps : List PR}

end

/-! ### Places and symbols -/
end Go.Proofs.Ytgmljpkenipgjaa
