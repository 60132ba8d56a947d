import Derived.Test.YtgmljpkenipgjaaQapjccfebojcm
import Derived.Laws.Externs
import Derived.MapKept
import Derived.Shelf.SlMaps.Clone

/-
  What a table of names does: its size, a name's number, a new name.
-/
namespace Go.Proofs.Ytgmljpkenipgjaa
open Go.RowKit Go.Maps

theorem strKey : Keyed Try.prog 9 := string_keyed Try.underlying9
theorem StrsIn.form {w : World} {v : Value} {l : List ByteArray} (h : StrsIn w v l) : ∃ a cap, v = .slice a l.length cap ∧ l.length ≤ cap ∧ (a = none → l.length = 0 ∧ cap = 0) ∧ (∀ g, a = some g → ∀ j u, (l.map Value.string)[j]? = some u → w.cell? (g.add j) = some u) := by
  have h' := h
  rcases h.2 with ⟨rfl, hn⟩ | ⟨g, cap, cur, rfl, _, hg, hle, _⟩
  · rw [hn]
    exact ⟨none, 0, rfl, Nat.le_refl _, fun _ => ⟨rfl, rfl⟩, fun g hg => by cases hg⟩
  · exact ⟨_, cap, rfl, hle, (fun h => by cases h), (fun g' hg' => by cases hg'; exact World.ownsRow.cells h' rfl)⟩
theorem IntsIn.form {w : World} {v : Value} {l : List Int} (h : IntsIn w v l) : ∃ a cap, v = .slice a l.length cap ∧ l.length ≤ cap ∧ (a = none → l.length = 0 ∧ cap = 0) ∧ (∀ g, a = some g → ∀ j u, (l.map (Value.int .i64))[j]? = some u → w.cell? (g.add j) = some u) := by
  have h' := h
  rcases h.2 with ⟨rfl, hn⟩ | ⟨g, cap, cur, rfl, _, hg, hle, _⟩
  · rw [hn]
    exact ⟨none, 0, rfl, Nat.le_refl _, fun _ => ⟨rfl, rfl⟩, fun g hg => by cases hg⟩
  · exact ⟨_, cap, rfl, hle, (fun h => by cases h), (fun g' hg' => by cases hg'; exact World.ownsRow.cells h' rfl)⟩

theorem MapIs.put {w : World} {l : List ByteArray} {B n : Nat} {D : DataW Unit} {s : ByteArray} (ho : w.ownsMap Try.prog 9 strR B (n + 1) (D.put (.string s.data.toList) (.lit (.int .i64 ((l.length + 1 : Nat) : Int))))) (hn : n ≤ l.length) (hs : s ∉ l) (hD : IsMap D)
    (hat : ∀ s : ByteArray, D.atKey (.string s.data.toList) (.lit (.int .i64 0)) = .lit (.int .i64 (numOf l s))) : MapIs w (.map (some B)) (l ++ [s]) := by
  refine .inr ⟨B, n + 1, _, rfl, by simp; omega, ho, fun s' => ?_⟩
  by_cases e : s' = s
  · subst e
    rw [atKey_put_same hD (by simp [WideAt.IsKeyLit]), numOf_snoc_same hs]
  · rw [atKey_put_other (fun h => e (bytes_ext (by simpa using h))), hat s', numOf_snoc_other e]

end Go.Proofs.Ytgmljpkenipgjaa

/-
  A new name in a table: the map and the list are replaced.
-/
namespace Go.Proofs.Ytgmljpkenipgjaa
open Go.RowKit Go.Maps

end Go.Proofs.Ytgmljpkenipgjaa

/-
  Term and Non of a builder; whether a handle is a terminal's or a nonterminal's.
-/
namespace Go.Proofs.Ytgmljpkenipgjaa
open Go.RowKit Go.Maps

theorem grown_drewN (w : World) (k : Nat) : w.grownBy (w.drewN k) none := ⟨rfl, rfl, rfl, Nat.le_refl _, fun _ _ _ => rfl⟩
/-! ### Term, Non -/
def BS.addT (S : BS) (s : ByteArray) : BS := { S with terms := S.terms ++ [s] }
def BS.addN (S : BS) (s : ByteArray) : BS := { S with nons := S.nons ++ [s] }
/-- A name's number, or 0 and the error; the builder behind it. -/
def numbered (full : Bool) (l : List ByteArray) (s : ByteArray) : Nat × Int :=
  if numOf l s = 0 then (if full then (0, 11) else (l.length + 1, 0)) else (numOf l s, 0)
def BS.full (S : BS) : Bool := decide (64 ≤ S.terms.length + S.nons.length)
def BS.term (S : BS) (s : ByteArray) : Int × Int × BS :=
  if isTextB s then (((numbered S.full S.terms s).1 : Int), (numbered S.full S.terms s).2, if numOf S.terms s = 0 ∧ S.full = false then S.addT s else S) else (0, 1, S)
def BS.non (S : BS) (s : ByteArray) : Int × Int × BS :=
  if isNameB s then (-((numbered S.full S.nons s).1 : Int), (numbered S.full S.nons s).2, if numOf S.nons s = 0 ∧ S.full = false then S.addN s else S) else (0, 1, S)

theorem BS.OK.addT {S : BS} (h : S.OK) {s : ByteArray} (hs : isTextB s = true) (hni : s ∉ S.terms) (hf : S.full = false) : (S.addT s).OK := by
  have hf' : S.terms.length + S.nons.length < 64 := by simpa [BS.full] using hf
  have hl : (S.addT s).terms.length = S.terms.length + 1 := by simp [BS.addT]
  refine ⟨by rw [hl]; show S.terms.length + 1 + S.nons.length ≤ 64; omega, fun x hx => ?_, h.nnames, ?_, h.nnd, h.sides, h.sdv, h.prods, h.lev, h.lev0, fun k hk => h.levT k (by omega), fun i hi => ?_, h.pl, fun p hp k hk => ?_, h.plen, h.pv, h.st⟩
  · rcases List.mem_append.1 hx with hx | hx
    · exact h.tnames x hx
    · simp at hx; subst hx; exact hs
  · exact List.nodup_append.2 ⟨h.tnd, by simp, fun a ha b hb => by simp at hb; subst hb; exact fun e => hni (e ▸ ha)⟩
  · obtain ⟨k, h1, h2, h3⟩ := h.has i hi
    exact ⟨k, h1, by omega, h3⟩
  · rcases h.pr p hp k hk with h' | h'
    · left; rw [hl]; omega
    · exact .inr h'
theorem BS.OK.addN {S : BS} (h : S.OK) {s : ByteArray} (hs : isNameB s = true) (hni : s ∉ S.nons) (hf : S.full = false) : (S.addN s).OK := by
  have hf' : S.terms.length + S.nons.length < 64 := by simpa [BS.full] using hf
  have hl : (S.addN s).nons.length = S.nons.length + 1 := by simp [BS.addN]
  refine ⟨by rw [hl]; show S.terms.length + (S.nons.length + 1) ≤ 64; omega, h.tnames, fun x hx => ?_, h.tnd, ?_, h.sides, h.sdv, h.prods, h.lev, h.lev0, h.levT, h.has, fun p hp => ?_, fun p hp k hk => ?_, h.plen, h.pv, ?_⟩
  · rcases List.mem_append.1 hx with hx | hx
    · exact h.nnames x hx
    · simp at hx; subst hx; exact hs
  · exact List.nodup_append.2 ⟨h.nnd, by simp, fun a ha b hb => by simp at hb; subst hb; exact fun e => hni (e ▸ ha)⟩
  · have := h.pl p hp; rw [hl]; omega
  · rcases h.pr p hp k hk with h' | h'
    · exact .inl h'
    · right; rw [hl]; omega
  · have hst : (S.addN s).start = S.start := rfl
    rw [hl, hst]
    rcases h.st with h' | h'
    · exact .inl h'
    · right; omega

end Go.Proofs.Ytgmljpkenipgjaa

/-
  New; a builder that nobody made; what a nil one answers; whether a handle is one.
-/
namespace Go.Proofs.Ytgmljpkenipgjaa
open Go.RowKit Go.Maps

def BS.zero : BS := { terms := [], nons := [], lev := fun _ => 0, sides := [], prods := [], start := 0 }
/-- The cells of an empty builder. -/
def zeroC (i : Nat) : Value := if i = 0 ∨ i = 2 then .map none else if i = 1 ∨ i = 3 ∨ i = 69 ∨ i = 70 then .slice none 0 0 else .int .i64 0

def BS.isN (S : BS) (h : Int) : Bool := decide (h < 0) && decide (-(S.nons.length : Int) ≤ h)
def BS.isT (S : BS) (h : Int) : Bool := decide (0 < h) && decide (h ≤ S.terms.length)

/-! ### Start, Sizes; nil -/
/-- A grammar's five cells. -/
def gramC (t n l p : Value) (st : Int) : Array Value := #[t, n, l, .int .i64 st, p]
end Go.Proofs.Ytgmljpkenipgjaa

/-
  nonsHold; what a number is in a grammar: a level, a terminal's symbol, a nonterminal's.
-/
namespace Go.Proofs.Ytgmljpkenipgjaa
open Go.RowKit Go.Maps

/-- A slice of texts, wherever it lies. -/
def StrsAt (w : World) (a : Option Addr) (l : List ByteArray) : Prop := l = [] ∨ ∃ b off, a = some ⟨b, off, none⟩ ∧ ∀ i, i < l.length → w.cell? ⟨b, off + i, none⟩ = some (.string (l.getD i ⟨#[]⟩))

theorem StrsAt.kept {w w' : World} {a : Option Addr} {l : List ByteArray} (h : StrsAt w a l) (hg : w.grownBy w' none) : StrsAt w' a l := by
  rcases h with h | ⟨b, off, ha, hc⟩
  · exact .inl h
  · exact .inr ⟨b, off, ha, fun i hi => hg.cell (hc i hi) (by simp)⟩
/-- The map of the first k names. -/
structure SeenAt (w wr : World) (B : Nat) (l : List ByteArray) (k : Nat) (D : DataW Unit) : Prop where
  own : wr.ownsMap Try.prog 9 strR B k D
  has : ∀ s : ByteArray, Maps.has D (.string s.data.toList) = true ↔ s ∈ l.take k
  le : Maps.size D ≤ k
  nd : Maps.size D = k ↔ (l.take k).Nodup
  grown : w.grownBy wr none
  lo : w.heap.size ≤ B

theorem SeenAt.push {w wr w1 : World} {B k : Nat} {l : List ByteArray} {D : DataW Unit} {d : DataW Unit} (h : SeenAt w wr B l k D) (hk : k < l.length) (ho : w1.ownsMap Try.prog 9 strR B (k + 1) (D.put (.string (l.getD k ⟨#[]⟩).data.toList) d)) (hg : wr.grownBy w1 (some B)) :
    SeenAt w w1 B l (k + 1) (D.put (.string (l.getD k ⟨#[]⟩).data.toList) d) := by
  have htk : l.take (k + 1) = l.take k ++ [l.getD k ⟨#[]⟩] := by rw [List.take_succ_eq_append_getElem hk]; simp [List.getD, hk]
  generalize l.getD k ⟨#[]⟩ = q at *
  have hT := h.own.tidy strKey
  have hsz := size_put (k := .string (q).data.toList) hT d
  refine ⟨ho, fun s => ?_, ?_, ?_, grown_new h.grown hg h.lo, h.lo⟩
  · rw [htk, List.mem_append]
    by_cases e : s = q
    · subst e
      simp [has_put_same h.own.isMap (k := .string s.data.toList) (by simp [WideAt.IsKeyLit]) d]
    · rw [has_put_other (fun hh => e (bytes_ext (by simpa using hh))), h.has s]
      simp only [List.mem_singleton, e, or_false]
  · rw [hsz]
    have := h.le
    split <;> omega
  · rw [hsz, htk, List.nodup_append]
    have h1 := h.le
    have h2 := h.nd
    have h3 := h.has (q)
    split
    · next hh =>
      constructor
      · intro; omega
      · rintro ⟨_, _, h4⟩
        exact absurd rfl (h4 _ (h3.1 hh) _ (by simp))
    · next hh =>
      constructor
      · intro he
        refine ⟨h2.1 (by omega), by simp, fun a ha b hb => ?_⟩
        simp at hb
        subst hb
        exact fun e => hh (h3.2 (e ▸ ha))
      · rintro ⟨h4, _, _⟩
        have := h2.2 h4
        omega

end Go.Proofs.Ytgmljpkenipgjaa

namespace Go.Proofs.Ytgmljpkenipgjaa
open Go.RowKit Go.Maps

end Go.Proofs.Ytgmljpkenipgjaa
