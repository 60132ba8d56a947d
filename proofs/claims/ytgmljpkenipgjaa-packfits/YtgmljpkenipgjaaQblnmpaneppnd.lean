/-
  Rule of a builder, walked.
-/
import Derived.Test.YtgmljpkenipgjaaQfgjaffehooda
import Derived.Laws.AppendOwnNone
import Derived.Deep.AppendLies
namespace Go.Proofs.Ytgmljpkenipgjaa
open Go.RowKit Go.Maps

/-- A slice of numbers, wherever it lies. -/
def IntsAt (w : World) (a : Option Addr) (l : List Int) : Prop := l = [] ∨ ∃ b off, a = some ⟨b, off, none⟩ ∧ ∀ i, i < l.length → w.cell? ⟨b, off + i, none⟩ = some (.int .i64 (l.getD i 0))

theorem IntsAt.kept {w w' : World} {a : Option Addr} {l : List Int} (h : IntsAt w a l) (hg : w.grownBy w' none) : IntsAt w' a l := by
  rcases h with h | ⟨b, off, ha, hc⟩
  · exact .inl h
  · exact .inr ⟨b, off, ha, fun i hi => hg.cell (hc i hi) (by simp)⟩
theorem IntsIn.at {w : World} {v : Value} {l : List Int} (h : IntsIn w v l) : ∃ a cap, v = .slice a l.length cap ∧ IntsAt w a l ∧ l.length ≤ cap ∧ (a = none → l.length = 0 ∧ cap = 0) := by
  have h' := h
  rcases h.2 with ⟨rfl, hn⟩ | ⟨g, cap, cur, rfl, _, hg, hle, _⟩
  · have : l = [] := List.eq_nil_of_length_eq_zero hn
    subst this
    exact ⟨none, 0, rfl, .inl rfl, Nat.le_refl _, fun _ => ⟨rfl, rfl⟩⟩
  · refine ⟨_, cap, rfl, .inr ⟨g, 0, rfl, fun i hi => ?_⟩, hle, fun h => by cases h⟩
    have := World.ownsRow.cells h' (g := g) rfl i (.int .i64 (l.getD i 0)) (by simp [List.getD, hi])
    rw [Addr.add_mid] at this
    exact this

theorem owns_slice {w : World} {base e size n : Nat} {v : Value} {xs : List Value} (h : w.ownsRow base e size v n xs) : ∃ a cap, v = .slice a n cap := by
  rcases h.2 with ⟨rfl, rfl⟩ | ⟨g, cap, _, rfl, _⟩
  · exact ⟨_, _, rfl⟩
  · exact ⟨_, _, rfl⟩

/-- A production's level: its last terminal's. -/
def BS.levOf (S : BS) (l : List Int) : Int := l.foldl (fun z h => if S.isT h then S.lev h.toNat else z) 0
def BS.good (S : BS) (l : List Int) : Bool := l.all (fun h => S.isT h || S.isN h)
def BS.addP (S : BS) (p : PR) : BS := { S with prods := S.prods ++ [p] }
def BS.rule (S : BS) (left : Int) (right : List Int) : Int × Int × BS :=
  if S.isN left = true ∧ S.good right = true then (if 96 ≤ S.prods.length then (0, 11, S) else (S.prods.length, 0, S.addP ⟨left, right, S.levOf right⟩)) else (0, 1, S)

end Go.Proofs.Ytgmljpkenipgjaa

namespace Go.Proofs.Ytgmljpkenipgjaa
open Go.RowKit Go.Maps

theorem levOf_ok {S : BS} (h : S.OK) (l : List Int) : 0 ≤ S.levOf l ∧ S.levOf l ≤ S.sides.length := by
  unfold BS.levOf
  have : ∀ (l : List Int) (z : Int), (0 ≤ z ∧ z ≤ S.sides.length) → (0 ≤ l.foldl (fun z h => if S.isT h then S.lev h.toNat else z) z ∧ l.foldl (fun z h => if S.isT h then S.lev h.toNat else z) z ≤ S.sides.length) := by
    intro l
    induction l with
    | nil => intro z hz; exact hz
    | cons x l ih =>
      intro z hz
      rw [List.foldl_cons]
      refine ih _ ?_
      split
      · exact h.lev _
      · exact hz
  exact this l 0 ⟨Int.le_refl _, by omega⟩

theorem BS.OK.addP {S : BS} (h : S.OK) {left : Int} {right : List Int} (hp : S.prods.length < 96) (hn : S.isN left = true) (hg : S.good right = true) (hlen : right.length ≤ 17592186044416) : (S.addP ⟨left, right, S.levOf right⟩).OK := by
  have hn' : left < 0 ∧ -(S.nons.length : Int) ≤ left := by simpa [BS.isN] using hn
  have mem : ∀ p ∈ (S.addP ⟨left, right, S.levOf right⟩).prods, p ∈ S.prods ∨ p = ⟨left, right, S.levOf right⟩ := fun p hp => by
    rcases List.mem_append.1 hp with hp | hp
    · exact .inl hp
    · simp at hp; exact .inr hp
  refine ⟨h.syms, h.tnames, h.nnames, h.tnd, h.nnd, h.sides, h.sdv, by simp [BS.addP]; omega, h.lev, h.lev0, h.levT, h.has, fun p hp => ?_, fun p hp k hk => ?_, fun p hp => ?_, fun p hp => ?_, h.st⟩
  · rcases mem p hp with hp | rfl
    · exact h.pl p hp
    · exact ⟨hn'.2, hn'.1⟩
  · rcases mem p hp with hp | rfl
    · exact h.pr p hp k hk
    · have := List.all_eq_true.1 hg k hk
      simp only [BS.isT, BS.isN, Bool.or_eq_true, Bool.and_eq_true, decide_eq_true_eq] at this
      exact this
  · rcases mem p hp with hp | rfl
    · exact h.plen p hp
    · exact hlen
  · rcases mem p hp with hp | rfl
    · exact h.pv p hp
    · exact levOf_ok h right

end Go.Proofs.Ytgmljpkenipgjaa
