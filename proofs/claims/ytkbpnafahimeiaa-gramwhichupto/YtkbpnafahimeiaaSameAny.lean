/-
  Same and the document's Same of any two grammars, wherever they lie.
-/
import Derived.Test.YtkbpnafahimeiaaRSame
namespace Go.Proofs.Ytkbpnafahimeiaa
open Go.RowKit Go.Maps Go.Shelf

section
variable {w : World} {ta na la pa ta' na' la' pa' : Option Addr} {tc nc lc pc tc' nc' lc' pc' : Nat} {ts ts' : List (ByteArray × Int)} {ns ns' : List ByteArray} {lv lv' : List Int} {n n' : Nat} {L L' : Nat → Int} {R R' : Nat → List Int} {ra ra' : Nat → Option Addr} {rc rc' : Nat → Nat} {V V' : Nat → Int} (st st' : Int)

/-- Are two grammars the same? -/
def sameG (ts ts' : List (ByteArray × Int)) (ns ns' : List ByteArray) (lv lv' : List Int) (st st' : Int) (n n' : Nat) (L L' : Nat → Int) (R R' : Nat → List Int) (V V' : Nat → Int) : Prop := ts = ts' ∧ ns = ns' ∧ lv = lv' ∧ st = st' ∧ prodsSame n n' L R V L' R' V'

theorem same_any (h : GAt w ta na la pa tc nc lc pc ts ns lv n L R ra rc V) (h' : GAt w ta' na' la' pa' tc' nc' lc' pc' ts' ns' lv' n' L' R' ra' rc' V') (r : Bool) (hr : r = true ↔ sameG ts ts' ns ns' lv lv' st st' n n' L L' R R' V V') :
    Calls Try.prog 15 #[.agg #[.slice ta ts.length tc, .slice na ns.length nc, .slice la lv.length lc, .int .i64 st, .slice pa n pc], .agg #[.slice ta' ts'.length tc', .slice na' ns'.length nc', .slice la' lv'.length lc', .int .i64 st', .slice pa' n' pc']] w fun e w' => e = .returned (.bool r) ∧ w.grownBy w' none := by
  obtain ⟨rT, hT⟩ := boolOf (ts = ts')
  obtain ⟨rN, hN⟩ := boolOf (ns = ns')
  obtain ⟨rL, hL⟩ := boolOf (lv = lv')
  obtain ⟨rP, hP⟩ := boolOf (prodsSame n n' L R V L' R' V')
  have := same_core ta na la pa ta' na' la' pa' ts.length ns.length lv.length n tc nc lc pc ts'.length ns'.length lv'.length n' tc' nc' lc' pc' st st' w rT rN rL rP
    (fun W hg => (equalTerm_any ta ta' tc tc' ts ts' W (h.terms.kept hg) (h'.terms.kept hg) h.tlen rT hT).mono fun e w' k => ⟨k.1, by obtain ⟨q, hq⟩ := k.2; rw [hq]; exact grown_drewN _ _⟩)
    (fun W hg => (equalStr_any na na' nc nc' ns ns' W (h.nons.kept hg) (h'.nons.kept hg) h.nlen rN hN).mono fun e w' k => ⟨k.1, by obtain ⟨q, hq⟩ := k.2; rw [hq]; exact grown_drewN _ _⟩)
    (fun W hg => (equalInt_any la la' lc lc' lv lv' W (h.levels.kept hg) (h'.levels.kept hg) h.llen rL hL).mono fun e w' k => ⟨k.1, by obtain ⟨q, hq⟩ := k.2; rw [hq]; exact grown_drewN _ _⟩)
    (fun W hg => equalFunc_any pa pa' n n' pc pc' L L' V V' R R' ra ra' rc rc' W (h.kept hg).prods (h'.kept hg).prods h.plen rP hP)
  have e : (rT && rN && rL && (st == st') && rP) = r := by
    rw [Bool.eq_iff_iff, hr]
    simp only [Bool.and_eq_true, hT, hN, hL, hP, beq_iff_eq, sameG, and_assoc]
  rwa [e] at this

theorem rsame_any (h : GAt w ta na la pa tc nc lc pc ts ns lv n L R ra rc V) (h' : GAt w ta' na' la' pa' tc' nc' lc' pc' ts' ns' lv' n' L' R' ra' rc' V') (r : Bool) (hr : r = true ↔ sameG ts ts' ns ns' lv lv' st st' n n' L L' R R' V V') :
    Calls Try.prog 14 #[.agg #[.slice ta ts.length tc, .slice na ns.length nc, .slice la lv.length lc, .int .i64 st, .slice pa n pc], .agg #[.slice ta' ts'.length tc', .slice na' ns'.length nc', .slice la' lv'.length lc', .int .i64 st', .slice pa' n' pc']] w fun e w' => e = .returned (.bool r) ∧ w.grownBy w' none := by
  obtain ⟨rL, hL⟩ := boolOf (lv = lv')
  have kL : ∀ W, w.grownBy W none → Calls Try.prog 36 #[.slice la lv.length lc, .slice la' lv'.length lc'] W fun e w' => e = .returned (.bool rL) ∧ W.grownBy w' none := fun W hg => (sameInts_any la la' lc lc' lv lv' W (h.levels.kept hg) (h'.levels.kept hg) h.llen rL hL).mono fun e w' k => ⟨k.1, by obtain ⟨q, hq⟩ := k.2; rw [hq]; exact grown_drewN _ _⟩
  by_cases hs : rL = true ∧ st = st' ∧ ts.length = ts'.length ∧ ns.length = ns'.length ∧ n = n'
  · obtain ⟨rfl, rfl, h1, h2, rfl⟩ := hs
    have := rsame_long ta na la pa ta' na' la' pa' ts.length ns.length lv.length n tc nc lc pc lv'.length tc' nc' lc' pc' st w ts ts' ns ns' L L' V V' R R' ra ra' rc rc' ⟨rfl, h1.symm, rfl, h2.symm⟩ h.terms h'.terms h.nons h'.nons h.prods h'.prods h.tlen h.nlen h.plen r
      (by rw [hr]; have := hL.1 rfl; simp [sameG, this]) kL
    rwa [← h1, ← h2]
  · have hf : r = false := Bool.eq_false_iff.2 fun hh => hs (by
      obtain ⟨h1, h2, h3, h4, h5, _⟩ := hr.1 hh
      exact ⟨hL.2 h3, h4, by rw [h1], by rw [h2], h5⟩)
    rw [hf]
    exact rsame_short ta na la pa ta' na' la' pa' ts.length ns.length lv.length n tc nc lc pc ts'.length ns'.length lv'.length n' tc' nc' lc' pc' st st' w rL hs kL

end

end Go.Proofs.Ytkbpnafahimeiaa
