/-
  The statements' own look that the program is awake.
-/
import Derived.Test.YtdlbeffkgdjihaaGat
namespace Go.Proofs.Ytdlbeffkgdjihaa
open Go.RowKit Go.Maps Go.Shelf

def SA : BS := (BS.zero.term ⟨#[43]⟩).2.2
def SB : BS := (SA.non ⟨#[101]⟩).2.2
def SC : BS := (SB.rule (-1) [-1, 1]).2.2
theorem sa_ans : (BS.zero.term ⟨#[43]⟩).1 = 1 ∧ (BS.zero.term ⟨#[43]⟩).2.1 = 0 := ⟨rfl, rfl⟩
theorem sb_ans : (SA.non ⟨#[101]⟩).1 = -1 ∧ (SA.non ⟨#[101]⟩).2.1 = 0 := ⟨rfl, rfl⟩
theorem sc_ans : (SB.rule (-1) [-1, 1]).1 = 0 ∧ (SB.rule (-1) [-1, 1]).2.1 = 0 := ⟨rfl, rfl⟩
theorem sc_terms : SC.gram.terms = [(⟨#[]⟩, 0), (⟨#[43]⟩, 0)] := rfl
theorem sc_nons : SC.gram.nons = [⟨#[101]⟩] := rfl
theorem sc_levels : SC.gram.levels = [] := rfl
theorem sc_start : SC.gram.start = 2 := rfl
theorem sc_prods : SC.gram.prods = [⟨2, [2, 1], 0⟩] := rfl
theorem sc_tells : 0 < SC.prods.length ∧ SC.nons.length ≤ (ordOf SC.prods).length := ⟨by decide, by decide⟩

theorem sc_valid : validOK [(⟨#[]⟩, 0), (⟨#[43]⟩, 0)] [⟨#[101]⟩] [] 2 1 (fun i => (SC.gram.prods.getD i ⟨0, [], 0⟩).left) (fun i => (SC.gram.prods.getD i ⟨0, [], 0⟩).right) (fun i => (SC.gram.prods.getD i ⟨0, [], 0⟩).level) := by
  refine ⟨⟨by decide, by decide, ⟨[(⟨#[43]⟩, 0)], rfl, fun t ht => ?_, by simp⟩, ⟨fun s hs => ?_, by simp⟩, fun j hj => by simp at hj, fun i hi => ?_, by decide, ⟨by decide, by decide⟩⟩, fun i hi => ?_⟩
  · simp at ht
    subst ht
    exact ⟨by decide, by decide, by decide⟩
  · simp at hs
    subst hs
    decide
  · obtain rfl : i = 0 := by omega
    refine ⟨⟨by decide, by decide⟩, ⟨by decide, by decide⟩, fun x hx => ?_⟩
    have hx' : x = 2 ∨ x = 1 := by
      have : x ∈ [(2 : Int), 1] := hx
      simpa using this
    rcases hx' with rfl | rfl
    · exact .inr ⟨by decide, by decide⟩
    · exact .inl ⟨by decide, by decide⟩
  · have : (leftsTo (fun i => (SC.gram.prods.getD i ⟨0, [], 0⟩).left) 1).length = 1 := by decide
    omega

end Go.Proofs.Ytdlbeffkgdjihaa
