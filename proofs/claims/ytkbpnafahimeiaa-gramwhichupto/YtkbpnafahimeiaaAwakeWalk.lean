/-
  awake, walked.
-/
import Derived.Test.YtkbpnafahimeiaaGat
namespace Go.Proofs.Ytkbpnafahimeiaa
open Go.RowKit Go.Maps Go.Shelf

def SA : BS := (BS.zero.term ⟨#[43]⟩).2.2
def SB : BS := (SA.non ⟨#[101]⟩).2.2
def SC : BS := (SB.rule (-1) [-1, 1]).2.2
theorem sa_ans : (BS.zero.term ⟨#[43]⟩).1 = 1 ∧ (BS.zero.term ⟨#[43]⟩).2.1 = 0 := ⟨rfl, rfl⟩
theorem sb_ans : (SA.non ⟨#[101]⟩).1 = -1 ∧ (SA.non ⟨#[101]⟩).2.1 = 0 := ⟨rfl, rfl⟩
theorem sc_ans : (SB.rule (-1) [-1, 1]).1 = 0 ∧ (SB.rule (-1) [-1, 1]).2.1 = 0 := ⟨rfl, rfl⟩
theorem sc_terms : SC.gram.terms = [(⟨#[]⟩, 0), (⟨#[43]⟩, 0)] := rfl
theorem sc_nons : SC.gram.nons = [⟨#[101]⟩] := rfl
theorem sc_levels : SC.gram.levels = [] := rfl
theorem sc_start : SC.gram.start = 2 := rfl
theorem sc_prods : SC.gram.prods = [⟨2, [2, 1], 0⟩] := rfl
theorem sc_tells : 0 < SC.prods.length ∧ SC.nons.length ≤ (ordOf SC.prods).length := ⟨by decide, by decide⟩

theorem sc_valid : validOK [(⟨#[]⟩, 0), (⟨#[43]⟩, 0)] [⟨#[101]⟩] [] 2 1 (fun i => (SC.gram.prods.getD i ⟨0, [], 0⟩).left) (fun i => (SC.gram.prods.getD i ⟨0, [], 0⟩).right) (fun i => (SC.gram.prods.getD i ⟨0, [], 0⟩).level) := by
  refine ⟨⟨by decide, by decide, ⟨[(⟨#[43]⟩, 0)], rfl, fun t ht => ?_, by simp⟩, ⟨fun s hs => ?_, by simp⟩, fun j hj => by simp at hj, fun i hi => ?_, by decide, ⟨by decide, by decide⟩⟩, fun i hi => ?_⟩
  · simp at ht
    subst ht
    exact ⟨by decide, by decide, by decide⟩
  · simp at hs
    subst hs
    decide
  · obtain rfl : i = 0 := by omega
    refine ⟨⟨by decide, by decide⟩, ⟨by decide, by decide⟩, fun x hx => ?_⟩
    have hx' : x = 2 ∨ x = 1 := by
      have : x ∈ [(2 : Int), 1] := hx
      simpa using this
    rcases hx' with rfl | rfl
    · exact .inr ⟨by decide, by decide⟩
    · exact .inl ⟨by decide, by decide⟩
  · have : (leftsTo (fun i => (SC.gram.prods.getD i ⟨0, [], 0⟩).left) 1).length = 1 := by decide
    omega

end Go.Proofs.Ytkbpnafahimeiaa

namespace Go.Proofs.Ytkbpnafahimeiaa
open Go.RowKit Go.Maps Go.Shelf

attribute [local go_sem] Oper.semAt_some

set_option maxRecDepth 100000 in
set_option maxHeartbeats 1000000 in
theorem awake_any (w : World) : Calls Try.prog 6 #[] w fun e w' => e = .returned (.bool true) ∧ w.grownBy w' none := by
  have HT : Hid (∀ W b, BAt W b BS.zero → Calls Try.prog 21 #[.pointer (some ⟨b, 0, none⟩), .string { data := #[43] }] W fun e w' => e = .returned (.tuple #[.int .i64 1, .int .i64 0]) ∧ BAt w' b SA ∧ W.grownBy w' (some b)) := fun W b h => by
    have := term_any b BS.zero { data := #[43] } W h
    rw [sa_ans.1, sa_ans.2] at this
    exact this
  have HN : Hid (∀ W b, BAt W b SA → Calls Try.prog 22 #[.pointer (some ⟨b, 0, none⟩), .string { data := #[101] }] W fun e w' => e = .returned (.tuple #[.int .i64 (-1), .int .i64 0]) ∧ BAt w' b SB ∧ W.grownBy w' (some b)) := fun W b h => by
    have := non_any b SA { data := #[101] } W h
    rw [sb_ans.1, sb_ans.2] at this
    exact this
  have HRU : Hid (∀ W b g, BAt W b SB → W.cell? ⟨g, 0, none⟩ = some (.int .i64 (-1)) → W.cell? ⟨g, 1, none⟩ = some (.int .i64 1) → Calls Try.prog 23 #[.pointer (some ⟨b, 0, none⟩), .int .i64 (-1), .slice (some ⟨g, 0, none⟩) 2 2] W fun e w' => e = .returned (.tuple #[.int .i64 0, .int .i64 0]) ∧ BAt w' b SC ∧ W.grownBy w' (some b)) := fun W b g h c0 c1 => by
    have := rule_any b SB (-1) (some ⟨g, 0, none⟩) 2 [-1, 1] W h (.inr ⟨g, 0, rfl, fun i hi => by
      match i, hi with
      | 0, _ => exact c0
      | 1, _ => exact c1⟩) (fun h => by cases h) (by decide)
    rw [sc_ans.1, sc_ans.2] at this
    exact this
  have HGR : Hid (∀ W b, BAt W b SC → Calls Try.prog 20 #[.pointer (some ⟨b, 0, none⟩)] W fun e w' => ∃ ta na la pa tc nc lc pc, e = .returned (.tuple #[.agg #[.slice ta 2 tc, .slice (some na) 1 nc, .slice la 0 lc, .int .i64 2, .slice pa 1 pc], .int .i64 0]) ∧ W.grownBy w' none ∧
      (∃ b off, na = ⟨b, off, none⟩ ∧ ∀ X, w'.grownBy X none → X.cell? ⟨b, off, none⟩ = some (.string { data := #[101] })) ∧
      ∀ X, w'.grownBy X none → Calls Try.prog 11 #[.agg #[.slice ta 2 tc, .slice (some na) 1 nc, .slice la 0 lc, .int .i64 2, .slice pa 1 pc]] X fun e w' => e = .returned (.bool true) ∧ X.grownBy w' none) := fun W b h => by
    refine (grammar_told b SC W h sc_tells.1 sc_tells.2).mono ?_
    rintro e w' ⟨vt, vn, vl, vp, rfl, hg, hgr⟩
    obtain ⟨ta, tc, rfl⟩ := owns_slice hg.terms
    obtain ⟨na, nc, rfl⟩ := owns_slice hg.nons
    obtain ⟨la, lc, rfl⟩ := owns_slice hg.levels
    obtain ⟨pa, pc, rfl⟩ : ∃ pa pc, vp = .slice pa SC.gram.prods.length pc := by obtain ⟨rg, h1, _⟩ := hg.prods; exact owns_slice h1
    obtain ⟨ra, rc, hG⟩ := hg.gat (by decide) (by decide) (by decide) (by decide) (fun i hi => by
      have : i = 0 := by have h2 : SC.gram.prods.length = 1 := rfl; omega
      subst this; decide)
    have hst : ∃ b off, na = some ⟨b, off, none⟩ ∧ ∀ i, i < SC.gram.nons.length → w'.cell? ⟨b, off + i, none⟩ = some (.string (SC.gram.nons.getD i ⟨#[]⟩)) := by
      rcases hG.nons with h0 | h0
      · cases h0
      · exact h0
    obtain ⟨bn, off, rfl, hcn⟩ := hst
    refine ⟨ta, ⟨bn, off, none⟩, la, pa, tc, nc, lc, pc, rfl, hgr, ⟨bn, off, rfl, fun X hX => hX.cell (hcn 0 (by decide)) (by simp)⟩, fun X hX => ?_⟩
    exact valid_any ta (some ⟨bn, off, none⟩) la pa tc nc lc pc SC.gram.terms SC.gram.nons SC.gram.levels SC.gram.prods.length _ _ ra rc _ 2 X (hG.kept hX) true ⟨fun _ => sc_valid, fun _ => rfl⟩
  go_enter Try.func6, Try.ntmps6
  go_wp2_with fail
  refine (new_any w).mono ?_
  rintro e w1 ⟨rfl, hB1, hg1⟩
  go_wp2_with fail
  refine (HT.out _ _ hB1).mono ?_
  rintro e w2 ⟨rfl, hB2, hg2⟩
  go_wp2_with fail
  refine (HN.out _ _ hB2).mono ?_
  rintro e w3 ⟨rfl, hB3, hg3⟩
  have HG3 : Hid (w.grownBy w3 none) := grown_new (grown_new hg1 hg2 (Nat.le_refl _)) hg3 (Nat.le_refl _)
  have HB3 : Hid (BAt w3 w.heap.size SB) := hB3
  clear hB1 hB2 hB3 hg1 hg2 hg3 HT HN
  go_wp2_with fail
  refine (HRU.out _ _ w3.heap.size (HB3.out.kept (World.grownBy_alloc _ _ none)) (by rw [cell_of_row _ _ _ _ _ _ (heap_alloc_last w3 _)]; rfl) (by rw [cell_of_row _ _ _ _ _ _ (heap_alloc_last w3 _)]; rfl)).mono ?_
  rintro e w4 ⟨rfl, hB4, hg4⟩
  have HG4 : Hid (w.grownBy w4 none) := grown_new (grown_trans HG3.out (World.grownBy_alloc _ _ none)) hg4 (Nat.le_refl _)
  have HB4 : Hid (BAt w4 w.heap.size SC) := hB4
  clear hB4 hg4 HB3 HG3 HRU
  go_wp2_with fail
  refine (HGR.out _ _ HB4.out).mono ?_
  rintro e w5 ⟨ta, na, la, pa, tc, nc, lc, pc, rfl, hg5, ⟨bn, off, rfl, hcn⟩, hV⟩
  have HG5 : Hid (w.grownBy w5 none) := grown_trans HG4.out hg5
  have HV : Hid (∀ X, w5.grownBy X none → Calls Try.prog 11 #[.agg #[.slice ta 2 tc, .slice (some ⟨bn, off, none⟩) 1 nc, .slice la 0 lc, .int .i64 2, .slice pa 1 pc]] X fun e w' => e = .returned (.bool true) ∧ X.grownBy w' none) := hV
  have HCN : Hid (∀ X, w5.grownBy X none → X.cell? ⟨bn, off, none⟩ = some (.string { data := #[101] })) := hcn
  have HX : Hid (PhAt w5 (w5.alloc (.cells #[.slice ta 2 tc, .slice (some ⟨bn, off, none⟩) 1 nc, .slice la 0 lc, .int .i64 2, .slice pa 1 pc] 42)) w5.heap.size #[.slice ta 2 tc, .slice (some ⟨bn, off, none⟩) 1 nc, .slice la 0 lc, .int .i64 2, .slice pa 1 pc]) := ⟨World.grownBy_alloc _ _ none, heap_alloc_last w5 _⟩
  clear hg5 hcn hV HB4 HG4 HGR
  go_wp2_with fail
  refine (HV.out _ HX.out.grown).mono ?_
  rintro e w6 ⟨rfl, hg6⟩
  have HX6 : Hid (PhAt w5 w6 w5.heap.size #[.slice ta 2 tc, .slice (some ⟨bn, off, none⟩) 1 nc, .slice la 0 lc, .int .i64 2, .slice pa 1 pc]) := HX.out.kept hg6
  obtain ⟨m0, m1, m2, m3, m4⟩ := HX6.out.cells
  clear hg6 HX HV
  go_wp2_with fail
  refine (closed_no bn off ta la pa 2 1 0 1 tc nc lc pc 2 { data := #[101] } w6 (HCN.out w6 HX6.out.grown) (by decide) (by decide)).mono ?_
  rintro e w7 ⟨rfl, hg7⟩
  have HG7 : Hid (w.grownBy w7 none) := grown_trans HG5.out (grown_trans HX6.out.grown hg7)
  clear hg7 HX6 m0 m1 m2 m3 m4
  go_wp2_with fail
  go_ret
  exact ⟨rfl, HG7.out⟩

end Go.Proofs.Ytkbpnafahimeiaa
