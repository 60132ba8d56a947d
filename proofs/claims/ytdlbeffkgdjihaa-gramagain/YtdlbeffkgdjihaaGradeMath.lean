/-
  Productions that are given another level: what a builder is then.
-/
import Derived.Test.YtdlbeffkgdjihaaLevelWalk
namespace Go.Proofs.Ytdlbeffkgdjihaa
open Go.RowKit

def setLev (ps : List PR) (i : Nat) (l : Int) : List PR := ps.set i { ps.getD i ⟨0, [], 0⟩ with level := l }
def gradeGo (l : Int) : List PR → List Int → Option (List PR)
  | ps, [] => some ps
  | ps, h :: r => if 0 ≤ h ∧ h < ps.length then gradeGo l (setLev ps h.toNat l) r else none
def BS.grade (S : BS) (l : Int) (hs : List Int) : Int × BS :=
  if 0 ≤ l ∧ l ≤ S.sides.length then
    match gradeGo l S.prods hs with
    | some ps => (0, { S with prods := ps })
    | none => (1, S)
  else (1, S)
/-- As it was, but for its level. -/
def Graded (l : Int) (ps ps' : List PR) : Prop := ps'.length = ps.length ∧ ∀ i, i < ps.length → (ps'.getD i ⟨0, [], 0⟩).left = (ps.getD i ⟨0, [], 0⟩).left ∧ (ps'.getD i ⟨0, [], 0⟩).right = (ps.getD i ⟨0, [], 0⟩).right ∧ ((ps'.getD i ⟨0, [], 0⟩).level = (ps.getD i ⟨0, [], 0⟩).level ∨ (ps'.getD i ⟨0, [], 0⟩).level = l)
theorem Graded.refl (l : Int) (ps : List PR) : Graded l ps ps := ⟨rfl, fun _ _ => ⟨rfl, rfl, .inl rfl⟩⟩
theorem Graded.set {l : Int} {ps ps' : List PR} (h : Graded l ps ps') {k : Nat} (hk : k < ps.length) : Graded l ps (setLev ps' k l) := by
  refine ⟨by simp [setLev, h.1], fun i hi => ?_⟩
  obtain ⟨h1, h2, h3⟩ := h.2 i hi
  have hi' : i < ps'.length := by rw [h.1]; exact hi
  by_cases e : i = k
  · subst e
    have : (setLev ps' i l).getD i ⟨0, [], 0⟩ = { ps'.getD i ⟨0, [], 0⟩ with level := l } := by simp [setLev, List.getD, hi']
    rw [this]
    exact ⟨h1, h2, .inr rfl⟩
  · have : (setLev ps' k l).getD i ⟨0, [], 0⟩ = ps'.getD i ⟨0, [], 0⟩ := by simp [setLev, List.getD, show ¬ k = i from fun x => e x.symm]
    rw [this]
    exact ⟨h1, h2, h3⟩
theorem gradeGo_graded {l : Int} {ps0 : List PR} : ∀ (hs : List Int) (ps ps' : List PR), Graded l ps0 ps → gradeGo l ps hs = some ps' → Graded l ps0 ps'
  | [], ps, ps', h, e => by cases e; exact h
  | a :: r, ps, ps', h, e => by
    unfold gradeGo at e
    split at e
    · next hc => exact gradeGo_graded r _ _ (h.set (by rw [← h.1]; omega)) e
    · cases e
theorem gradeGo_app {l : Int} : ∀ (xs ys : List Int) (ps ps' : List PR), gradeGo l ps xs = some ps' → gradeGo l ps (xs ++ ys) = gradeGo l ps' ys
  | [], ys, ps, ps', h => by cases h; rfl
  | x :: xs, ys, ps, ps', h => by
    unfold gradeGo at h
    rw [List.cons_append]
    conv => lhs; unfold gradeGo
    split at h
    · next hc => rw [if_pos hc]; exact gradeGo_app xs ys _ _ h
    · cases h
theorem Graded.mem {l : Int} {ps ps' : List PR} (h : Graded l ps ps') {p : PR} (hp : p ∈ ps') : ∃ q ∈ ps, p.left = q.left ∧ p.right = q.right ∧ (p.level = q.level ∨ p.level = l) := by
  obtain ⟨i, hi, rfl⟩ := List.getElem_of_mem hp
  have hi' : i < ps.length := by rw [← h.1]; exact hi
  have := h.2 i hi'
  rw [show ps'.getD i ⟨0, [], 0⟩ = ps'[i] by simp [List.getD, hi], show ps.getD i ⟨0, [], 0⟩ = ps[i] by simp [List.getD, hi']] at this
  exact ⟨ps[i], List.getElem_mem hi', this⟩
theorem BS.OK.graded {S : BS} (h : S.OK) {l : Int} {ps : List PR} (hl : 0 ≤ l ∧ l ≤ S.sides.length) (hg : Graded l S.prods ps) : ({ S with prods := ps } : BS).OK := by
  refine ⟨h.syms, h.tnames, h.nnames, h.tnd, h.nnd, h.sides, h.sdv, by show ps.length ≤ 96; rw [hg.1]; exact h.prods, h.lev, h.lev0, h.levT, h.has, fun p hp => ?_, fun p hp k hk => ?_, fun p hp => ?_, fun p hp => ?_, h.st⟩
  · obtain ⟨q, hq, e1, _, _⟩ := hg.mem hp
    rw [e1]
    exact h.pl q hq
  · obtain ⟨q, hq, _, e2, _⟩ := hg.mem hp
    rw [e2] at hk
    exact h.pr q hq k hk
  · obtain ⟨q, hq, _, e2, _⟩ := hg.mem hp
    rw [e2]
    exact h.plen q hq
  · obtain ⟨q, hq, _, _, e3⟩ := hg.mem hp
    have := h.pv q hq
    show 0 ≤ p.level ∧ p.level ≤ (S.sides.length : Int)
    rcases e3 with e3 | e3 <;> rw [e3] <;> omega
theorem flat_set (l : Int) : ∀ (ps : List PR) (rs : List Value) (i : Nat), rs.length = ps.length → i < ps.length → ((ps.zip rs).flatMap fun x => prL x.1 x.2).set (i * 3 + 2) (.int .i64 l) = ((setLev ps i l).zip rs).flatMap fun x => prL x.1 x.2
  | [], _, _, _, h => by simp at h
  | p :: ps, [], _, h, _ => by simp at h
  | p :: ps, r :: rs, 0, _, _ => by simp [setLev, prL]
  | p :: ps, r :: rs, i + 1, h1, h2 => by
    have ih := flat_set l ps rs i (by simpa using h1) (by simpa using h2)
    have e : setLev (p :: ps) (i + 1) l = p :: setLev ps i l := by simp [setLev]
    rw [e, List.zip_cons_cons, List.zip_cons_cons, List.flatMap_cons, List.flatMap_cons, ← ih]
    show (prL p r ++ _).set _ _ = _
    rw [List.set_append_right _ _ (by simp [prL]; omega), show (i + 1) * 3 + 2 - (prL p r).length = i * 3 + 2 by simp [prL]; omega]

end Go.Proofs.Ytdlbeffkgdjihaa
