/-
  numbered of a builder: its productions, with symbols in the place of handles.
-/
import Derived.Test.YtdlbeffkgdjihaaCopiedWalk
import Derived.Deep.LoopGhost
namespace Go.Proofs.Ytdlbeffkgdjihaa
open Go.RowKit Go.Maps Go.Shelf

def updR (R : Nat → List Int) (k : Nat) (l : List Int) : Nat → List Int := fun i => if i = k then l else R i
/-- A handle's symbol, by the symbols' row. -/
def sg (σ : Nat → Int) (h : Int) : Int := if h < 0 then σ (-h).toNat else h
def mapTo (σ : Nat → Int) (j : Nat) (l : List Int) : List Int := (l.take j).map (sg σ) ++ l.drop j

theorem mapTo_length (σ : Nat → Int) (j : Nat) (l : List Int) : (mapTo σ j l).length = l.length := by simp [mapTo]; omega
theorem mapTo_zero (σ : Nat → Int) (l : List Int) : mapTo σ 0 l = l := by simp [mapTo]
theorem mapTo_all (σ : Nat → Int) (l : List Int) : mapTo σ l.length l = l.map (sg σ) := by simp [mapTo]
theorem mapTo_at (σ : Nat → Int) (j : Nat) (l : List Int) (hj : j < l.length) : (mapTo σ j l)[j]? = some (l.getD j 0) := by
  unfold mapTo
  rw [List.getElem?_append_right (by simp; omega)]
  simp [List.getD, hj, Nat.min_eq_left (Nat.le_of_lt hj)]
theorem mapTo_succ (σ : Nat → Int) (j : Nat) (l : List Int) (hj : j < l.length) : mapTo σ (j + 1) l = (mapTo σ j l).set j (sg σ (l.getD j 0)) := by
  unfold mapTo
  have hl : ((l.take j).map (sg σ)).length = j := by simp; omega
  rw [List.set_append_right _ _ (by omega), hl, Nat.sub_self]
  rw [List.drop_eq_getElem_cons hj, List.set_cons_zero, List.take_succ_eq_append_getElem hj, List.map_append]
  simp [List.getD, hj]

theorem NewProds.congr {w wr : World} {B n : Nat} {v : Value} {L L' : Nat → Int} {R R' : Nat → List Int} {V : Nat → Int} {rg : Nat → Value} (h : NewProds w wr B v n n L R V rg) (h1 : ∀ i, i < n → L i = L' i) (h2 : ∀ i, i < n → R i = R' i) : NewProds w wr B v n n L' R' V rg :=
  ⟨by rw [← prodRow_ext h1 (fun _ _ => rfl) (fun _ _ => rfl)]; exact h.row, fun i hi => by rw [← h2 i hi]; exact h.rights i hi, h.apart, h.disj, h.lo, h.grown⟩

theorem NewProds.setLeft {w wr : World} {B g n c k : Nat} {L : Nat → Int} {R : Nat → List Int} {V : Nat → Int} {rg : Nat → Value} (h : NewProds w wr B (.slice (some ⟨g, 0, none⟩) n c) n n L R V rg) (hk : k < n) (x : Int) :
    NewProds w (wr.setCell ⟨g, k * 3, none⟩ (.int .i64 x)) B (.slice (some ⟨g, 0, none⟩) n c) n n (updI L k x) R V rg := by
  have hst := grown_setCell (w := wr) g (k * 3) (.int .i64 x)
  have hgB := h.row.lt g rfl
  refine ⟨by rw [← prodRow_setL L rg V k x n hk]; exact owns_set h.row _, fun i hi => (h.rights i hi).kept hst ?_, h.apart, h.disj, h.lo, grown_new h.grown hst (Nat.le_trans h.lo hgB.1)⟩
  cases hx : (rg i).ownBlock with
  | none => exact .inl rfl
  | some y => have := h.apart i hi y hx; simp [Value.ownBlock] at this; exact .inr (by simp; omega)

theorem NewProds.setRight {w wr : World} {B g n c k j gk ck : Nat} {L : Nat → Int} {R : Nat → List Int} {V : Nat → Int} {rg : Nat → Value} (h : NewProds w wr B (.slice (some ⟨g, 0, none⟩) n c) n n L R V rg) (hk : k < n) (hr : rg k = .slice (some ⟨gk, 0, none⟩) (R k).length ck) (x : Int) :
    NewProds w (wr.setCell ⟨gk, j, none⟩ (.int .i64 x)) B (.slice (some ⟨g, 0, none⟩) n c) n n L (updR R k ((R k).set j x)) V rg := by
  have hst := grown_setCell (w := wr) gk j (.int .i64 x)
  have hkr := h.rights k hk
  have hkb : (rg k).ownBlock = some gk := by rw [hr]; rfl
  have hgB := hkr.lt gk hkb
  refine ⟨h.row.kept hst ?_, fun i hi => ?_, h.apart, h.disj, h.lo, grown_new h.grown hst (Nat.le_trans h.lo hgB.1)⟩
  · exact .inr (h.apart k hk gk hkb)
  · by_cases e : i = k
    · subst e
      have e1 : updR R i ((R i).set j x) i = (R i).set j x := by simp [updR]
      rw [e1, List.length_set, List.map_set]
      rw [hr] at hkr ⊢
      exact owns_set hkr _
    · have e1 : updR R k ((R k).set j x) i = R i := by simp [updR, e]
      rw [e1]
      refine (h.rights i hi).kept hst ?_
      cases hx : (rg i).ownBlock with
      | none => exact .inl rfl
      | some y =>
        right
        intro hh
        have hy : y = gk := by simpa using hh
        subst hy
        by_cases hlt : i < k
        · exact h.disj i k hlt hk y hx hkb
        · exact h.disj k i (by omega) hi y hkb hx

/-- The stage at production k, j of its right side's symbols laid. -/
def LS (σ : Nat → Int) (L : Nat → Int) (k : Nat) : Nat → Int := fun i => if i < k then sg σ (L i) else L i
def RS (σ : Nat → Int) (R : Nat → List Int) (k j : Nat) : Nat → List Int := fun i => if i < k then (R i).map (sg σ) else if i = k then mapTo σ j (R i) else R i

theorem LS_succ (σ : Nat → Int) (L : Nat → Int) (k i : Nat) : updI (LS σ L k) k (sg σ (L k)) i = LS σ L (k + 1) i := by
  unfold updI LS
  by_cases h : i = k
  · subst h; simp
  · by_cases h2 : i < k
    · simp [h, h2, show i < k + 1 by omega]
    · simp [h, h2, show ¬ i < k + 1 by omega]
theorem RS_len (σ : Nat → Int) (R : Nat → List Int) (k j i : Nat) : (RS σ R k j i).length = (R i).length := by
  unfold RS
  split
  · simp
  · split
    · exact mapTo_length _ _ _
    · rfl
theorem RS_step (σ : Nat → Int) (R : Nat → List Int) (k j : Nat) (hj : j < (R k).length) (i : Nat) : updR (RS σ R k j) k ((RS σ R k j k).set j (sg σ ((R k).getD j 0))) i = RS σ R k (j + 1) i := by
  unfold updR
  by_cases h : i = k
  · subst h
    simp [RS, mapTo_succ σ j (R i) hj]
  · simp [RS, h]
theorem RS_pos (σ : Nat → Int) (R : Nat → List Int) (k j : Nat) (hj : j < (R k).length) (h0 : ¬ (R k).getD j 0 < 0) (i : Nat) : RS σ R k j i = RS σ R k (j + 1) i := by
  unfold RS
  split
  · rfl
  · split
    · next h => 
      subst h
      rw [mapTo_succ σ j (R i) hj]
      apply List.ext_getElem?
      intro x
      rw [List.getElem?_set]
      split
      · next e =>
        subst e
        rw [if_pos (by rw [mapTo_length]; exact hj), mapTo_at σ j (R i) hj]
        unfold sg
        rw [if_neg h0]
      · rfl
    · rfl
theorem RS_end (σ : Nat → Int) (R : Nat → List Int) (k i : Nat) : RS σ R k (R k).length i = RS σ R (k + 1) 0 i := by
  unfold RS
  by_cases h : i < k
  · simp [h, show i < k + 1 by omega]
  · by_cases h2 : i = k
    · subst h2; simp [mapTo_all]
    · by_cases h3 : i = k + 1
      · subst h3; simp [mapTo_zero, show ¬ k + 1 < k by omega]
      · simp [h, h2, show ¬ i < k + 1 by omega, h3]
theorem RS_start (σ : Nat → Int) (R : Nat → List Int) (i : Nat) : RS σ R 0 0 i = R i := by
  unfold RS
  split
  · omega
  · split
    · exact mapTo_zero _ _
    · rfl

end Go.Proofs.Ytdlbeffkgdjihaa
