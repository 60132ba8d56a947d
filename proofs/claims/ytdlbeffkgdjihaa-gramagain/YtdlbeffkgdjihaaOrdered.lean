/-
  ordered of a builder: the nonterminals that have a production, in the order of their first ones; the symbol of each.
-/
import Derived.Test.YtdlbeffkgdjihaaTerms
import Derived.Laws.CopyOwn
namespace Go.Proofs.Ytdlbeffkgdjihaa
open Go.RowKit Go.Maps Go.Shelf

attribute [local go_sem] Oper.semAt_some

/-! ### Productions in memory, one by one -/
theorem flat_at : ∀ (ps : List PR) (rs : List Value) (k : Nat), rs.length = ps.length → k < ps.length → ∀ i, i < 3 → ((ps.zip rs).flatMap fun x => prL x.1 x.2)[k * 3 + i]? = (prL (ps.getD k ⟨0, [], 0⟩) (rs.getD k undef))[i]?
  | [], _, k, _, hk, _, _ => by simp at hk
  | p :: ps, [], k, h, _, _, _ => by simp at h
  | p :: ps, r :: rs, 0, h, _, i, hi => by
    simp only [List.zip_cons_cons, List.flatMap_cons, Nat.zero_mul, Nat.zero_add]
    rw [List.getElem?_append_left (by simp [prL]; omega)]
    rfl
  | p :: ps, r :: rs, k + 1, h, hk, i, hi => by
    simp only [List.zip_cons_cons, List.flatMap_cons]
    rw [List.getElem?_append_right (by simp [prL]; omega)]
    have e : (k + 1) * 3 + i - (prL p r).length = k * 3 + i := by simp [prL]; omega
    rw [e, flat_at ps rs k (by simpa using h) (by simpa using hk) i hi]
    rfl

/-- The productions of a slice lie where it leads to. -/
structure ProdAt (w : World) (g k : Nat) (p : PR) (a : Option Addr) (c : Nat) : Prop where
  left : w.cell? ⟨g, k * 3, none⟩ = some (.int .i64 p.left)
  right : w.cell? ⟨g, k * 3 + 1, none⟩ = some (.slice a p.right.length c)
  level : w.cell? ⟨g, k * 3 + 2, none⟩ = some (.int .i64 p.level)
  ints : IntsIn w (.slice a p.right.length c) p.right

theorem ProdsIn.at {w : World} {v : Value} {ps : List PR} (h : ProdsIn w v ps) (hl : 0 < ps.length) : ∃ g cap, v = .slice (some ⟨g, 0, none⟩) ps.length cap ∧ ∀ k, k < ps.length → ∃ a c, ProdAt w g k (ps.getD k ⟨0, [], 0⟩) a c := by
  obtain ⟨rs, h1, h2, h3⟩ := h
  have h2' := h2
  rcases h2.2 with ⟨rfl, hn⟩ | ⟨g, cap, cur, rfl, _, hg, hle, _⟩
  · omega
  · refine ⟨g, cap, rfl, fun k hk => ?_⟩
    have hI := h3 k hk
    obtain ⟨a, c, hv, _⟩ := hI.at
    have cell : ∀ i, i < 3 → ∀ u, (prL (ps.getD k ⟨0, [], 0⟩) (rs.getD k undef))[i]? = some u → w.cell? ⟨g, k * 3 + i, none⟩ = some u := fun i hi u hu => by
      have := World.ownsRow.cells h2' (g := g) rfl (k * 3 + i) u (by rw [flat_at ps rs k h1 hk i hi]; exact hu)
      rw [Addr.add_mid, Nat.zero_add] at this
      exact this
    rw [hv] at hI cell
    exact ⟨a, c, cell 0 (by omega) _ rfl, cell 1 (by omega) _ rfl, cell 2 (by omega) _ rfl, hI⟩

theorem ProdAt.kept {w w' : World} {g k c : Nat} {p : PR} {a : Option Addr} (h : ProdAt w g k p a c) (hg : w.grownBy w' none) : ProdAt w' g k p a c :=
  ⟨hg.cell h.left (by simp), hg.cell h.right (by simp), hg.cell h.level (by simp), h.ints.kept hg (Apart.none _)⟩

/-! ### The order -/
def ordStep (out : List Nat) (p : PR) : List Nat := if (-p.left).toNat ∈ out then out else out ++ [(-p.left).toNat]
def ordOf (ps : List PR) : List Nat := ps.foldl ordStep []
def symOf (f : Nat) (out : List Nat) (i : Nat) : Int := if i ∈ out then (f : Int) + (out.idxOf i : Int) else 0

theorem ordOf_succ (ps : List PR) (k : Nat) (hk : k < ps.length) : ordOf (ps.take (k + 1)) = ordStep (ordOf (ps.take k)) (ps.getD k ⟨0, [], 0⟩) := by
  unfold ordOf
  rw [List.take_succ_eq_append_getElem hk, List.foldl_append]
  simp [List.getD, hk]

theorem symOf_snoc_same (f : Nat) {out : List Nat} {i : Nat} (h : i ∉ out) : symOf f (out ++ [i]) i = (f : Int) + out.length := by
  unfold symOf
  rw [if_pos (by simp), List.idxOf_append, if_neg h]
  simp
theorem symOf_snoc_other (f : Nat) {out : List Nat} {i j : Nat} (h : j ≠ i) : symOf f (out ++ [i]) j = symOf f out j := by
  unfold symOf
  by_cases hj : j ∈ out
  · rw [if_pos (by simp [hj]), if_pos hj, List.idxOf_append, if_pos hj]
  · rw [if_neg (by simp [hj, h]), if_neg hj]

def symL (f : Nat) (out : List Nat) (n : Nat) : List Value := (List.range n).map fun i => .int .i64 (symOf f out i)
def outL (S : BS) (out : List Nat) : List Value := out.map fun i => .string (S.nons.getD (i - 1) ⟨#[]⟩)

theorem symL_length (f : Nat) (out : List Nat) (n : Nat) : (symL f out n).length = n := by simp [symL]
theorem symL_at (f : Nat) (out : List Nat) (n i : Nat) (h : i < n) : (symL f out n)[i]? = some (.int .i64 (symOf f out i)) := by simp [symL, h]
theorem symL_set (f : Nat) (out : List Nat) (n i : Nat) (h : i < n) (hi : i ∉ out) : (symL f out n).set i (.int .i64 ((f : Int) + out.length)) = symL f (out ++ [i]) n := by
  apply List.ext_getElem?
  intro k
  rw [List.getElem?_set]
  by_cases hk : k < n
  · by_cases e : i = k
    · subst e; rw [if_pos rfl, if_pos (by rw [symL_length]; exact hk), symL_at _ _ _ _ hk, symOf_snoc_same f hi]
    · rw [if_neg e, symL_at _ _ _ _ hk, symL_at _ _ _ _ hk, symOf_snoc_other f (Ne.symm e)]
  · rw [if_neg (by omega)]
    simp [symL, hk]
theorem symL_nil (f n : Nat) : symL f [] n = List.replicate n (.int .i64 0) := by
  apply List.ext_getElem?
  intro k
  by_cases hk : k < n
  · rw [symL_at _ _ _ _ hk]; simp [hk, symOf]
  · simp [symL, hk]

theorem ord_props {S : BS} (h : S.OK) : ∀ k, k ≤ S.prods.length → (ordOf (S.prods.take k)).Nodup ∧ (∀ i ∈ ordOf (S.prods.take k), 1 ≤ i ∧ i ≤ S.nons.length)
  | 0, _ => by simp [ordOf]
  | k + 1, hk => by
    obtain ⟨h1, h2⟩ := ord_props h k (by omega)
    rw [ordOf_succ _ _ (by omega)]
    unfold ordStep
    split
    · exact ⟨h1, h2⟩
    · next hn =>
      have hp : S.prods.getD k ⟨0, [], 0⟩ ∈ S.prods := by
        have : S.prods.getD k ⟨0, [], 0⟩ = S.prods[k] := by simp [List.getD, show k < S.prods.length by omega]
        rw [this]; exact List.getElem_mem _
      have := h.pl _ hp
      generalize S.prods.getD k ⟨0, [], 0⟩ = q at *
      refine ⟨List.nodup_append.2 ⟨h1, by simp, fun a ha b hb => by simp at hb; subst hb; exact fun e => hn (e ▸ ha)⟩, fun i hi => ?_⟩
      rcases List.mem_append.1 hi with hi | hi
      · exact h2 i hi
      · simp at hi; subst hi; omega

theorem nodup_le : ∀ (n : Nat) (l : List Nat), l.Nodup → (∀ i ∈ l, 1 ≤ i ∧ i ≤ n) → l.length ≤ n
  | 0, l, _, hb => by
    cases l with
    | nil => simp
    | cons a l => have := hb a (by simp); omega
  | n + 1, l, hnd, hb => by
    by_cases hm : n + 1 ∈ l
    · have h1 := nodup_le n (l.erase (n + 1)) (hnd.erase _) (fun i hi => by
        have h2 := (hnd.mem_erase_iff).1 hi
        have h3 := hb i h2.2
        have h4 : i ≠ n + 1 := h2.1
        omega)
      rw [List.length_erase_of_mem hm] at h1
      omega
    · have h1 := nodup_le n l hnd (fun i hi => by
        have h3 := hb i hi
        have h4 : i ≠ n + 1 := fun e => hm (e ▸ hi)
        omega)
      omega

end Go.Proofs.Ytdlbeffkgdjihaa
