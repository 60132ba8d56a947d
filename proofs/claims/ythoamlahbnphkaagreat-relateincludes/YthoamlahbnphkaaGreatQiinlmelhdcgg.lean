import Derived.Test.YthoamlahbnphkaaGreatQjfmlmlenhejf
import Derived.Laws.CopyOwn

/-
  ordered of a builder, walked.
-/
namespace Go.Proofs.YthoamlahbnphkaaGreat
open Go.RowKit Go.Maps Go.Shelf

attribute [local go_sem] Oper.semAt_some

/-! ### Productions in memory, one by one -/
theorem flat_at : ∀ (ps : List PR) (rs : List Value) (k : Nat), rs.length = ps.length → k < ps.length → ∀ i, i < 3 → ((ps.zip rs).flatMap fun x => prL x.1 x.2)[k * 3 + i]? = (prL (ps.getD k ⟨0, [], 0⟩) (rs.getD k undef))[i]?
  | [], _, k, _, hk, _, _ => by simp at hk
  | p :: ps, [], k, h, _, _, _ => by simp at h
  | p :: ps, r :: rs, 0, h, _, i, hi => by
    simp only [List.zip_cons_cons, List.flatMap_cons, Nat.zero_mul, Nat.zero_add]
    rw [List.getElem?_append_left (by simp [prL]; omega)]
    rfl
  | p :: ps, r :: rs, k + 1, h, hk, i, hi => by
    simp only [List.zip_cons_cons, List.flatMap_cons]
    rw [List.getElem?_append_right (by simp [prL]; omega)]
    have e : (k + 1) * 3 + i - (prL p r).length = k * 3 + i := by simp [prL]; omega
    rw [e, flat_at ps rs k (by simpa using h) (by simpa using hk) i hi]
    rfl

/-- The productions of a slice lie where it leads to. -/
structure ProdAt (w : World) (g k : Nat) (p : PR) (a : Option Addr) (c : Nat) : Prop where
  left : w.cell? ⟨g, k * 3, none⟩ = some (.int .i64 p.left)
  right : w.cell? ⟨g, k * 3 + 1, none⟩ = some (.slice a p.right.length c)
  level : w.cell? ⟨g, k * 3 + 2, none⟩ = some (.int .i64 p.level)
  ints : IntsIn w (.slice a p.right.length c) p.right

theorem ProdsIn.at {w : World} {v : Value} {ps : List PR} (h : ProdsIn w v ps) (hl : 0 < ps.length) : ∃ g cap, v = .slice (some ⟨g, 0, none⟩) ps.length cap ∧ ∀ k, k < ps.length → ∃ a c, ProdAt w g k (ps.getD k ⟨0, [], 0⟩) a c := by
  obtain ⟨rs, h1, h2, h3⟩ := h
  have h2' := h2
  rcases h2.2 with ⟨rfl, hn⟩ | ⟨g, cap, cur, rfl, _, hg, hle, _⟩
  · omega
  · refine ⟨g, cap, rfl, fun k hk => ?_⟩
    have hI := h3 k hk
    obtain ⟨a, c, hv, _⟩ := hI.at
    have cell : ∀ i, i < 3 → ∀ u, (prL (ps.getD k ⟨0, [], 0⟩) (rs.getD k undef))[i]? = some u → w.cell? ⟨g, k * 3 + i, none⟩ = some u := fun i hi u hu => by
      have := World.ownsRow.cells h2' (g := g) rfl (k * 3 + i) u (by rw [flat_at ps rs k h1 hk i hi]; exact hu)
      rw [Addr.add_mid, Nat.zero_add] at this
      exact this
    rw [hv] at hI cell
    exact ⟨a, c, cell 0 (by omega) _ rfl, cell 1 (by omega) _ rfl, cell 2 (by omega) _ rfl, hI⟩

/-! ### The order -/
def ordStep (out : List Nat) (p : PR) : List Nat := if (-p.left).toNat ∈ out then out else out ++ [(-p.left).toNat]
def ordOf (ps : List PR) : List Nat := ps.foldl ordStep []
def symOf (f : Nat) (out : List Nat) (i : Nat) : Int := if i ∈ out then (f : Int) + (out.idxOf i : Int) else 0

def symL (f : Nat) (out : List Nat) (n : Nat) : List Value := (List.range n).map fun i => .int .i64 (symOf f out i)
def outL (S : BS) (out : List Nat) : List Value := out.map fun i => .string (S.nons.getD (i - 1) ⟨#[]⟩)

theorem symL_at (f : Nat) (out : List Nat) (n i : Nat) (h : i < n) : (symL f out n)[i]? = some (.int .i64 (symOf f out i)) := by simp [symL, h]
end Go.Proofs.YthoamlahbnphkaaGreat

namespace Go.Proofs.YthoamlahbnphkaaGreat
open Go.RowKit Go.Maps Go.Shelf

attribute [local go_sem] Oper.semAt_some

/-- What holds while the productions are gone through: Bs: the symbols' block. -/
structure OrdAt (w wr : World) (S : BS) (Bs f : Nat) (out : List Nat) (v : Value) : Prop where
  syms : wr.heap[Bs]? = some (.cells (symL f out (S.nons.length + 1)).toArray 3 (0, 0))
  outs : wr.ownsRow (Bs + 1) 9 1 v out.length (outL S out)
  lo : w.heap.size ≤ Bs
  grown : w.grownBy wr none

theorem OrdAt.lt {w wr : World} {S : BS} {Bs f : Nat} {out : List Nat} {v : Value} (h : OrdAt w wr S Bs f out v) : Bs < wr.heap.size := (Array.getElem?_eq_some_iff.1 h.syms).1
theorem OrdAt.cell {w wr : World} {S : BS} {Bs f : Nat} {out : List Nat} {v : Value} (h : OrdAt w wr S Bs f out v) (i : Nat) (hi : i ≤ S.nons.length) : wr.cell? ⟨Bs, i, none⟩ = some (.int .i64 (symOf f out i)) := by
  rw [cell_of_row _ _ _ _ _ _ h.syms]
  simpa using symL_at f out (S.nons.length + 1) i (by omega)
theorem OrdAt.kept {w wr wx : World} {S : BS} {Bs f : Nat} {out : List Nat} {v : Value} (h : OrdAt w wr S Bs f out v) (hg : wr.grownBy wx none) : OrdAt w wx S Bs f out v :=
  ⟨(hg.block Bs h.lt (by simp)).trans h.syms, h.outs.kept hg (by cases hv : v.ownBlock <;> simp), h.lo, grown_trans h.grown hg⟩

end Go.Proofs.YthoamlahbnphkaaGreat

/-
  copiedProds, walked: the same productions in new memory, no two right sides in one row.
-/
namespace Go.Proofs.YthoamlahbnphkaaGreat
open Go.RowKit Go.Maps Go.Shelf

/-- A store into an own row. -/
theorem owns_set {w : World} {base e size g n c j : Nat} {xs : List Value} (h : w.ownsRow base e size (.slice (some ⟨g, 0, none⟩) n c) n xs) (u : Value) : (w.setCell ⟨g, j, none⟩ u).ownsRow base e size (.slice (some ⟨g, 0, none⟩) n c) n (xs.set j u) := by
  refine ⟨by rw [List.length_set]; exact h.1, ?_⟩
  rcases h.2 with ⟨hv, _⟩ | ⟨g', c', cur, hv, hb, hh, h1, h2, h3, h4⟩
  · cases hv
  · simp only [Value.slice.injEq, Option.some.injEq, Addr.mk.injEq, and_true, true_and] at hv
    obtain ⟨rfl, rfl⟩ := hv
    refine .inr ⟨g, c, cur.setIfInBounds j u, rfl, hb, heap_setCell_same w g j _ _ _ hh, h1, h2, by simpa using h3, ?_⟩
    rw [Array.toList_setIfInBounds, ← h4, List.take_set]

/-- The cells of n productions. -/
def prodRow (n : Nat) (L : Nat → Int) (r : Nat → Value) (V : Nat → Int) : List Value := (List.range n).flatMap fun i => [.int .i64 (L i), r i, .int .i64 (V i)]

theorem prodRow_succ (n : Nat) (L : Nat → Int) (r : Nat → Value) (V : Nat → Int) : prodRow (n + 1) L r V = prodRow n L r V ++ [.int .i64 (L n), r n, .int .i64 (V n)] := by simp [prodRow, List.range_succ]
theorem prodRow_length (L : Nat → Int) (r : Nat → Value) (V : Nat → Int) : ∀ n, (prodRow n L r V).length = n * 3
  | 0 => rfl
  | n + 1 => by rw [prodRow_succ, List.length_append, prodRow_length L r V n]; simp; omega
theorem prodRow_ext {n : Nat} {L L' : Nat → Int} {r r' : Nat → Value} {V V' : Nat → Int} (h1 : ∀ i, i < n → L i = L' i) (h2 : ∀ i, i < n → r i = r' i) (h3 : ∀ i, i < n → V i = V' i) : prodRow n L r V = prodRow n L' r' V' := by
  unfold prodRow
  rw [List.flatMap_def, List.flatMap_def]
  congr 1
  exact List.map_congr_left fun i hi => by
    have hi' : i < n := by simpa using hi
    rw [h1 i hi', h2 i hi', h3 i hi']
def updV (r : Nat → Value) (k : Nat) (v : Value) : Nat → Value := fun i => if i = k then v else r i
def updI (L : Nat → Int) (k : Nat) (x : Int) : Nat → Int := fun i => if i = k then x else L i
theorem prodRow_setR (L : Nat → Int) (r : Nat → Value) (V : Nat → Int) (k : Nat) (v : Value) : ∀ n, k < n → (prodRow n L r V).set (k * 3 + 1) v = prodRow n L (updV r k v) V
  | 0, hk => by omega
  | n + 1, hk => by
    rw [prodRow_succ, prodRow_succ]
    by_cases h : k < n
    · rw [List.set_append_left _ _ (by rw [prodRow_length]; omega), prodRow_setR L r V k v n h]
      congr 2
      simp [updV, show n ≠ k by omega]
    · obtain rfl : k = n := by omega
      rw [List.set_append_right _ _ (by rw [prodRow_length]; omega), prodRow_length]
      rw [prodRow_ext (n := k) (L := L) (L' := L) (r := r) (r' := updV r k v) (V := V) (V' := V) (fun _ _ => rfl) (fun i hi => by simp [updV, show i ≠ k by omega]) (fun _ _ => rfl)]
      congr 1
      rw [show k * 3 + 1 - k * 3 = 1 by omega]
      simp [updV]
/-- Productions, wherever they lie: their left sides L, right sides R in the slices ra, rc, their levels V. -/
def ProdsAt (w : World) (a : Option Addr) (n : Nat) (L : Nat → Int) (R : Nat → List Int) (ra : Nat → Option Addr) (rc : Nat → Nat) (V : Nat → Int) : Prop :=
  n = 0 ∨ ∃ b off, a = some ⟨b, off, none⟩ ∧ ∀ k, k < n → w.cell? ⟨b, off + k * 3, none⟩ = some (.int .i64 (L k)) ∧ w.cell? ⟨b, off + k * 3 + 1, none⟩ = some (.slice (ra k) (R k).length (rc k)) ∧ w.cell? ⟨b, off + k * 3 + 2, none⟩ = some (.int .i64 (V k)) ∧ IntsAt w (ra k) (R k) ∧ (ra k = none → rc k = 0) ∧ (R k).length ≤ 17592186044416

end Go.Proofs.YthoamlahbnphkaaGreat

namespace Go.Proofs.YthoamlahbnphkaaGreat
open Go.RowKit Go.Maps Go.Shelf

/-- Productions in memory of their own: the first m of n right sides are new; no two of these lie in one row. -/
structure NewProds (w wr : World) (B : Nat) (v : Value) (n m : Nat) (L : Nat → Int) (R : Nat → List Int) (V : Nat → Int) (rg : Nat → Value) : Prop where
  row : wr.ownsRow B 71 3 v n (prodRow n L rg V)
  rights : ∀ i, i < m → wr.ownsRow B 3 1 (rg i) (R i).length ((R i).map (Value.int .i64))
  apart : ∀ i, i < m → ∀ g, (rg i).ownBlock = some g → v.ownBlock ≠ some g
  disj : ∀ i j, i < j → j < m → ∀ g, (rg i).ownBlock = some g → (rg j).ownBlock ≠ some g
  lo : w.heap.size ≤ B
  grown : w.grownBy wr none

theorem NewProds.kept {w wr wx : World} {B n m : Nat} {v : Value} {L : Nat → Int} {R : Nat → List Int} {V : Nat → Int} {rg : Nat → Value} (h : NewProds w wr B v n m L R V rg) (hg : wr.grownBy wx none) : NewProds w wx B v n m L R V rg :=
  ⟨h.row.kept hg (by cases hv : v.ownBlock <;> simp), fun i hi => (h.rights i hi).kept hg (by cases hv : (rg i).ownBlock <;> simp), h.apart, h.disj, h.lo, grown_trans h.grown hg⟩

theorem NewProds.push {w wr w1 : World} {B g n m c c' : Nat} {a' : Option Addr} {L : Nat → Int} {R : Nat → List Int} {V : Nat → Int} {rg : Nat → Value} (h : NewProds w wr B (.slice (some ⟨g, 0, none⟩) n c) n m L R V rg) (hm : m < n)
    (hown : w1.ownsRow wr.heap.size 3 1 (.slice a' (R m).length c') (R m).length ((R m).map (Value.int .i64))) (hg : wr.grownBy w1 none) :
    NewProds w (w1.setCell ⟨g, m * 3 + 1, none⟩ (.slice a' (R m).length c')) B (.slice (some ⟨g, 0, none⟩) n c) n (m + 1) L R V (updV rg m (.slice a' (R m).length c')) := by
  have h1 := h.kept hg
  have hgB := h.row.lt g rfl
  have hst := grown_setCell (w := w1) g (m * 3 + 1) (.slice a' (R m).length c')
  have hnew : ∀ x, (Value.slice a' (R m).length c').ownBlock = some x → wr.heap.size ≤ x := fun x hx => (hown.lt x hx).1
  have hlo := h.lo
  have hsz := h.grown.size
  have es : updV rg m (.slice a' (R m).length c') m = .slice a' (R m).length c' := by simp [updV]
  have eo : ∀ i, i < m → updV rg m (.slice a' (R m).length c') i = rg i := fun i hi => by simp [updV, show i ≠ m by omega]
  refine ⟨?_, fun i hi => ?_, fun i hi x hx => ?_, fun i j hij hj x hx => ?_, h.lo, grown_new h1.grown hst (Nat.le_trans hlo hgB.1)⟩
  · rw [← prodRow_setR L rg V m _ n hm]
    exact owns_set h1.row _
  · by_cases e : i = m
    · subst e
      rw [es]
      have h2 : w1.ownsRow B 3 1 (.slice a' (R i).length c') (R i).length ((R i).map (Value.int .i64)) := by
        refine ⟨hown.1, ?_⟩
        rcases hown.2 with h' | ⟨x, cap, cur, hv, hb, rest⟩
        · exact .inl h'
        · have hBle : B ≤ wr.heap.size := by
            rcases h.row.2 with ⟨h', _⟩ | ⟨x', _, _, hv', hb', hh', _⟩
            · cases h'
            · have := (Array.getElem?_eq_some_iff.1 hh').1; omega
          exact .inr ⟨x, cap, cur, hv, by omega, rest⟩
      refine h2.kept hst ?_
      cases hx : (Value.slice a' (R i).length c').ownBlock with
      | none => exact .inl rfl
      | some x => have := hnew x hx; exact .inr (by simp; omega)
    · rw [eo i (by omega)]
      refine (h1.rights i (by omega)).kept hst ?_
      cases hx : (rg i).ownBlock with
      | none => exact .inl rfl
      | some x => have := h.apart i (by omega) x hx; simp [Value.ownBlock] at this; exact .inr (by simp; omega)
  · by_cases e : i = m
    · subst e
      rw [es] at hx
      have := hnew x hx
      simp [Value.ownBlock]
      omega
    · rw [eo i (by omega)] at hx
      exact h.apart i (by omega) x hx
  · by_cases e : j = m
    · subst e
      rw [eo i hij] at hx
      rw [es]
      intro hh
      have h3 := hnew x hh
      have h4 := ((h.rights i hij).lt x hx).2
      omega
    · rw [eo i (by omega)] at hx
      rw [eo j (by omega)]
      exact h.disj i j hij (by omega) x hx

end Go.Proofs.YthoamlahbnphkaaGreat
