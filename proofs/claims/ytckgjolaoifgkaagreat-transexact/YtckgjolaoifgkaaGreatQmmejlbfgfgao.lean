import Derived.Test.YtckgjolaoifgkaaGreatQofefkebgaaah
import Derived.Laws.CopyOwn
import Derived.Test.YtckgjolaoifgkaaGreatQlbhjcnckjfik
import Derived.Laws.StructEq
import Derived.Deep.LoopGhost
import Derived.Outline
import Derived.Test.YtckgjolaoifgkaaGreatQgcgpgnhfbbco
import Derived.BigQuiet
import Derived.Deep.MidRow
import Derived.Deep.WholeRow
import Derived.Test.YtckgjolaoifgkaaGreatQkflijjoaiing

/-
  ordered of a builder, walked.
-/
namespace Go.Proofs.YtckgjolaoifgkaaGreat
open Go.RowKit Go.Maps Go.Shelf

attribute [local go_sem] Oper.semAt_some

/-! ### Productions in memory, one by one -/
theorem flat_at : ∀ (ps : List PR) (rs : List Value) (k : Nat), rs.length = ps.length → k < ps.length → ∀ i, i < 3 → ((ps.zip rs).flatMap fun x => prL x.1 x.2)[k * 3 + i]? = (prL (ps.getD k ⟨0, [], 0⟩) (rs.getD k undef))[i]?
  | [], _, k, _, hk, _, _ => by simp at hk
  | p :: ps, [], k, h, _, _, _ => by simp at h
  | p :: ps, r :: rs, 0, h, _, i, hi => by
    simp only [List.zip_cons_cons, List.flatMap_cons, Nat.zero_mul, Nat.zero_add]
    rw [List.getElem?_append_left (by simp [prL]; omega)]
    rfl
  | p :: ps, r :: rs, k + 1, h, hk, i, hi => by
    simp only [List.zip_cons_cons, List.flatMap_cons]
    rw [List.getElem?_append_right (by simp [prL]; omega)]
    have e : (k + 1) * 3 + i - (prL p r).length = k * 3 + i := by simp [prL]; omega
    rw [e, flat_at ps rs k (by simpa using h) (by simpa using hk) i hi]
    rfl

/-- The productions of a slice lie where it leads to. -/
structure ProdAt (w : World) (g k : Nat) (p : PR) (a : Option Addr) (c : Nat) : Prop where
  left : w.cell? ⟨g, k * 3, none⟩ = some (.int .i64 p.left)
  right : w.cell? ⟨g, k * 3 + 1, none⟩ = some (.slice a p.right.length c)
  level : w.cell? ⟨g, k * 3 + 2, none⟩ = some (.int .i64 p.level)
  ints : IntsIn w (.slice a p.right.length c) p.right

theorem ProdsIn.at {w : World} {v : Value} {ps : List PR} (h : ProdsIn w v ps) (hl : 0 < ps.length) : ∃ g cap, v = .slice (some ⟨g, 0, none⟩) ps.length cap ∧ ∀ k, k < ps.length → ∃ a c, ProdAt w g k (ps.getD k ⟨0, [], 0⟩) a c := by
  obtain ⟨rs, h1, h2, h3⟩ := h
  have h2' := h2
  rcases h2.2 with ⟨rfl, hn⟩ | ⟨g, cap, cur, rfl, _, hg, hle, _⟩
  · omega
  · refine ⟨g, cap, rfl, fun k hk => ?_⟩
    have hI := h3 k hk
    obtain ⟨a, c, hv, _⟩ := hI.at
    have cell : ∀ i, i < 3 → ∀ u, (prL (ps.getD k ⟨0, [], 0⟩) (rs.getD k undef))[i]? = some u → w.cell? ⟨g, k * 3 + i, none⟩ = some u := fun i hi u hu => by
      have := World.ownsRow.cells h2' (g := g) rfl (k * 3 + i) u (by rw [flat_at ps rs k h1 hk i hi]; exact hu)
      rw [Addr.add_mid, Nat.zero_add] at this
      exact this
    rw [hv] at hI cell
    exact ⟨a, c, cell 0 (by omega) _ rfl, cell 1 (by omega) _ rfl, cell 2 (by omega) _ rfl, hI⟩

/-! ### The order -/
def ordStep (out : List Nat) (p : PR) : List Nat := if (-p.left).toNat ∈ out then out else out ++ [(-p.left).toNat]
def ordOf (ps : List PR) : List Nat := ps.foldl ordStep []
def symOf (f : Nat) (out : List Nat) (i : Nat) : Int := if i ∈ out then (f : Int) + (out.idxOf i : Int) else 0

theorem symOf_snoc_same (f : Nat) {out : List Nat} {i : Nat} (h : i ∉ out) : symOf f (out ++ [i]) i = (f : Int) + out.length := by
  unfold symOf
  rw [if_pos (by simp), List.idxOf_append, if_neg h]
  simp
theorem symOf_snoc_other (f : Nat) {out : List Nat} {i j : Nat} (h : j ≠ i) : symOf f (out ++ [i]) j = symOf f out j := by
  unfold symOf
  by_cases hj : j ∈ out
  · rw [if_pos (by simp [hj]), if_pos hj, List.idxOf_append, if_pos hj]
  · rw [if_neg (by simp [hj, h]), if_neg hj]

def symL (f : Nat) (out : List Nat) (n : Nat) : List Value := (List.range n).map fun i => .int .i64 (symOf f out i)
def outL (S : BS) (out : List Nat) : List Value := out.map fun i => .string (S.nons.getD (i - 1) ⟨#[]⟩)

theorem symL_length (f : Nat) (out : List Nat) (n : Nat) : (symL f out n).length = n := by simp [symL]
theorem symL_at (f : Nat) (out : List Nat) (n i : Nat) (h : i < n) : (symL f out n)[i]? = some (.int .i64 (symOf f out i)) := by simp [symL, h]
theorem symL_set (f : Nat) (out : List Nat) (n i : Nat) (h : i < n) (hi : i ∉ out) : (symL f out n).set i (.int .i64 ((f : Int) + out.length)) = symL f (out ++ [i]) n := by
  apply List.ext_getElem?
  intro k
  rw [List.getElem?_set]
  by_cases hk : k < n
  · by_cases e : i = k
    · subst e; rw [if_pos rfl, if_pos (by rw [symL_length]; exact hk), symL_at _ _ _ _ hk, symOf_snoc_same f hi]
    · rw [if_neg e, symL_at _ _ _ _ hk, symL_at _ _ _ _ hk, symOf_snoc_other f (Ne.symm e)]
  · rw [if_neg (by omega)]
    simp [symL, hk]
end Go.Proofs.YtckgjolaoifgkaaGreat

namespace Go.Proofs.YtckgjolaoifgkaaGreat
open Go.RowKit Go.Maps Go.Shelf

attribute [local go_sem] Oper.semAt_some

/-- What holds while the productions are gone through: Bs: the symbols' block. -/
structure OrdAt (w wr : World) (S : BS) (Bs f : Nat) (out : List Nat) (v : Value) : Prop where
  syms : wr.heap[Bs]? = some (.cells (symL f out (S.nons.length + 1)).toArray 3 (0, 0))
  outs : wr.ownsRow (Bs + 1) 9 1 v out.length (outL S out)
  lo : w.heap.size ≤ Bs
  grown : w.grownBy wr none

theorem OrdAt.lt {w wr : World} {S : BS} {Bs f : Nat} {out : List Nat} {v : Value} (h : OrdAt w wr S Bs f out v) : Bs < wr.heap.size := (Array.getElem?_eq_some_iff.1 h.syms).1
theorem OrdAt.cell {w wr : World} {S : BS} {Bs f : Nat} {out : List Nat} {v : Value} (h : OrdAt w wr S Bs f out v) (i : Nat) (hi : i ≤ S.nons.length) : wr.cell? ⟨Bs, i, none⟩ = some (.int .i64 (symOf f out i)) := by
  rw [cell_of_row _ _ _ _ _ _ h.syms]
  simpa using symL_at f out (S.nons.length + 1) i (by omega)
theorem OrdAt.kept {w wr wx : World} {S : BS} {Bs f : Nat} {out : List Nat} {v : Value} (h : OrdAt w wr S Bs f out v) (hg : wr.grownBy wx none) : OrdAt w wx S Bs f out v :=
  ⟨(hg.block Bs h.lt (by simp)).trans h.syms, h.outs.kept hg (by cases hv : v.ownBlock <;> simp), h.lo, grown_trans h.grown hg⟩

theorem OrdAt.store {w wr : World} {S : BS} {Bs f j : Nat} {out : List Nat} {v : Value} (h : OrdAt w wr S Bs f out v) (hj : j ≤ S.nons.length) (hm : j ∉ out) :
    (wr.setCell ⟨Bs, j, none⟩ (.int .i64 ((f : Int) + out.length))).heap[Bs]? = some (.cells (symL f (out ++ [j]) (S.nons.length + 1)).toArray 3 (0, 0)) := by
  rw [heap_setCell_same wr Bs j _ _ _ h.syms, ← symL_set f out (S.nons.length + 1) j (by omega) hm]
  simp

end Go.Proofs.YtckgjolaoifgkaaGreat

/-
  copiedProds, walked: the same productions in new memory, no two right sides in one row.
-/
namespace Go.Proofs.YtckgjolaoifgkaaGreat
open Go.RowKit Go.Maps Go.Shelf

/-- A store into an own row. -/
theorem owns_set {w : World} {base e size g n c j : Nat} {xs : List Value} (h : w.ownsRow base e size (.slice (some ⟨g, 0, none⟩) n c) n xs) (u : Value) : (w.setCell ⟨g, j, none⟩ u).ownsRow base e size (.slice (some ⟨g, 0, none⟩) n c) n (xs.set j u) := by
  refine ⟨by rw [List.length_set]; exact h.1, ?_⟩
  rcases h.2 with ⟨hv, _⟩ | ⟨g', c', cur, hv, hb, hh, h1, h2, h3, h4⟩
  · cases hv
  · simp only [Value.slice.injEq, Option.some.injEq, Addr.mk.injEq, and_true, true_and] at hv
    obtain ⟨rfl, rfl⟩ := hv
    refine .inr ⟨g, c, cur.setIfInBounds j u, rfl, hb, heap_setCell_same w g j _ _ _ hh, h1, h2, by simpa using h3, ?_⟩
    rw [Array.toList_setIfInBounds, ← h4, List.take_set]

theorem owns_cell {w : World} {base e size g n c j : Nat} {xs : List Value} (h : w.ownsRow base e size (.slice (some ⟨g, 0, none⟩) n c) n xs) {u : Value} (hu : xs[j]? = some u) : w.cell? ⟨g, j, none⟩ = some u := by
  have := World.ownsRow.cells h (g := g) rfl j u hu
  rwa [Addr.add_mid, Nat.zero_add] at this
/-- The cells of n productions. -/
def prodRow (n : Nat) (L : Nat → Int) (r : Nat → Value) (V : Nat → Int) : List Value := (List.range n).flatMap fun i => [.int .i64 (L i), r i, .int .i64 (V i)]

theorem prodRow_succ (n : Nat) (L : Nat → Int) (r : Nat → Value) (V : Nat → Int) : prodRow (n + 1) L r V = prodRow n L r V ++ [.int .i64 (L n), r n, .int .i64 (V n)] := by simp [prodRow, List.range_succ]
theorem prodRow_length (L : Nat → Int) (r : Nat → Value) (V : Nat → Int) : ∀ n, (prodRow n L r V).length = n * 3
  | 0 => rfl
  | n + 1 => by rw [prodRow_succ, List.length_append, prodRow_length L r V n]; simp; omega
theorem prodRow_at (L : Nat → Int) (r : Nat → Value) (V : Nat → Int) : ∀ n k, k < n → ∀ i, i < 3 → (prodRow n L r V)[k * 3 + i]? = [Value.int .i64 (L k), r k, .int .i64 (V k)][i]?
  | 0, k, hk, _, _ => by omega
  | n + 1, k, hk, i, hi => by
    rw [prodRow_succ]
    by_cases h : k < n
    · rw [List.getElem?_append_left (by rw [prodRow_length]; omega)]
      exact prodRow_at L r V n k h i hi
    · obtain rfl : k = n := by omega
      rw [List.getElem?_append_right (by rw [prodRow_length]; omega), prodRow_length]
      congr 1
      omega
theorem prodRow_ext {n : Nat} {L L' : Nat → Int} {r r' : Nat → Value} {V V' : Nat → Int} (h1 : ∀ i, i < n → L i = L' i) (h2 : ∀ i, i < n → r i = r' i) (h3 : ∀ i, i < n → V i = V' i) : prodRow n L r V = prodRow n L' r' V' := by
  unfold prodRow
  rw [List.flatMap_def, List.flatMap_def]
  congr 1
  exact List.map_congr_left fun i hi => by
    have hi' : i < n := by simpa using hi
    rw [h1 i hi', h2 i hi', h3 i hi']
def updV (r : Nat → Value) (k : Nat) (v : Value) : Nat → Value := fun i => if i = k then v else r i
def updI (L : Nat → Int) (k : Nat) (x : Int) : Nat → Int := fun i => if i = k then x else L i
theorem prodRow_setR (L : Nat → Int) (r : Nat → Value) (V : Nat → Int) (k : Nat) (v : Value) : ∀ n, k < n → (prodRow n L r V).set (k * 3 + 1) v = prodRow n L (updV r k v) V
  | 0, hk => by omega
  | n + 1, hk => by
    rw [prodRow_succ, prodRow_succ]
    by_cases h : k < n
    · rw [List.set_append_left _ _ (by rw [prodRow_length]; omega), prodRow_setR L r V k v n h]
      congr 2
      simp [updV, show n ≠ k by omega]
    · obtain rfl : k = n := by omega
      rw [List.set_append_right _ _ (by rw [prodRow_length]; omega), prodRow_length]
      rw [prodRow_ext (n := k) (L := L) (L' := L) (r := r) (r' := updV r k v) (V := V) (V' := V) (fun _ _ => rfl) (fun i hi => by simp [updV, show i ≠ k by omega]) (fun _ _ => rfl)]
      congr 1
      rw [show k * 3 + 1 - k * 3 = 1 by omega]
      simp [updV]
/-- Productions, wherever they lie: their left sides L, right sides R in the slices ra, rc, their levels V. -/
def ProdsAt (w : World) (a : Option Addr) (n : Nat) (L : Nat → Int) (R : Nat → List Int) (ra : Nat → Option Addr) (rc : Nat → Nat) (V : Nat → Int) : Prop :=
  n = 0 ∨ ∃ b off, a = some ⟨b, off, none⟩ ∧ ∀ k, k < n → w.cell? ⟨b, off + k * 3, none⟩ = some (.int .i64 (L k)) ∧ w.cell? ⟨b, off + k * 3 + 1, none⟩ = some (.slice (ra k) (R k).length (rc k)) ∧ w.cell? ⟨b, off + k * 3 + 2, none⟩ = some (.int .i64 (V k)) ∧ IntsAt w (ra k) (R k) ∧ (ra k = none → rc k = 0) ∧ (R k).length ≤ 17592186044416

end Go.Proofs.YtckgjolaoifgkaaGreat

namespace Go.Proofs.YtckgjolaoifgkaaGreat
open Go.RowKit Go.Maps Go.Shelf

/-- Productions in memory of their own: the first m of n right sides are new; no two of these lie in one row. -/
structure NewProds (w wr : World) (B : Nat) (v : Value) (n m : Nat) (L : Nat → Int) (R : Nat → List Int) (V : Nat → Int) (rg : Nat → Value) : Prop where
  row : wr.ownsRow B 46 3 v n (prodRow n L rg V)
  rights : ∀ i, i < m → wr.ownsRow B 3 1 (rg i) (R i).length ((R i).map (Value.int .i64))
  apart : ∀ i, i < m → ∀ g, (rg i).ownBlock = some g → v.ownBlock ≠ some g
  disj : ∀ i j, i < j → j < m → ∀ g, (rg i).ownBlock = some g → (rg j).ownBlock ≠ some g
  lo : w.heap.size ≤ B
  grown : w.grownBy wr none

theorem NewProds.kept {w wr wx : World} {B n m : Nat} {v : Value} {L : Nat → Int} {R : Nat → List Int} {V : Nat → Int} {rg : Nat → Value} (h : NewProds w wr B v n m L R V rg) (hg : wr.grownBy wx none) : NewProds w wx B v n m L R V rg :=
  ⟨h.row.kept hg (by cases hv : v.ownBlock <;> simp), fun i hi => (h.rights i hi).kept hg (by cases hv : (rg i).ownBlock <;> simp), h.apart, h.disj, h.lo, grown_trans h.grown hg⟩

theorem NewProds.push {w wr w1 : World} {B g n m c c' : Nat} {a' : Option Addr} {L : Nat → Int} {R : Nat → List Int} {V : Nat → Int} {rg : Nat → Value} (h : NewProds w wr B (.slice (some ⟨g, 0, none⟩) n c) n m L R V rg) (hm : m < n)
    (hown : w1.ownsRow wr.heap.size 3 1 (.slice a' (R m).length c') (R m).length ((R m).map (Value.int .i64))) (hg : wr.grownBy w1 none) :
    NewProds w (w1.setCell ⟨g, m * 3 + 1, none⟩ (.slice a' (R m).length c')) B (.slice (some ⟨g, 0, none⟩) n c) n (m + 1) L R V (updV rg m (.slice a' (R m).length c')) := by
  have h1 := h.kept hg
  have hgB := h.row.lt g rfl
  have hst := grown_setCell (w := w1) g (m * 3 + 1) (.slice a' (R m).length c')
  have hnew : ∀ x, (Value.slice a' (R m).length c').ownBlock = some x → wr.heap.size ≤ x := fun x hx => (hown.lt x hx).1
  have hlo := h.lo
  have hsz := h.grown.size
  have es : updV rg m (.slice a' (R m).length c') m = .slice a' (R m).length c' := by simp [updV]
  have eo : ∀ i, i < m → updV rg m (.slice a' (R m).length c') i = rg i := fun i hi => by simp [updV, show i ≠ m by omega]
  refine ⟨?_, fun i hi => ?_, fun i hi x hx => ?_, fun i j hij hj x hx => ?_, h.lo, grown_new h1.grown hst (Nat.le_trans hlo hgB.1)⟩
  · rw [← prodRow_setR L rg V m _ n hm]
    exact owns_set h1.row _
  · by_cases e : i = m
    · subst e
      rw [es]
      have h2 : w1.ownsRow B 3 1 (.slice a' (R i).length c') (R i).length ((R i).map (Value.int .i64)) := by
        refine ⟨hown.1, ?_⟩
        rcases hown.2 with h' | ⟨x, cap, cur, hv, hb, rest⟩
        · exact .inl h'
        · have hBle : B ≤ wr.heap.size := by
            rcases h.row.2 with ⟨h', _⟩ | ⟨x', _, _, hv', hb', hh', _⟩
            · cases h'
            · have := (Array.getElem?_eq_some_iff.1 hh').1; omega
          exact .inr ⟨x, cap, cur, hv, by omega, rest⟩
      refine h2.kept hst ?_
      cases hx : (Value.slice a' (R i).length c').ownBlock with
      | none => exact .inl rfl
      | some x => have := hnew x hx; exact .inr (by simp; omega)
    · rw [eo i (by omega)]
      refine (h1.rights i (by omega)).kept hst ?_
      cases hx : (rg i).ownBlock with
      | none => exact .inl rfl
      | some x => have := h.apart i (by omega) x hx; simp [Value.ownBlock] at this; exact .inr (by simp; omega)
  · by_cases e : i = m
    · subst e
      rw [es] at hx
      have := hnew x hx
      simp [Value.ownBlock]
      omega
    · rw [eo i (by omega)] at hx
      exact h.apart i (by omega) x hx
  · by_cases e : j = m
    · subst e
      rw [eo i hij] at hx
      rw [es]
      intro hh
      have h3 := hnew x hh
      have h4 := ((h.rights i hij).lt x hx).2
      omega
    · rw [eo i (by omega)] at hx
      rw [eo j (by omega)]
      exact h.disj i j hij (by omega) x hx

end Go.Proofs.YtckgjolaoifgkaaGreat

/-
  lefts and IsSorted, walked.
-/
namespace Go.Proofs.YtckgjolaoifgkaaGreat
open Go.RowKit Go.Maps Go.Shelf

attribute [local go_sem] Oper.semAt_some

/-- A grammar by value. -/
def gramV (ta na la pa : Option Addr) (tn nn ln pn tc nc lc pc : Nat) (st : Int) : Value := .agg #[.slice ta tn tc, .slice na nn nc, .slice la ln lc, .int .i64 st, .slice pa pn pc]

theorem isLevel_any (ta na la pa : Option Addr) (tn nn ln pn tc nc lc pc : Nat) (st x : Int) (w : World) :
    Calls Tryz.prog 65 #[.agg #[.slice ta tn tc, .slice na nn nc, .slice la ln lc, .int .i64 st, .slice pa pn pc], .int .i64 x] w fun e w' => e = .returned (.bool (decide (0 ≤ x) && decide (x ≤ ln))) ∧ w.grownBy w' none := by
  by_cases h0 : 0 ≤ x
  · have hd : decide (0 ≤ x) = true := decide_eq_true h0
    go_enter Tryz.func65, Tryz.ntmps65
    go_wp2_with fail
    go_ret
    exact ⟨by simp [h0], World.grownBy_alloc _ _ none⟩
  · have hd : decide (0 ≤ x) = false := decide_eq_false h0
    go_enter Tryz.func65, Tryz.ntmps65
    go_wp2_with fail
    go_ret
    exact ⟨by simp, World.grownBy_alloc _ _ none⟩
theorem isTermOf_any (ta na la pa : Option Addr) (tn nn ln pn tc nc lc pc : Nat) (st x : Int) (w : World) :
    Calls Tryz.prog 71 #[.agg #[.slice ta tn tc, .slice na nn nc, .slice la ln lc, .int .i64 st, .slice pa pn pc], .int .i64 x] w fun e w' => e = .returned (.bool (decide (0 < x) && decide (x < tn))) ∧ w.grownBy w' none := by
  by_cases h0 : 0 < x
  · have hd : decide (0 < x) = true := decide_eq_true h0
    go_enter Tryz.func71, Tryz.ntmps71
    go_wp2_with fail
    go_ret
    exact ⟨by simp [h0], World.grownBy_alloc _ _ none⟩
  · have hd : decide (0 < x) = false := decide_eq_false h0
    go_enter Tryz.func71, Tryz.ntmps71
    go_wp2_with fail
    go_ret
    exact ⟨by simp, World.grownBy_alloc _ _ none⟩
theorem isNonOf_any (ta na la pa : Option Addr) (tn nn ln pn tc nc lc pc ad : Nat) (st x : Int) (w : World) (ht : tn ≤ 140737488355328) (hn : nn ≤ 140737488355328) (ha : ad ≤ 1) :
    Calls Tryz.prog 60 #[.agg #[.slice ta tn tc, .slice na nn nc, .slice la ln lc, .int .i64 st, .slice pa pn pc], .int .i64 x, .int .i64 ad] w fun e w' => e = .returned (.bool (decide ((tn : Int) + ad ≤ x) && decide (x < (tn : Int) + nn))) ∧ w.grownBy w' none := by
  by_cases h0 : (tn : Int) + ad ≤ x
  · have hd : decide ((tn : Int) + ad ≤ x) = true := decide_eq_true h0
    go_enter Tryz.func60, Tryz.ntmps60
    go_wp2_with fail
    go_ret
    exact ⟨by simp [h0], World.grownBy_alloc _ _ none⟩
  · have hd : decide ((tn : Int) + ad ≤ x) = false := decide_eq_false h0
    go_enter Tryz.func60, Tryz.ntmps60
    go_wp2_with fail
    go_ret
    exact ⟨by simp, World.grownBy_alloc _ _ none⟩

/-- Index: somewhere, or -1. -/
theorem index_any (a : Option Addr) (cap : Nat) (l : List Int) (x : Int) (w : World) (hl : IntsAt w a l) (hn : l.length ≤ 140737488355328) :
    Calls Tryz.prog 80 #[.slice a l.length cap, .int .i64 x] w fun e w' => (∃ r : Int, e = .returned (.int .i64 r) ∧ -1 ≤ r ∧ (0 ≤ r ↔ x ∈ l)) ∧ w' = w := by
  have HL : Hid (IntsAt w a l) := hl
  obtain ⟨n, hln⟩ : ∃ n, n = l.length := ⟨_, rfl⟩
  have HLN : Hid (l.length = n) := hln.symm
  rw [← hln] at hn ⊢
  clear hl hln
  go_enter Tryz.func80, Tryz.ntmps80
  go_wp2_with fail
  go_loopw [8] (fun i wr => ∃ k : Nat, k ≤ n ∧ i = .int .i64 k ∧ wr = w ∧ x ∉ l.take k) (fun i _ => n - (intOf i).toNat)
  case atStart => exact ⟨0, Nat.zero_le _, rfl, rfl, by simp⟩
  case round =>
    obtain ⟨k, hk, rfl, hw, hno⟩ := hrel
    subst hw
    have HA : Hid (x ∉ l.take k) := hno
    clear hno
    by_cases hlt : k < n
    · have hkl : k < l.length := by rw [HLN.out]; exact hlt
      obtain ⟨bl, off, rfl, hcells⟩ : ∃ b off, a = some ⟨b, off, none⟩ ∧ ∀ i, i < l.length → wr.cell? ⟨b, off + i, none⟩ = some (.int .i64 (l.getD i 0)) := by
        rcases HL.out with h | h
        · subst h; simp at hkl
        · exact h
      have hck := hcells k hkl
      have hmem : l.getD k 0 ∈ l := by
        have : l.getD k 0 = l[k] := by simp [List.getD, hkl]
        rw [this]; exact List.getElem_mem _
      have htk : l.take (k + 1) = l.take k ++ [l.getD k 0] := by rw [List.take_succ_eq_append_getElem hkl]; simp [List.getD, hkl]
      generalize l.getD k 0 = y at *
      by_cases he : x = y
      · have hb : (x == y) = true := beq_iff_eq.2 he
        have HM : Hid (x ∈ l) := by rw [he]; exact hmem
        clear hcells hmem htk he
        go_wp2_with fail
        go_ret
        exact ⟨⟨k, rfl, by omega, ⟨fun _ => HM.out, fun _ => by omega⟩⟩, rfl⟩
      · have hb : (x == y) = false := beq_eq_false_iff_ne.2 he
        have HA' : Hid (x ∉ l.take (k + 1)) := by
          show x ∉ l.take (k + 1)
          rw [htk, List.mem_append, not_or]
          exact ⟨HA.out, by simpa using he⟩
        clear hcells hmem htk he
        go_wp2_with fail
        go_roundw
        case rel => exact ⟨k + 1, by omega, by go_num, trivial, HA'.out⟩
        case measure => simp [intOf]; omega
    · obtain rfl : k = n := by omega
      have ht : l.take k = l := List.take_of_length_le (Nat.le_of_eq HLN.out)
      rw [ht] at HA
      go_wp2_with fail
      go_ret
      exact ⟨⟨-1, rfl, by omega, ⟨fun h => absurd h (by omega), fun h => absurd h HA.out⟩⟩, rfl⟩

theorem contains_any (a : Option Addr) (cap : Nat) (l : List Int) (x : Int) (w : World) (hl : IntsAt w a l) (hn : l.length ≤ 140737488355328) :
    Calls Tryz.prog 72 #[.slice a l.length cap, .int .i64 x] w fun e w' => e = .returned (.bool (decide (x ∈ l))) ∧ w' = w := by
  have hI := index_any a cap l x w hl hn
  clear hl
  go_enter Tryz.func72, Tryz.ntmps72
  go_wp2_with fail
  refine hI.mono ?_
  rintro e w' ⟨⟨r, rfl, h1, h2⟩, rfl⟩
  go_wp2_with fail
  go_ret
  refine ⟨?_, rfl⟩
  congr 2

end Go.Proofs.YtckgjolaoifgkaaGreat

namespace Go.Proofs.YtckgjolaoifgkaaGreat
open Go.RowKit Go.Maps Go.Shelf

attribute [local go_sem] Oper.semAt_some

def leftStep (L : Nat → Int) (out : List Int) (i : Nat) : List Int := if L i ∈ out then out else out ++ [L i]
def leftsTo (L : Nat → Int) (n : Nat) : List Int := (List.range n).foldl (leftStep L) []
theorem leftsTo_succ (L : Nat → Int) (n : Nat) : leftsTo L (n + 1) = leftStep L (leftsTo L n) n := by simp [leftsTo, List.range_succ]
theorem leftsTo_le (L : Nat → Int) : ∀ n, (leftsTo L n).length ≤ n
  | 0 => by simp [leftsTo]
  | n + 1 => by
    rw [leftsTo_succ]
    have := leftsTo_le L n
    unfold leftStep
    split
    · omega
    · simp; omega

theorem owns_intsAt {w : World} {B n c : Nat} {a : Option Addr} {l : List Int} (h : w.ownsRow B 3 1 (.slice a n c) n (l.map (Value.int .i64))) (hn : n = l.length) : IntsAt w a l := by
  subst hn
  have h0 := owns_base h
  obtain ⟨a', c', hv, hI, _⟩ := IntsIn.at (l := l) h0
  simp at hv
  obtain ⟨rfl, rfl⟩ := hv
  exact hI

set_option maxRecDepth 100000 in
set_option maxHeartbeats 1000000 in
theorem lefts_any (a : Option Addr) (n cap : Nat) (L : Nat → Int) (R : Nat → List Int) (ra : Nat → Option Addr) (rc : Nat → Nat) (V : Nat → Int) (w : World) (hP : ProdsAt w a n L R ra rc V) (hn : n ≤ 97) :
    Calls Tryz.prog 59 #[.slice a n cap] w fun e w' => ∃ a' c', e = .returned (.slice a' (leftsTo L n).length c') ∧ w'.ownsRow w.heap.size 3 1 (.slice a' (leftsTo L n).length c') (leftsTo L n).length ((leftsTo L n).map (Value.int .i64)) ∧ w.grownBy w' none := by
  obtain ⟨i0, hi, hz0, hz1, hz2⟩ := info_parts infoInt
  have HP : Hid (ProdsAt w a n L R ra rc V) := hP
  clear hP
  go_enter Tryz.func59, Tryz.ntmps59
  go_wp2_with fail
  go_loopw [8, 3] (fun i v3 wr => ∃ k : Nat, k ≤ n ∧ i = .int .i64 k ∧ ∃ a' c', v3 = .slice a' (leftsTo L k).length c' ∧ wr.ownsRow w.heap.size 3 1 (.slice a' (leftsTo L k).length c') (leftsTo L k).length ((leftsTo L k).map (Value.int .i64)) ∧ w.grownBy wr none) (fun i _ _ => n - (intOf i).toNat)
  case atStart => exact ⟨0, Nat.zero_le _, rfl, none, 0, rfl, World.ownsRow_nil _ _ _ _, grown_refl _ _⟩
  case round =>
    obtain ⟨k, hk, rfl, a3, c3, rfl, hown, hg⟩ := hrel
    have HO : Hid (wr.ownsRow w.heap.size 3 1 (.slice a3 (leftsTo L k).length c3) (leftsTo L k).length ((leftsTo L k).map (Value.int .i64))) := hown
    have HG : Hid (w.grownBy wr none) := hg
    clear hown hg
    by_cases hlt : k < n
    · obtain ⟨bp, off, rfl, hcs⟩ : ∃ b off, a = some ⟨b, off, none⟩ ∧ ∀ k, k < n → w.cell? ⟨b, off + k * 3, none⟩ = some (.int .i64 (L k)) ∧ w.cell? ⟨b, off + k * 3 + 1, none⟩ = some (.slice (ra k) (R k).length (rc k)) ∧ w.cell? ⟨b, off + k * 3 + 2, none⟩ = some (.int .i64 (V k)) ∧ IntsAt w (ra k) (R k) ∧ (ra k = none → rc k = 0) ∧ (R k).length ≤ 17592186044416 := by
        rcases HP.out with h | h
        · omega
        · exact h
      obtain ⟨h1, h2, h3, _⟩ := hcs k hlt
      have d0 := HG.out.cell h1 (by simp)
      have d1 := HG.out.cell h2 (by simp)
      have d2 := HG.out.cell h3 (by simp)
      have hle := leftsTo_le L k
      have hstep := leftsTo_succ L k
      have hst : leftsTo L (k + 1) = if L k ∈ leftsTo L k then leftsTo L k else leftsTo L k ++ [L k] := hstep
      have HST : Hid (leftsTo L (k + 1) = if L k ∈ leftsTo L k then leftsTo L k else leftsTo L k ++ [L k]) := hst
      have hC : ∀ o, Calls Tryz.prog 72 #[.slice a3 (leftsTo L k).length c3, .int .i64 (L k)] (wr.alloc o) fun e w' => e = .returned (.bool (decide (L k ∈ leftsTo L k))) ∧ w' = wr.alloc o := fun o =>
        contains_any a3 c3 (leftsTo L k) (L k) (wr.alloc o) ((owns_intsAt HO.out rfl).kept (World.grownBy_alloc _ _ none)) (by omega)
      have HC : Hid (∀ o, Calls Tryz.prog 72 #[.slice a3 (leftsTo L k).length c3, .int .i64 (L k)] (wr.alloc o) fun e w' => e = .returned (.bool (decide (L k ∈ leftsTo L k))) ∧ w' = wr.alloc o) := hC
      have hsz := HG.out.size
      generalize leftsTo L k = out at *
      clear hcs h1 h2 h3 hst hC hstep
      by_cases hm : L k ∈ out
      · have hmd : decide (L k ∈ out) = true := decide_eq_true hm
        have hs2 := HST.out
        rw [if_pos hm] at hs2
        have HS2 : Hid (leftsTo L (k + 1) = out) := hs2
        rw [hmd] at HC
        clear hm HST hs2 hmd
        go_wp2_with fail
        refine (HC.out _).mono ?_
        rintro e w2 ⟨rfl, hw2⟩
        have HO2 : Hid (w2.ownsRow w.heap.size 3 1 (.slice a3 out.length c3) out.length (out.map (Value.int .i64))) := by rw [hw2]; exact HO.out.alloc _
        have HG2 : Hid (w.grownBy w2 none) := by rw [hw2]; exact grown_trans HG.out (World.grownBy_alloc _ _ none)
        clear hw2
        go_wp2_with fail
        go_roundw
        case rel => exact ⟨k + 1, by omega, by go_num, a3, c3, by rw [HS2.out], by rw [HS2.out]; exact HO2.out, HG2.out⟩
        case measure => simp [intOf]; omega
      · have hmd : decide (L k ∈ out) = false := decide_eq_false hm
        have hs2 := HST.out
        rw [if_neg hm] at hs2
        have HS2 : Hid (leftsTo L (k + 1) = out ++ [L k]) := hs2
        rw [hmd] at HC
        clear hm HST hs2 hmd
        go_wp2_with fail
        refine (HC.out _).mono ?_
        rintro e w2 ⟨rfl, hw2⟩
        have HO2 : Hid (w2.ownsRow w.heap.size 3 1 (.slice a3 out.length c3) out.length (out.map (Value.int .i64))) := by rw [hw2]; exact HO.out.alloc _
        have HG2 : Hid (w.grownBy w2 none) := by rw [hw2]; exact grown_trans HG.out (World.grownBy_alloc _ _ none)
        have hcp : w2.cell? ⟨wr.heap.size, 0, none⟩ = some (.int .i64 (L k)) := by
          rw [hw2, cell_of_row _ _ _ _ _ _ (heap_alloc_last wr _)]
          rfl
        have hsz2 := HG2.out.size
        clear hw2
        go_wp2_with (at_builtin; refine wpList_append_lies _ rfl _ _ 24 rfl w.heap.size 3 i0 (.int .i64 0) 1 8 Tryz.underlying24 hi hz0 hz1 hz2 rfl (by decide) (.slice a3 out.length c3) out.length (out.map (Value.int .i64)) rfl (HO2.out.alloc _) ⟨w2.heap.size, 0, none⟩ 1 1 [.int .i64 (L k)] rfl rfl (cell_one_new _ _ _) (ints_oneCell' [L k]) (by omega) (by unfold maxLen; omega) (by omega) (by simp; omega) _ rfl ?_; intro g4 c4 w4 hown4 hg4 hloc4 hlt4)
        have HFIN : Hid (w4.ownsRow w.heap.size 3 1 (.slice (some ⟨g4, 0, none⟩) (out ++ [L k]).length c4) (out ++ [L k]).length ((out ++ [L k]).map (Value.int .i64)) ∧ w.grownBy w4 none) := by
          refine ⟨by simpa using hown4, ?_⟩
          have hA := grown_trans HG2.out (World.grownBy_alloc w2 (.cells #[.int .i64 (L k)] 3) none)
          cases hv : (Value.slice a3 out.length c3).ownBlock with
          | none => rw [hv] at hg4; exact grown_trans hA hg4
          | some q => rw [hv] at hg4; exact grown_new hA hg4 (HO2.out.lt q hv).1
        clear hown4 hg4 hloc4 hlt4
        go_wp2_with fail
        go_roundw
        case rel => exact ⟨k + 1, by omega, by go_num, some ⟨g4, 0, none⟩, c4, by rw [HS2.out]; simp, by rw [HS2.out]; exact HFIN.out.1, HFIN.out.2⟩
        case measure => simp [intOf]; omega
    · obtain rfl : k = n := by omega
      go_wp2_with fail
      go_ret
      exact ⟨a3, c3, rfl, HO.out, HG.out⟩

def Asc (l : List Int) : Prop := ∀ i, i + 1 < l.length → l.getD i 0 ≤ l.getD (i + 1) 0

end Go.Proofs.YtckgjolaoifgkaaGreat

/-
  termsHold, walked: the end marker ahead, then terminals' texts, no two alike, their levels.
-/
namespace Go.Proofs.YtckgjolaoifgkaaGreat
open Go.RowKit Go.Maps Go.Shelf

attribute [local go_sem] Oper.semAt_some

theorem neqTerm (s s' : ByteArray) (l l' : Int) (w : World) : (binOp .neq 63 (.agg #[.string s, .int .i64 l]) (.agg #[.string s', .int .i64 l'])).run Tryz.prog w = .ok (.bool (!(s.toList == s'.toList && l == l'))) w := by
  have u3 := Tryz.underlying3
  have u9 := Tryz.underlying9
  have hS : Tryz.prog.underlying 63 = some (.struct (Tryz.prog.fieldsOf 63)) := by kernel_rfl
  have hp : Tryz.prog.stoodInHeld 63 = false := by kernel_rfl
  rw [run_neq_struct, show (10000 : Nat) = 9999 + 1 from rfl, run_equalIn_agg w 9999 63 _ _ hS hp]
  simp only [Program.fieldsOf, Tryz.underlying63]
  go_simp
  by_cases h1 : s.toList = s'.toList <;> by_cases h2 : l = l' <;> simp [h1, h2]

/-- Terminals, wherever they lie. -/
def TermsAt (w : World) (a : Option Addr) (ts : List (ByteArray × Int)) : Prop :=
  ts = [] ∨ ∃ b off, a = some ⟨b, off, none⟩ ∧ ∀ i, i < ts.length → w.cell? ⟨b, off + i * 2, none⟩ = some (.string (ts.getD i (⟨#[]⟩, 0)).1) ∧ w.cell? ⟨b, off + i * 2 + 1, none⟩ = some (.int .i64 (ts.getD i (⟨#[]⟩, 0)).2)

theorem TermsAt.kept {w w' : World} {a : Option Addr} {ts : List (ByteArray × Int)} (h : TermsAt w a ts) (hg : w.grownBy w' none) : TermsAt w' a ts := by
  rcases h with h | ⟨b, off, ha, hc⟩
  · exact .inl h
  · exact .inr ⟨b, off, ha, fun i hi => ⟨hg.cell (hc i hi).1 (by simp), hg.cell (hc i hi).2 (by simp)⟩⟩

def termOK (ln : Nat) (t : ByteArray × Int) : Prop := isTextB t.1 = true ∧ 0 ≤ t.2 ∧ t.2 ≤ ln
def termsOK (ts : List (ByteArray × Int)) (ln : Nat) : Prop := ∃ rest, ts = (⟨#[]⟩, 0) :: rest ∧ (∀ t ∈ rest, termOK ln t) ∧ (rest.map (·.1)).Nodup

theorem toList_empty (s : ByteArray) : s.toList = (ByteArray.mk #[]).toList ↔ s = ⟨#[]⟩ := by
  rw [ByteArray.toList_eq, ByteArray.toList_eq]
  exact ⟨bytes_ext, fun h => by rw [h]⟩

theorem termsHold_none (ta na la pa : Option Addr) (nn ln pn tc nc lc pc : Nat) (st : Int) (w : World) :
    Calls Tryz.prog 55 #[.agg #[.slice ta 0 tc, .slice na nn nc, .slice la ln lc, .int .i64 st, .slice pa pn pc]] w fun e w' => e = .returned (.bool false) ∧ w.grownBy w' none := by
  go_enter Tryz.func55, Tryz.ntmps55
  go_wp2_with fail
  go_ret
  exact ⟨rfl, World.grownBy_alloc _ _ none⟩

/-- The texts of the first k. -/
structure TxAt (w wr : World) (Bg : Nat) (cs : Array Value) (rest : List (ByteArray × Int)) (ln k : Nat) (v : Value) : Prop where
  own : wr.ownsRow (Bg + 1) 9 1 v k ((rest.take k).map fun t => Value.string t.1)
  ok : ∀ t ∈ rest.take k, termOK ln t
  grown : w.grownBy wr none
  box : wr.heap[Bg]? = some (.cells cs 27 (0, 0))
  lo : w.heap.size ≤ Bg

theorem TxAt.kept {w wr wx : World} {Bg ln k : Nat} {cs : Array Value} {rest : List (ByteArray × Int)} {v : Value} (h : TxAt w wr Bg cs rest ln k v) (hg : wr.grownBy wx none) : TxAt w wx Bg cs rest ln k v :=
  ⟨h.own.kept hg (by cases hv : v.ownBlock <;> simp), h.ok, grown_trans h.grown hg, (hg.block Bg (Array.getElem?_eq_some_iff.1 h.box).1 (by simp)).trans h.box, h.lo⟩
theorem TxAt.push {w wr w1 w3 : World} {Bg ln k g c : Nat} {cs : Array Value} {rest : List (ByteArray × Int)} {v : Value} (h : TxAt w wr Bg cs rest ln k v) (hk : k < rest.length) (hg1 : wr.grownBy w1 none) (ht : termOK ln (rest.getD k (⟨#[]⟩, 0)))
    (hown : w3.ownsRow (Bg + 1) 9 1 (.slice (some ⟨g, 0, none⟩) (k + 1) c) (k + 1) (((rest.take k).map fun t => Value.string t.1) ++ [.string (rest.getD k (⟨#[]⟩, 0)).1])) (hg3 : w1.grownBy w3 v.ownBlock) : TxAt w w3 Bg cs rest ln (k + 1) (.slice (some ⟨g, 0, none⟩) (k + 1) c) := by
  have htk : rest.take (k + 1) = rest.take k ++ [rest.getD k (⟨#[]⟩, 0)] := by rw [List.take_succ_eq_append_getElem hk]; simp [List.getD, hk]
  have hlt : Bg < wr.heap.size := (Array.getElem?_eq_some_iff.1 h.box).1
  have hne : ∀ i, i ≤ Bg → some i ≠ v.ownBlock := fun i hi e => by
    have := (h.own.lt i e.symm).1
    omega
  have hlo := h.lo
  refine ⟨by rw [htk, List.map_append]; exact hown, fun t hm => ?_, ?_, ?_, h.lo⟩
  · rw [htk] at hm
    rcases List.mem_append.1 hm with hm | hm
    · exact h.ok t hm
    · simp only [List.mem_singleton] at hm; rw [hm]; exact ht
  · have hG := grown_trans h.grown hg1
    exact ⟨hg3.os.trans hG.os, hg3.tape.trans hG.tape, hg3.output.trans hG.output, Nat.le_trans hG.size hg3.size, fun i hi _ => (hg3.block i (Nat.lt_of_lt_of_le hi hG.size) (hne i (by omega))).trans (hG.block i hi (by simp))⟩
  · rw [hg3.block Bg (Nat.lt_of_lt_of_le hlt hg1.size) (hne Bg (Nat.le_refl _)), hg1.block Bg hlt (by simp)]
    exact h.box

set_option maxRecDepth 100000 in
set_option maxHeartbeats 600000 in
theorem termsHold_some (b off : Nat) (na la pa : Option Addr) (nn ln pn tc nc lc pc : Nat) (st : Int) (ts : List (ByteArray × Int)) (w : World) (hT : TermsAt w (some ⟨b, off, none⟩) ts) (h0 : 0 < ts.length) (hn : ts.length ≤ 65) (hc : ts.length ≤ tc) (htc : ¬ tc = 1) (r : Bool) (hr : r = true ↔ termsOK ts ln) :
    Calls Tryz.prog 55 #[.agg #[.slice (some ⟨b, off, none⟩) ts.length tc, .slice na nn nc, .slice la ln lc, .int .i64 st, .slice pa pn pc]] w fun e w' => e = .returned (.bool r) ∧ w.grownBy w' none := by
  obtain ⟨j0, hj, hy0, hy1, hy2⟩ := info_parts infoStr
  obtain ⟨t0, rest, rfl⟩ : ∃ t0 rest, ts = t0 :: rest := by
    cases ts with
    | nil => simp at h0
    | cons t0 rest => exact ⟨t0, rest, rfl⟩
  obtain ⟨s0, l0⟩ := t0
  have hcs : ∀ i, i < rest.length + 1 → w.cell? ⟨b, off + i * 2, none⟩ = some (.string (((s0, l0) :: rest).getD i (⟨#[]⟩, 0)).1) ∧ w.cell? ⟨b, off + i * 2 + 1, none⟩ = some (.int .i64 (((s0, l0) :: rest).getD i (⟨#[]⟩, 0)).2) := by
    rcases hT with h | ⟨b', off', he, h⟩
    · cases h
    · simp only [Option.some.injEq, Addr.mk.injEq, and_true] at he
      obtain ⟨rfl, rfl⟩ := he
      exact h
  obtain ⟨m, hm⟩ : ∃ m, m = rest.length := ⟨_, rfl⟩
  have HM : Hid (rest.length = m) := hm.symm
  have hlen : ((s0, l0) :: rest).length = m + 1 := by rw [hm]; rfl
  rw [hlen] at hn hc ⊢
  have c0 : ∀ X, w.grownBy X none → X.cell? ⟨b, off, none⟩ = some (.string s0) ∧ X.cell? ⟨b, off + 1, none⟩ = some (.int .i64 l0) := fun X hX => by
    obtain ⟨h1, h2⟩ := hcs 0 (by omega)
    exact ⟨hX.cell (by simpa using h1) (by simp), hX.cell (by simpa using h2) (by simp)⟩
  have HCS : Hid (∀ X, w.grownBy X none → ∀ i, i < rest.length → X.cell? ⟨b, off + 2 + i * 2, none⟩ = some (.string (rest.getD i (⟨#[]⟩, 0)).1) ∧ X.cell? ⟨b, off + 2 + i * 2 + 1, none⟩ = some (.int .i64 (rest.getD i (⟨#[]⟩, 0)).2)) := fun X hX i hi => by
    obtain ⟨h1, h2⟩ := hcs (i + 1) (by omega)
    have e : off + (i + 1) * 2 = off + 2 + i * 2 := by omega
    rw [e] at h1 h2
    exact ⟨hX.cell (by simpa using h1) (by simp), hX.cell (by simpa using h2) (by simp)⟩
  have HRR : Hid (r = true ↔ termsOK ((s0, l0) :: rest) ln) := hr
  have hA := c0 (w.alloc (.cells #[.slice (some ⟨b, off, none⟩) (m + 1) tc, .slice na nn nc, .slice la ln lc, .int .i64 st, .slice pa pn pc] 27)) (World.grownBy_alloc _ _ none)
  obtain ⟨hA1, hA2⟩ := hA
  have hq := fun w => neqTerm s0 ⟨#[]⟩ l0 0 w
  have hqg : Tryz.prog.eqGuardType Tryz.prog.depth 63 = false := by kernel_rfl
  clear hcs hT h0 hlen hr c0 hm
  by_cases hmk : s0 = ⟨#[]⟩ ∧ l0 = 0
  · obtain ⟨rfl, rfl⟩ := hmk
    have hq' : ∀ w, (binOp .neq 63 (.agg #[.string ⟨#[]⟩, .int .i64 0]) (.agg #[.string ⟨#[]⟩, .int .i64 0])).run Tryz.prog w = .ok (.bool false) w := fun w => by rw [hq]; simp
    clear hq
    have HBX : Hid (∀ w1, (w.alloc (.cells #[.slice (some ⟨b, off, none⟩) (m + 1) tc, .slice na nn nc, .slice la ln lc, .int .i64 st, .slice pa pn pc] 27)).grownBy w1 none → w1.heap[w.heap.size]? = some (.cells #[.slice (some ⟨b, off, none⟩) (m + 1) tc, .slice na nn nc, .slice la ln lc, .int .i64 st, .slice pa pn pc] 27 (0, 0))) := fun w1 hg => (hg.block w.heap.size (by simp) (by simp)).trans (heap_alloc_last w _)
    have HSL : Hid (∀ W, w.grownBy W none → ∀ g c, W.ownsRow (w.heap.size + 1) 9 1 (.slice g m c) m ((rest.take m).map fun t => Value.string t.1) → (∀ t ∈ rest.take m, termOK ln t) → Calls Tryz.prog 66 #[.slice g m c] W fun e w' => e = .returned (.bool r) ∧ W.grownBy w' none) := fun W hW g c hown hall => by
      have ht : rest.take m = rest := List.take_of_length_le (Nat.le_of_eq HM.out)
      rw [ht] at hown hall
      have e1 : (rest.map fun t => Value.string t.1) = (rest.map (·.1)).map Value.string := by simp
      have hlm : (rest.map (·.1)).length = m := by rw [List.length_map]; exact HM.out
      rw [e1] at hown
      have hS : StrsIn W (.slice g m c) (rest.map (·.1)) := by unfold StrsIn; rw [hlm]; exact owns_base hown
      have := noTwoAlike_any g c (rest.map (·.1)) W (hS.strsAt rfl) (by omega) (fun s hs => by
        obtain ⟨t, ht, rfl⟩ := List.mem_map.1 hs
        exact isTextB_size (hall t ht).1)
      rw [hlm] at this
      refine this.mono ?_
      rintro e w' ⟨r', rfl, hr', hg⟩
      have : r' = r := by
        rw [Bool.eq_iff_iff, hr', HRR.out]
        constructor
        · intro hnd; exact ⟨rest, rfl, hall, hnd⟩
        · rintro ⟨rest', he, _, hnd⟩
          simp at he
          rw [he]; exact hnd
      rw [this]
      exact ⟨rfl, hg⟩
    have HRF : Hid (∀ i, i < m → ¬ termOK ln (rest.getD i (⟨#[]⟩, 0)) → r = false) := fun i hi hno => Bool.eq_false_iff.2 fun hh => by
      obtain ⟨rest', he, hall, _⟩ := HRR.out.1 hh
      simp at he
      rw [← he] at hall
      have hil : i < rest.length := by rw [HM.out]; exact hi
      refine hno (hall _ ?_)
      have : rest.getD i (⟨#[]⟩, 0) = rest[i] := by simp [List.getD, hil]
      rw [this]; exact List.getElem_mem _
    go_enter Tryz.func55, Tryz.ntmps55
    go_wp2_with (at_make; refine wpList_make_own _ rfl _ _ 23 rfl (w.heap.size + 1) 9 j0 (.string ByteArray.empty) 1 Tryz.underlying23 hj hy0 hy1 .i64 .i64 _ m rfl rfl (by simp) (by rw [hy2]; omega) (by unfold maxLen; omega) (by simp) ?_; intro w1 hown1 hg1; have hbx1 := HBX.out w1 hg1; have k0 := cell_of_row w1 w.heap.size 0 _ _ _ hbx1; simp only [List.getElem?_toArray, List.getElem?_cons_zero] at k0)
    clear hA1 hA2
    have HX0 : Hid (TxAt w w1 w.heap.size #[.slice (some ⟨b, off, none⟩) (m + 1) tc, .slice na nn nc, .slice la ln lc, .int .i64 st, .slice pa pn pc] rest ln 0 (.slice (some ⟨w.heap.size + 1, 0, none⟩) 0 m)) := ⟨by simpa using hown1, fun t ht => by simp at ht, grown_trans (World.grownBy_alloc _ _ none) hg1, hbx1, Nat.le_refl _⟩
    clear hown1 hg1 hbx1 k0
    go_loopw [27, 3] (fun i v3 wr => ∃ k : Nat, k ≤ m ∧ i = .int .i64 k ∧ ∃ g c, v3 = .slice (some ⟨g, 0, none⟩) k c ∧ TxAt w wr w.heap.size #[.slice (some ⟨b, off, none⟩) (m + 1) tc, .slice na nn nc, .slice la ln lc, .int .i64 st, .slice pa pn pc] rest ln k (.slice (some ⟨g, 0, none⟩) k c)) (fun i _ _ => m - (intOf i).toNat)
    case atStart => exact ⟨0, Nat.zero_le _, rfl, _, m, rfl, HX0.out⟩
    case round =>
      obtain ⟨k, hk, rfl, g3, c3, rfl, hX⟩ := hrel
      have HX : Hid (TxAt w wr w.heap.size #[.slice (some ⟨b, off, none⟩) (m + 1) tc, .slice na nn nc, .slice la ln lc, .int .i64 st, .slice pa pn pc] rest ln k (.slice (some ⟨g3, 0, none⟩) k c3)) := hX
      clear hX HX0
      by_cases hlt : k < m
      · have hkr : k < rest.length := by rw [HM.out]; exact hlt
        obtain ⟨h1, h2⟩ := HCS.out wr HX.out.grown k hkr
        have hrf := HRF.out k hlt
        have hbx := HX.out.box
        obtain ⟨s, hs⟩ : ∃ s, s = (rest.getD k (⟨#[]⟩, 0)).1 := ⟨_, rfl⟩
        obtain ⟨l, hl⟩ : ∃ l, l = (rest.getD k (⟨#[]⟩, 0)).2 := ⟨_, rfl⟩
        have HT : Hid (rest.getD k (⟨#[]⟩, 0) = (s, l)) := by
          show rest.getD k (⟨#[]⟩, 0) = (s, l)
          rw [hs, hl]
        rw [← hs] at h1
        rw [← hl] at h2
        clear hs hl
        have hIT := fun o => isText_any s (wr.alloc o)
        have hIL := fun o => isLevel_any (some ⟨b, off, none⟩) na la pa (m + 1) nn ln pn tc nc lc pc st l (wr.alloc o)
        have k0 : ∀ o, (wr.alloc o).cell? ⟨w.heap.size, 0, none⟩ = some (.slice (some ⟨b, off, none⟩) (m + 1) tc) := fun o => (World.grownBy_alloc wr o none).cell (by rw [cell_of_row wr w.heap.size 0 _ _ _ hbx]; rfl) (by simp)
        have k1 : ∀ o, (wr.alloc o).cell? ⟨w.heap.size, 1, none⟩ = some (.slice na nn nc) := fun o => (World.grownBy_alloc wr o none).cell (by rw [cell_of_row wr w.heap.size 1 _ _ _ hbx]; rfl) (by simp)
        have k2 : ∀ o, (wr.alloc o).cell? ⟨w.heap.size, 2, none⟩ = some (.slice la ln lc) := fun o => (World.grownBy_alloc wr o none).cell (by rw [cell_of_row wr w.heap.size 2 _ _ _ hbx]; rfl) (by simp)
        have k3 : ∀ o, (wr.alloc o).cell? ⟨w.heap.size, 3, none⟩ = some (.int .i64 st) := fun o => (World.grownBy_alloc wr o none).cell (by rw [cell_of_row wr w.heap.size 3 _ _ _ hbx]; rfl) (by simp)
        have k4 : ∀ o, (wr.alloc o).cell? ⟨w.heap.size, 4, none⟩ = some (.slice pa pn pc) := fun o => (World.grownBy_alloc wr o none).cell (by rw [cell_of_row wr w.heap.size 4 _ _ _ hbx]; rfl) (by simp)
        clear hbx
        cases htx : isTextB s with
        | false =>
          have hf : r = false := hrf (by rw [HT.out]; exact fun h => by have := h.1; simp [htx] at this)
          have HG : Hid (∀ o, w.grownBy (wr.alloc o) none) := fun o => grown_trans HX.out.grown (World.grownBy_alloc _ _ none)
          clear hrf HSL HRF HX HCS hIL
          go_wp2_with (go_at_call 64; refine (hIT _).mono ?_; rintro e w' ⟨rfl, hw'⟩; subst hw'; rw [htx])
          go_ret
          exact ⟨by first | rfl | (rw [hf]; rfl), HG.out _⟩
        | true =>
          cases hlv : (decide (0 ≤ l) && decide (l ≤ (ln : Int))) with
          | false =>
            have hf : r = false := hrf (by rw [HT.out]; exact fun h => by have h3 := h.2.1; have h4 := h.2.2; simp at h3 h4; simp [h3, h4] at hlv)
            have HG : Hid (∀ o, w.grownBy (wr.alloc o) none) := fun o => grown_trans HX.out.grown (World.grownBy_alloc _ _ none)
            clear hrf HSL HRF HX HCS
            go_wp2_with (go_at_call 64; refine (hIT _).mono ?_; rintro e w' ⟨rfl, hw'⟩; subst hw'; rw [htx])
            refine (hIL _).mono ?_
            rintro e w2 ⟨rfl, hg2⟩
            rw [hlv]
            have HG2 : Hid (w.grownBy w2 none) := grown_trans (HG.out _) hg2
            clear hg2 hIL hIT
            go_wp2_with fail
            go_ret
            exact ⟨by first | rfl | (rw [hf]; rfl), HG2.out⟩
          | true =>
            have HTK : Hid (termOK ln (rest.getD k (⟨#[]⟩, 0))) := by
              show termOK ln (rest.getD k (⟨#[]⟩, 0))
              rw [HT.out]
              simp at hlv
              exact ⟨htx, hlv.1, hlv.2⟩
            clear hrf HSL HRF HCS
            go_wp2_with (go_at_call 64; refine (hIT _).mono ?_; rintro e w' ⟨rfl, hw'⟩; subst hw'; rw [htx])
            refine (hIL _).mono ?_
            rintro e w2 ⟨rfl, hg2⟩
            rw [hlv]
            have hcp : w2.cell? ⟨wr.heap.size, 0, none⟩ = some (.string s) := hg2.cell (by rw [cell_of_row _ _ _ _ _ _ (heap_alloc_last wr _)]; rfl) (by simp)
            have hG2 : wr.grownBy w2 none := grown_trans (World.grownBy_alloc _ _ none) hg2
            have HG2 : Hid (wr.grownBy w2 none) := hG2
            have HX2 : Hid (TxAt w w2 w.heap.size #[.slice (some ⟨b, off, none⟩) (m + 1) tc, .slice na nn nc, .slice la ln lc, .int .i64 st, .slice pa pn pc] rest ln k (.slice (some ⟨g3, 0, none⟩) k c3)) := HX.out.kept hG2
            have hsz : w.heap.size < w2.heap.size := (Array.getElem?_eq_some_iff.1 HX2.out.box).1
            clear hg2 hG2 hIL hIT k0 k1 k2 k3 k4 HX
            go_wp2_with (at_builtin; refine wpList_append_lies _ rfl _ _ 23 rfl (w.heap.size + 1) 9 j0 (.string ByteArray.empty) 1 16 Tryz.underlying23 hj hy0 hy1 hy2 rfl (by decide) (.slice (some ⟨g3, 0, none⟩) k c3) k ((rest.take k).map fun t => Value.string t.1) rfl (HX2.out.own.alloc _) ⟨w2.heap.size, 0, none⟩ 1 1 [.string s] rfl rfl (cell_one_new _ _ _) (str_oneCell s) (by omega) (by unfold maxLen; omega) (by omega) (by simp; omega) _ rfl ?_; intro g4 c4 w4 hown4 hg4 hloc4 hlt4)
            have HFIN : Hid (TxAt w w4 w.heap.size #[.slice (some ⟨b, off, none⟩) (m + 1) tc, .slice na nn nc, .slice la ln lc, .int .i64 st, .slice pa pn pc] rest ln (k + 1) (.slice (some ⟨g4, 0, none⟩) (k + 1) c4)) := HX2.out.push hkr (World.grownBy_alloc _ _ none) HTK.out (by rw [HT.out]; exact hown4) hg4
            clear hown4 hg4 hloc4 hlt4
            go_wp2_with fail
            go_roundw
            case rel => exact ⟨k + 1, by omega, by go_num, g4, c4, rfl, HFIN.out⟩
            case measure => simp [intOf]; omega
      · obtain rfl : k = m := by omega
        have hnt := HSL.out wr HX.out.grown (some ⟨g3, 0, none⟩) c3 HX.out.own HX.out.ok
        have HG : Hid (w.grownBy wr none) := HX.out.grown
        clear HSL HRF HX HCS
        go_wp2_with fail
        refine hnt.mono ?_
        rintro e w5 ⟨rfl, hg5⟩
        go_wp2_with fail
        go_ret
        exact ⟨rfl, grown_trans HG.out hg5⟩
  · have hb : (!(s0.toList == (ByteArray.mk #[]).toList && l0 == 0)) = true := by
      rw [Bool.not_eq_true', Bool.eq_false_iff]
      intro h
      rw [Bool.and_eq_true] at h
      exact hmk ⟨(toList_empty s0).1 (by simpa using h.1), by simpa using h.2⟩
    rw [hb] at hq
    have hrf : r = false := Bool.eq_false_iff.2 fun hh => by
      obtain ⟨rest', he, _⟩ := HRR.out.1 hh
      simp at he
      exact hmk he.1
    clear hb hmk
    go_enter Tryz.func55, Tryz.ntmps55
    go_wp2_with fail
    go_ret
    exact ⟨by first | rfl | (rw [hrf]; rfl), World.grownBy_alloc _ _ none⟩

end Go.Proofs.YtckgjolaoifgkaaGreat

/-
  prodsHold, walked: each production's left side is a nonterminal, its level one, its right side's symbols terminals or nonterminals.
-/
namespace Go.Proofs.YtckgjolaoifgkaaGreat
open Go.RowKit Go.Maps Go.Shelf

attribute [local go_sem] Oper.semAt_some

def isNonI (tn nn ad : Nat) (x : Int) : Prop := (tn : Int) + ad ≤ x ∧ x < (tn : Int) + nn
def isSymI (tn nn ad : Nat) (x : Int) : Prop := (0 < x ∧ x < tn) ∨ isNonI tn nn ad x
def prodOK (tn nn ln ad : Nat) (L : Int) (R : List Int) (V : Int) : Prop := isNonI tn nn ad L ∧ (0 ≤ V ∧ V ≤ ln) ∧ ∀ x ∈ R, isSymI tn nn ad x

/-- The grammar's box, and all that was, stand. -/
structure PhAt (w wr : World) (Bg : Nat) (cs : Array Value) : Prop where
  grown : w.grownBy wr none
  box : wr.heap[Bg]? = some (.cells cs 27 (0, 0))
theorem PhAt.kept {w wr wx : World} {Bg : Nat} {cs : Array Value} (h : PhAt w wr Bg cs) (hg : wr.grownBy wx none) : PhAt w wx Bg cs :=
  ⟨grown_trans h.grown hg, (hg.block Bg (Array.getElem?_eq_some_iff.1 h.box).1 (by simp)).trans h.box⟩
theorem PhAt.cells {w wr : World} {Bg : Nat} {v0 v1 v2 v3 v4 : Value} (h : PhAt w wr Bg #[v0, v1, v2, v3, v4]) : wr.cell? ⟨Bg, 0, none⟩ = some v0 ∧ wr.cell? ⟨Bg, 1, none⟩ = some v1 ∧ wr.cell? ⟨Bg, 2, none⟩ = some v2 ∧ wr.cell? ⟨Bg, 3, none⟩ = some v3 ∧ wr.cell? ⟨Bg, 4, none⟩ = some v4 := by
  refine ⟨?_, ?_, ?_, ?_, ?_⟩ <;> rw [cell_of_row _ _ _ _ _ _ h.box] <;> rfl

set_option maxRecDepth 100000 in
set_option maxHeartbeats 1000000 in
theorem prodsHold_any (ta na la pa qa : Option Addr) (tn nn ln pn tc nc lc pc n qc ad : Nat) (st : Int) (L : Nat → Int) (R : Nat → List Int) (ra : Nat → Option Addr) (rc : Nat → Nat) (V : Nat → Int) (w : World) (hP : ProdsAt w qa n L R ra rc V) (hn : n ≤ 97) (ht : tn ≤ 140737488355328) (hnn : nn ≤ 140737488355328) (had : ad ≤ 1)
    (r : Bool) (hr : r = true ↔ ∀ i, i < n → prodOK tn nn ln ad (L i) (R i) (V i)) :
    Calls Tryz.prog 58 #[.agg #[.slice ta tn tc, .slice na nn nc, .slice la ln lc, .int .i64 st, .slice pa pn pc], .slice qa n qc, .int .i64 ad] w fun e w' => e = .returned (.bool r) ∧ w.grownBy w' none := by
  have HP : Hid (ProdsAt w qa n L R ra rc V) := hP
  have HRR : Hid (r = true ↔ ∀ i, i < n → prodOK tn nn ln ad (L i) (R i) (V i)) := hr
  clear hP hr
  have HX0 : Hid (PhAt w (w.alloc (.cells #[.slice ta tn tc, .slice na nn nc, .slice la ln lc, .int .i64 st, .slice pa pn pc] 27)) w.heap.size #[.slice ta tn tc, .slice na nn nc, .slice la ln lc, .int .i64 st, .slice pa pn pc]) := ⟨World.grownBy_alloc _ _ none, heap_alloc_last w _⟩
  go_enter Tryz.func58, Tryz.ntmps58
  go_wp2_with fail
  go_loopg [13] n (fun gk i wr => ∃ k : Nat, k ≤ n ∧ gk = n - k ∧ i = .int .i64 k ∧ PhAt w wr w.heap.size #[.slice ta tn tc, .slice na nn nc, .slice la ln lc, .int .i64 st, .slice pa pn pc] ∧ ∀ j, j < k → prodOK tn nn ln ad (L j) (R j) (V j))
  case atStart => exact ⟨0, Nat.zero_le _, rfl, rfl, HX0.out, fun j hj => absurd hj (Nat.not_lt_zero _)⟩
  case round =>
    obtain ⟨k, hk, hgk, rfl, hX, hall⟩ := hrel
    have HX : Hid (PhAt w wr w.heap.size #[.slice ta tn tc, .slice na nn nc, .slice la ln lc, .int .i64 st, .slice pa pn pc]) := hX
    have HA : Hid (∀ j, j < k → prodOK tn nn ln ad (L j) (R j) (V j)) := hall
    have HGK : Hid (gk = n - k) := hgk
    clear hX hall hgk HX0
    by_cases hlt : k < n
    · obtain ⟨bp, off, rfl, hcs⟩ : ∃ b off, qa = some ⟨b, off, none⟩ ∧ ∀ k, k < n → w.cell? ⟨b, off + k * 3, none⟩ = some (.int .i64 (L k)) ∧ w.cell? ⟨b, off + k * 3 + 1, none⟩ = some (.slice (ra k) (R k).length (rc k)) ∧ w.cell? ⟨b, off + k * 3 + 2, none⟩ = some (.int .i64 (V k)) ∧ IntsAt w (ra k) (R k) ∧ (ra k = none → rc k = 0) ∧ (R k).length ≤ 17592186044416 := by
        rcases HP.out with h | h
        · omega
        · exact h
      obtain ⟨h1, h2, h3, hI, _, hlen⟩ := hcs k hlt
      have d0 := HX.out.grown.cell h1 (by simp)
      have d1 := HX.out.grown.cell h2 (by simp)
      have d2 := HX.out.grown.cell h3 (by simp)
      have HI : Hid (IntsAt w (ra k) (R k)) := hI
      have HRF : Hid (¬ prodOK tn nn ln ad (L k) (R k) (V k) → r = false) := fun hno => Bool.eq_false_iff.2 fun hh => hno (HRR.out.1 hh k hlt)
      clear hcs h1 h2 h3 hI
      obtain ⟨Lk, hLk⟩ : ∃ x, x = L k := ⟨_, rfl⟩
      obtain ⟨Vk, hVk⟩ : ∃ x, x = V k := ⟨_, rfl⟩
      rw [← hLk] at d0 HRF
      rw [← hVk] at d2 HRF
      have HLV : Hid (Lk = L k ∧ Vk = V k) := ⟨hLk, hVk⟩
      clear hLk hVk
      have HXA : Hid (∀ o, PhAt w (wr.alloc o) w.heap.size #[.slice ta tn tc, .slice na nn nc, .slice la ln lc, .int .i64 st, .slice pa pn pc]) := fun o => HX.out.kept (World.grownBy_alloc _ _ none)
      have k0 := fun o => (HXA.out o).cells.1
      have k1 := fun o => (HXA.out o).cells.2.1
      have k2 := fun o => (HXA.out o).cells.2.2.1
      have k3 := fun o => (HXA.out o).cells.2.2.2.1
      have k4 := fun o => (HXA.out o).cells.2.2.2.2
      have HIN := fun o => isNonOf_any ta na la pa tn nn ln pn tc nc lc pc ad st Lk (wr.alloc o) ht hnn had
      cases hlf : (decide ((tn : Int) + ad ≤ Lk) && decide (Lk < (tn : Int) + nn)) with
      | false =>
        have hf : r = false := HRF.out fun h => by have h4 := h.1; simp [isNonI] at h4; simp [h4] at hlf
        clear HX
        go_wp2_with fail
        refine (HIN _).mono ?_
        rintro e w2 ⟨rfl, hg2⟩
        rw [hlf]
        have HG2 : Hid (w.grownBy w2 none) := grown_trans (HXA.out _).grown hg2
        clear hg2 HIN k0 k1 k2 k3 k4 HXA
        go_wp2_with fail
        go_ret
        exact ⟨by first | rfl | (rw [hf]; rfl), HG2.out⟩
      | true =>
        clear HX
        go_wp2_with fail
        refine (HIN _).mono ?_
        rintro e w2 ⟨rfl, hg2⟩
        rw [hlf]
        have hX2 := (HXA.out _).kept hg2
        have q1 : w2.cell? ⟨wr.heap.size, 1, none⟩ = some (.slice (ra k) (R k).length (rc k)) := hg2.cell (by rw [cell_of_row _ _ _ _ _ _ (heap_alloc_last wr _)]; rfl) (by simp)
        have q2 : w2.cell? ⟨wr.heap.size, 2, none⟩ = some (.int .i64 Vk) := hg2.cell (by rw [cell_of_row _ _ _ _ _ _ (heap_alloc_last wr _)]; rfl) (by simp)
        obtain ⟨m0, m1, m2, m3, m4⟩ := hX2.cells
        have HX2 : Hid (PhAt w w2 w.heap.size #[.slice ta tn tc, .slice na nn nc, .slice la ln lc, .int .i64 st, .slice pa pn pc]) := hX2
        have HIL := isLevel_any ta na la pa tn nn ln pn tc nc lc pc st Vk w2
        clear hg2 HIN k0 k1 k2 k3 k4 HXA hX2 d0 d1 d2
        cases hlv : (decide (0 ≤ Vk) && decide (Vk ≤ (ln : Int))) with
        | false =>
          have hf : r = false := HRF.out fun h => by have h4 := h.2.1; simp [h4] at hlv
          rw [hlv] at HIL
          go_wp2_with fail
          refine HIL.mono ?_
          rintro e w3 ⟨rfl, hg3⟩
          have HG3 : Hid (w.grownBy w3 none) := grown_trans HX2.out.grown hg3
          clear hg3 HIL
          go_wp2_with fail
          go_ret
          exact ⟨by first | rfl | (rw [hf]; rfl), HG3.out⟩
        | true =>
          rw [hlv] at HIL
          go_wp2_with fail
          refine HIL.mono ?_
          rintro e w3 ⟨rfl, hg3⟩
          have q3 : w3.cell? ⟨wr.heap.size, 1, none⟩ = some (.slice (ra k) (R k).length (rc k)) := hg3.cell q1 (by simp)
          have HX3 : Hid (PhAt w w3 w.heap.size #[.slice ta tn tc, .slice na nn nc, .slice la ln lc, .int .i64 st, .slice pa pn pc]) := HX2.out.kept hg3
          have HOK : Hid (isNonI tn nn ad Lk ∧ 0 ≤ Vk ∧ Vk ≤ (ln : Int)) := by
            simp at hlf hlv
            exact ⟨hlf, hlv⟩
          clear hg3 HIL q1 q2 m0 m1 m2 m3 m4 HX2 hlf hlv
          go_wp2_with fail
          obtain ⟨len, hle⟩ : ∃ len, len = (R k).length := ⟨_, rfl⟩
          have HLE : Hid ((R k).length = len) := hle.symm
          rw [← hle] at hlen ⊢
          clear hle q3
          obtain ⟨ak, hak⟩ : ∃ ak, ak = ra k := ⟨_, rfl⟩
          rw [← hak] at HI ⊢
          clear hak
          go_loopg [33] len (fun gx i wr => ∃ x : Nat, x ≤ len ∧ gx = len - x ∧ i = .int .i64 x ∧ PhAt w wr w.heap.size #[.slice ta tn tc, .slice na nn nc, .slice la ln lc, .int .i64 st, .slice pa pn pc] ∧ ∀ y ∈ (R k).take x, isSymI tn nn ad y)
          case atStart => exact ⟨0, Nat.zero_le _, rfl, rfl, HX3.out, fun y hy => by simp at hy⟩
          case round =>
            obtain ⟨x, hx, hgx, rfl, hX, hall⟩ := hrel
            have HX : Hid (PhAt w wr w.heap.size #[.slice ta tn tc, .slice na nn nc, .slice la ln lc, .int .i64 st, .slice pa pn pc]) := hX
            have HY : Hid (∀ y ∈ (R k).take x, isSymI tn nn ad y) := hall
            have HGX : Hid (gk = len - x) := hgx
            clear hX hall hgx HX3
            by_cases hlx : x < len
            · have hxl : x < (R k).length := by rw [HLE.out]; exact hlx
              obtain ⟨bl, of2, rfl, hcs⟩ : ∃ b off, ak = some ⟨b, off, none⟩ ∧ ∀ i, i < (R k).length → wr.cell? ⟨b, off + i, none⟩ = some (.int .i64 ((R k).getD i 0)) := by
                rcases HI.out.kept HX.out.grown with h | h
                · rw [h] at hxl; simp at hxl
                · exact h
              have hch := hcs x hxl
              have hmem : (R k).getD x 0 ∈ R k := by
                have e : (R k).getD x 0 = (R k)[x] := by simp [List.getD, hxl]
                rw [e]; exact List.getElem_mem _
              have htk : (R k).take (x + 1) = (R k).take x ++ [(R k).getD x 0] := by rw [List.take_succ_eq_append_getElem hxl]; simp [List.getD, hxl]
              obtain ⟨h, hh⟩ : ∃ h, h = (R k).getD x 0 := ⟨_, rfl⟩
              rw [← hh] at hch hmem htk
              have HST : Hid (isSymI tn nn ad h → ∀ y ∈ (R k).take (x + 1), isSymI tn nn ad y) := fun hs y hy => by
                rw [htk] at hy
                rcases List.mem_append.1 hy with hy | hy
                · exact HY.out y hy
                · simp only [List.mem_singleton] at hy; rw [hy]; exact hs
              have HNO : Hid (¬ isSymI tn nn ad h → r = false) := fun hno => HRF.out fun hp => hno (hp.2.2 h hmem)
              clear hcs hmem htk hh
              obtain ⟨m0, m1, m2, m3, m4⟩ := HX.out.cells
              have HIT := isTermOf_any ta na la pa tn nn ln pn tc nc lc pc st h wr
              cases htf : (decide (0 < h) && decide (h < (tn : Int))) with
              | true =>
                rw [htf] at HIT
                have HS : Hid (∀ y ∈ (R k).take (x + 1), isSymI tn nn ad y) := HST.out (.inl (by simpa using htf))
                go_wp2_with fail
                refine HIT.mono ?_
                rintro e w4 ⟨rfl, hg4⟩
                have HX4 : Hid (PhAt w w4 w.heap.size #[.slice ta tn tc, .slice na nn nc, .slice la ln lc, .int .i64 st, .slice pa pn pc]) := HX.out.kept hg4
                clear hg4 HIT m0 m1 m2 m3 m4 HX
                go_wp2_with fail
                go_roundg (len - (x + 1))
                case measure => have := HGX.out; omega
                case rel => exact ⟨x + 1, by omega, rfl, by go_num, HX4.out, HS.out⟩
              | false =>
                rw [htf] at HIT
                go_wp2_with fail
                refine HIT.mono ?_
                rintro e w4 ⟨rfl, hg4⟩
                have HX4 : Hid (PhAt w w4 w.heap.size #[.slice ta tn tc, .slice na nn nc, .slice la ln lc, .int .i64 st, .slice pa pn pc]) := HX.out.kept hg4
                clear hg4 HIT m0 m1 m2 m3 m4 HX
                obtain ⟨m0, m1, m2, m3, m4⟩ := HX4.out.cells
                have HIN := isNonOf_any ta na la pa tn nn ln pn tc nc lc pc ad st h w4 ht hnn had
                cases hnf : (decide ((tn : Int) + ad ≤ h) && decide (h < (tn : Int) + nn)) with
                | true =>
                  rw [hnf] at HIN
                  have HS : Hid (∀ y ∈ (R k).take (x + 1), isSymI tn nn ad y) := HST.out (.inr (by simp at hnf; exact hnf))
                  go_wp2_with fail
                  refine HIN.mono ?_
                  rintro e w5 ⟨rfl, hg5⟩
                  have HX5 : Hid (PhAt w w5 w.heap.size #[.slice ta tn tc, .slice na nn nc, .slice la ln lc, .int .i64 st, .slice pa pn pc]) := HX4.out.kept hg5
                  clear hg5 HIN m0 m1 m2 m3 m4 HX4
                  go_wp2_with fail
                  go_roundg (len - (x + 1))
                  case measure => have := HGX.out; omega
                  case rel => exact ⟨x + 1, by omega, rfl, by go_num, HX5.out, HS.out⟩
                | false =>
                  rw [hnf] at HIN
                  have hf : r = false := HNO.out fun hs => by
                    rcases hs with hs | hs
                    · simp [hs] at htf
                    · have h4 : (tn : Int) + ad ≤ h ∧ h < (tn : Int) + nn := hs
                      simp [h4] at hnf
                  go_wp2_with fail
                  refine HIN.mono ?_
                  rintro e w5 ⟨rfl, hg5⟩
                  have HG5 : Hid (w.grownBy w5 none) := grown_trans HX4.out.grown hg5
                  clear hg5 HIN m0 m1 m2 m3 m4 HX4
                  go_wp2_with fail
                  go_ret
                  exact ⟨by first | rfl | (rw [hf]; rfl), HG5.out⟩
            · obtain rfl : x = len := by omega
              have ht2 : (R k).take x = R k := List.take_of_length_le (Nat.le_of_eq HLE.out)
              have HA2 : Hid (∀ j, j < k + 1 → prodOK tn nn ln ad (L j) (R j) (V j)) := fun j hj => by
                by_cases e : j = k
                · subst e
                  have h4 := HY.out
                  rw [ht2] at h4
                  rw [← HLV.out.1, ← HLV.out.2]
                  exact ⟨HOK.out.1, HOK.out.2, h4⟩
                · exact HA.out j (by omega)
              clear ht2
              go_wp2_with fail
              go_roundg (n - (k + 1))
              case measure => have := HGK.out; omega
              case rel => exact ⟨k + 1, by omega, rfl, by go_num, HX.out, HA2.out⟩
    · obtain rfl : k = n := by omega
      have hrt : r = true := HRR.out.2 HA.out
      have HG : Hid (w.grownBy wr none) := HX.out.grown
      clear HA HX
      go_wp2_with fail
      go_ret
      exact ⟨by first | rfl | (rw [hrt]; rfl), HG.out⟩

end Go.Proofs.YtckgjolaoifgkaaGreat

/-
  levelsHold itself.
-/
namespace Go.Proofs.YtckgjolaoifgkaaGreat
open Go.RowKit Go.Maps Go.Shelf

attribute [local go_sem] Oper.semAt_some

theorem isSide_any (x : Int) (w : World) : Calls Tryz.prog 69 #[.int .i64 x] w fun e w' => e = .returned (.bool (decide (1 ≤ x) && decide (x ≤ 3))) ∧ w' = w := by
  by_cases h0 : 1 ≤ x
  · have hd : decide (1 ≤ x) = true := decide_eq_true h0
    go_enter Tryz.func69, Tryz.ntmps69
    go_wp2_with fail
    go_ret
    exact ⟨by simp [h0], rfl⟩
  · have hd : decide (1 ≤ x) = false := decide_eq_false h0
    go_enter Tryz.func69, Tryz.ntmps69
    go_wp2_with fail
    go_ret
    exact ⟨by simp, rfl⟩

theorem hasLevel_any (s : ByteArray) (l i : Int) (Bi : Nat) (w : World) (hc : w.cell? ⟨Bi, 0, none⟩ = some (.int .i64 i)) (hb : 0 ≤ i ∧ i ≤ 140737488355328) :
    Calls Tryz.prog 68 #[.agg #[.string s, .int .i64 l], .pointer (some ⟨Bi, 0, none⟩)] w fun e w' => e = .returned (.bool (l == i + 1)) ∧ w.grownBy w' none := by
  have hc' : ∀ o, (w.alloc o).cell? ⟨Bi, 0, none⟩ = some (.int .i64 i) := fun o => (World.grownBy_alloc w o none).cell hc (by simp)
  go_enter Tryz.func68, Tryz.ntmps68
  go_wp2_with fail
  go_ret
  exact ⟨rfl, World.grownBy_alloc _ _ none⟩

set_option maxRecDepth 100000 in
theorem indexFunc_any (a : Option Addr) (cap Bi : Nat) (ts : List (ByteArray × Int)) (i : Int) (w : World) (hl : TermsAt w a ts) (hn : ts.length ≤ 65) (hc : w.cell? ⟨Bi, 0, none⟩ = some (.int .i64 i)) (hb : 0 ≤ i ∧ i ≤ 140737488355328) :
    Calls Tryz.prog 79 #[.slice a ts.length cap, .func (.func 68) #[] #[.pointer (some ⟨Bi, 0, none⟩)]] w fun e w' => (∃ q : Int, e = .returned (.int .i64 q) ∧ -1 ≤ q ∧ (0 ≤ q ↔ ∃ t ∈ ts, t.2 = i + 1)) ∧ w.grownBy w' none := by
  have HL : Hid (TermsAt w a ts) := hl
  obtain ⟨n, hln⟩ : ∃ n, n = ts.length := ⟨_, rfl⟩
  have HLN : Hid (ts.length = n) := hln.symm
  rw [← hln] at hn ⊢
  have HC : Hid (w.cell? ⟨Bi, 0, none⟩ = some (.int .i64 i)) := hc
  clear hl hln hc
  go_enter Tryz.func79, Tryz.ntmps79
  go_wp2_with fail
  go_loopw [8] (fun j wr => ∃ k : Nat, k ≤ n ∧ j = .int .i64 k ∧ w.grownBy wr none ∧ ¬ ∃ t ∈ ts.take k, t.2 = i + 1) (fun j _ => n - (intOf j).toNat)
  case atStart => exact ⟨0, Nat.zero_le _, rfl, grown_refl _ _, by simp⟩
  case round =>
    obtain ⟨k, hk, rfl, hg, hno⟩ := hrel
    have HG : Hid (w.grownBy wr none) := hg
    have HA : Hid (¬ ∃ t ∈ ts.take k, t.2 = i + 1) := hno
    clear hno hg
    by_cases hlt : k < n
    · have hkl : k < ts.length := by rw [HLN.out]; exact hlt
      obtain ⟨bl, off, rfl, hcells⟩ : ∃ b off, a = some ⟨b, off, none⟩ ∧ ∀ i, i < ts.length → wr.cell? ⟨b, off + i * 2, none⟩ = some (.string (ts.getD i (⟨#[]⟩, 0)).1) ∧ wr.cell? ⟨b, off + i * 2 + 1, none⟩ = some (.int .i64 (ts.getD i (⟨#[]⟩, 0)).2) := by
        rcases HL.out.kept HG.out with h | h
        · subst h; simp at hkl
        · exact h
      obtain ⟨h1, h2⟩ := hcells k hkl
      have hmem : ts.getD k (⟨#[]⟩, 0) ∈ ts := by
        have : ts.getD k (⟨#[]⟩, 0) = ts[k] := by simp [List.getD, hkl]
        rw [this]; exact List.getElem_mem _
      have htk : ts.take (k + 1) = ts.take k ++ [ts.getD k (⟨#[]⟩, 0)] := by rw [List.take_succ_eq_append_getElem hkl]; simp [List.getD, hkl]
      generalize ts.getD k (⟨#[]⟩, 0) = t at *
      obtain ⟨s, l⟩ := t
      have hH := hasLevel_any s l i Bi wr (HG.out.cell HC.out (by simp)) hb
      by_cases he : l = i + 1
      · have hbq : (l == i + 1) = true := beq_iff_eq.2 he
        have HM : Hid (∃ t ∈ ts, t.2 = i + 1) := ⟨_, hmem, he⟩
        rw [hbq] at hH
        clear hcells hmem htk he
        go_wp2_with fail
        refine hH.mono ?_
        rintro e w2 ⟨rfl, hg2⟩
        have HG2 : Hid (w.grownBy w2 none) := grown_trans HG.out hg2
        clear hH hg2
        go_wp2_with fail
        go_ret
        exact ⟨⟨k, rfl, by omega, ⟨fun _ => HM.out, fun _ => by omega⟩⟩, HG2.out⟩
      · have hbq : (l == i + 1) = false := beq_eq_false_iff_ne.2 he
        have HA' : Hid (¬ ∃ t ∈ ts.take (k + 1), t.2 = i + 1) := by
          rintro ⟨t, ht, h3⟩
          rw [htk] at ht
          rcases List.mem_append.1 ht with ht | ht
          · exact HA.out ⟨t, ht, h3⟩
          · simp only [List.mem_singleton] at ht; rw [ht] at h3; exact he h3
        rw [hbq] at hH
        clear hcells hmem htk he
        go_wp2_with fail
        refine hH.mono ?_
        rintro e w2 ⟨rfl, hg2⟩
        have HG2 : Hid (w.grownBy w2 none) := grown_trans HG.out hg2
        clear hH hg2
        go_wp2_with fail
        go_roundw
        case rel => exact ⟨k + 1, by omega, by go_num, HG2.out, HA'.out⟩
        case measure => simp [intOf]; omega
    · obtain rfl : k = n := by omega
      have ht : ts.take k = ts := List.take_of_length_le (Nat.le_of_eq HLN.out)
      rw [ht] at HA
      go_wp2_with fail
      go_ret
      exact ⟨⟨-1, rfl, by omega, ⟨fun h => absurd h (by omega), fun h => absurd h HA.out⟩⟩, HG.out⟩

theorem containsFunc_any (a : Option Addr) (cap Bi : Nat) (ts : List (ByteArray × Int)) (i : Int) (w : World) (hl : TermsAt w a ts) (hn : ts.length ≤ 65) (hc : w.cell? ⟨Bi, 0, none⟩ = some (.int .i64 i)) (hb : 0 ≤ i ∧ i ≤ 140737488355328) (r : Bool) (hr : r = true ↔ ∃ t ∈ ts, t.2 = i + 1) :
    Calls Tryz.prog 70 #[.slice a ts.length cap, .func (.func 68) #[] #[.pointer (some ⟨Bi, 0, none⟩)]] w fun e w' => e = .returned (.bool r) ∧ w.grownBy w' none := by
  have hI := indexFunc_any a cap Bi ts i w hl hn hc hb
  have HR : Hid (r = true ↔ ∃ t ∈ ts, t.2 = i + 1) := hr
  clear hl hc hr
  go_enter Tryz.func70, Tryz.ntmps70
  go_wp2_with fail
  refine hI.mono ?_
  rintro e w2 ⟨⟨q, rfl, h1, h2⟩, hg⟩
  have HQ : Hid (decide (0 ≤ q) = r) := by
    show decide (0 ≤ q) = r
    rw [Bool.eq_iff_iff, decide_eq_true_eq, h2, HR.out]
  clear h2 hI
  go_wp2_with fail
  go_ret
  exact ⟨by rw [← HQ.out]; rfl, hg⟩

end Go.Proofs.YtckgjolaoifgkaaGreat

namespace Go.Proofs.YtckgjolaoifgkaaGreat
open Go.RowKit Go.Maps Go.Shelf

attribute [local go_sem] Oper.semAt_some

def levelOK (ts : List (ByteArray × Int)) (lv : List Int) (j : Nat) : Prop := (1 ≤ lv.getD j 0 ∧ lv.getD j 0 ≤ 3) ∧ ∃ t ∈ ts, t.2 = (j : Int) + 1

set_option maxRecDepth 100000 in
set_option maxHeartbeats 1000000 in
theorem levelsHold_any (ta na la pa : Option Addr) (nn pn tc nc lc pc : Nat) (st : Int) (ts : List (ByteArray × Int)) (lv : List Int) (w : World) (hT : TermsAt w ta ts) (hL : IntsAt w la lv) (hn : ts.length ≤ 65) (hlv : lv.length ≤ 17592186044416) (r : Bool) (hr : r = true ↔ ∀ j, j < lv.length → levelOK ts lv j) :
    Calls Tryz.prog 57 #[.agg #[.slice ta ts.length tc, .slice na nn nc, .slice la lv.length lc, .int .i64 st, .slice pa pn pc]] w fun e w' => e = .returned (.bool r) ∧ w.grownBy w' none := by
  have HT : Hid (TermsAt w ta ts) := hT
  have HL : Hid (IntsAt w la lv) := hL
  obtain ⟨n, hln⟩ : ∃ n, n = lv.length := ⟨_, rfl⟩
  have HLN : Hid (lv.length = n) := hln.symm
  rw [← hln] at hlv hr ⊢
  have HRR : Hid (r = true ↔ ∀ j, j < n → levelOK ts lv j) := hr
  have HN : Hid (ts.length ≤ 65) := hn
  have HX0 : Hid (PhAt w (w.alloc (.cells #[.slice ta ts.length tc, .slice na nn nc, .slice la n lc, .int .i64 st, .slice pa pn pc] 27)) w.heap.size #[.slice ta ts.length tc, .slice na nn nc, .slice la n lc, .int .i64 st, .slice pa pn pc]) := ⟨World.grownBy_alloc _ _ none, heap_alloc_last w _⟩
  clear hT hL hr hln
  go_enter Tryz.func57, Tryz.ntmps57
  go_wp2_with fail
  go_loopw [9] (fun i wr => ∃ k : Nat, k ≤ n ∧ i = .int .i64 k ∧ PhAt w wr w.heap.size #[.slice ta ts.length tc, .slice na nn nc, .slice la n lc, .int .i64 st, .slice pa pn pc] ∧ ∀ j, j < k → levelOK ts lv j) (fun i _ => n - (intOf i).toNat)
  case atStart => exact ⟨0, Nat.zero_le _, rfl, HX0.out, fun j hj => absurd hj (Nat.not_lt_zero _)⟩
  case round =>
    obtain ⟨k, hk, rfl, hX, hall⟩ := hrel
    have HX : Hid (PhAt w wr w.heap.size #[.slice ta ts.length tc, .slice na nn nc, .slice la n lc, .int .i64 st, .slice pa pn pc]) := hX
    have HA : Hid (∀ j, j < k → levelOK ts lv j) := hall
    clear hX hall HX0
    by_cases hlt : k < n
    · have hkl : k < lv.length := by rw [HLN.out]; exact hlt
      obtain ⟨bl, off, rfl, hcells⟩ : ∃ b off, la = some ⟨b, off, none⟩ ∧ ∀ i, i < lv.length → wr.cell? ⟨b, off + i, none⟩ = some (.int .i64 (lv.getD i 0)) := by
        rcases HL.out.kept HX.out.grown with h | h
        · subst h; simp at hkl
        · exact h
      have hck := hcells k hkl
      obtain ⟨y, hy⟩ : ∃ y, y = lv.getD k 0 := ⟨_, rfl⟩
      rw [← hy] at hck
      have HY : Hid (y = lv.getD k 0) := hy
      have HRF : Hid (¬ levelOK ts lv k → r = false) := fun hno => Bool.eq_false_iff.2 fun hh => hno (HRR.out.1 hh k hlt)
      have HXA : Hid (∀ o, PhAt w (wr.alloc o) w.heap.size #[.slice ta ts.length tc, .slice na nn nc, .slice (some ⟨bl, off, none⟩) n lc, .int .i64 st, .slice pa pn pc]) := fun o => HX.out.kept (World.grownBy_alloc _ _ none)
      have k0 := fun o => (HXA.out o).cells.1
      have hIS := fun o => isSide_any y (wr.alloc o)
      have HCF : Hid (∀ r', (r' = true ↔ ∃ t ∈ ts, t.2 = (k : Int) + 1) → Calls Tryz.prog 70 #[.slice ta ts.length tc, .func (.func 68) #[] #[.pointer (some ⟨wr.heap.size, 0, none⟩)]] (wr.alloc (.cells #[.int .i64 k] 3)) fun e w' => e = .returned (.bool r') ∧ (wr.alloc (.cells #[.int .i64 k] 3)).grownBy w' none) := fun r' hr' =>
        containsFunc_any ta tc wr.heap.size ts k _ (HT.out.kept (HXA.out _).grown) HN.out (by rw [cell_of_row _ _ _ _ _ _ (heap_alloc_last wr _)]; rfl) (by omega) r' hr'
      clear hcells hy
      cases hsd : (decide (1 ≤ y) && decide (y ≤ 3)) with
      | false =>
        have hf : r = false := HRF.out fun h => by have h4 := h.1; rw [← HY.out] at h4; simp [h4] at hsd
        clear HX HCF
        go_wp2_with fail
        refine (hIS _).mono ?_
        rintro e w2 ⟨rfl, hw2⟩
        rw [hsd]
        have HG2 : Hid (w.grownBy w2 none) := by rw [hw2]; exact (HXA.out _).grown
        clear hw2 k0
        go_wp2_with fail
        go_ret
        exact ⟨by first | rfl | (rw [hf]; rfl), HG2.out⟩
      | true =>
        by_cases hex : ∃ t ∈ ts, t.2 = (k : Int) + 1
        · have hcf := HCF.out true ⟨fun _ => hex, fun _ => rfl⟩
          have HA2 : Hid (∀ j, j < k + 1 → levelOK ts lv j) := fun j hj => by
            by_cases e : j = k
            · subst e
              refine ⟨?_, hex⟩
              rw [← HY.out]
              simpa using hsd
            · exact HA.out j (by omega)
          clear HX HCF hex
          go_wp2_with (go_at_call 69; refine (hIS _).mono ?_; rintro e w2 ⟨rfl, hw2⟩; subst hw2; rw [hsd])
          refine hcf.mono ?_
          rintro e w3 ⟨rfl, hg3⟩
          have HX3 : Hid (PhAt w w3 w.heap.size #[.slice ta ts.length tc, .slice na nn nc, .slice (some ⟨bl, off, none⟩) n lc, .int .i64 st, .slice pa pn pc]) := (HXA.out _).kept hg3
          clear hg3 hcf k0 hIS
          go_wp2_with fail
          go_roundw
          case rel => exact ⟨k + 1, by omega, by go_num, HX3.out, HA2.out⟩
          case measure => simp [intOf]; omega
        · have hcf := HCF.out false ⟨fun h => absurd h (by decide), fun h => absurd h hex⟩
          have hf : r = false := HRF.out fun h => hex h.2
          clear HX HCF hex
          go_wp2_with (go_at_call 69; refine (hIS _).mono ?_; rintro e w2 ⟨rfl, hw2⟩; subst hw2; rw [hsd])
          refine hcf.mono ?_
          rintro e w3 ⟨rfl, hg3⟩
          have HG3 : Hid (w.grownBy w3 none) := grown_trans (HXA.out _).grown hg3
          clear hg3 hcf k0 hIS
          go_wp2_with fail
          go_ret
          exact ⟨by first | rfl | (rw [hf]; rfl), HG3.out⟩
    · obtain rfl : k = n := by omega
      have hrt : r = true := HRR.out.2 HA.out
      have HG : Hid (w.grownBy wr none) := HX.out.grown
      clear HA HX
      go_wp2_with fail
      go_ret
      exact ⟨by first | rfl | (rw [hrt]; rfl), HG.out⟩

end Go.Proofs.YtckgjolaoifgkaaGreat

/-
  termsHold of whatever slice.
-/
namespace Go.Proofs.YtckgjolaoifgkaaGreat
open Go.RowKit Go.Maps Go.Shelf

attribute [local go_sem] Oper.semAt_some

set_option maxRecDepth 100000 in
theorem termsHold_one (b off : Nat) (na la pa : Option Addr) (nn ln pn nc lc pc : Nat) (st : Int) (t : ByteArray × Int) (w : World) (hT : TermsAt w (some ⟨b, off, none⟩) [t]) (r : Bool) (hr : r = true ↔ termsOK [t] ln) :
    Calls Tryz.prog 55 #[.agg #[.slice (some ⟨b, off, none⟩) 1 1, .slice na nn nc, .slice la ln lc, .int .i64 st, .slice pa pn pc]] w fun e w' => e = .returned (.bool r) ∧ w.grownBy w' none := by
  obtain ⟨j0, hj, hy0, hy1, hy2⟩ := info_parts infoStr
  obtain ⟨s0, l0⟩ := t
  have hcs : w.cell? ⟨b, off, none⟩ = some (.string s0) ∧ w.cell? ⟨b, off + 1, none⟩ = some (.int .i64 l0) := by
    rcases hT with h | ⟨b', off', he, h⟩
    · cases h
    · simp only [Option.some.injEq, Addr.mk.injEq, and_true] at he
      obtain ⟨rfl, rfl⟩ := he
      have := h 0 (by simp)
      simpa using this
  have hA1 : ∀ o, (w.alloc o).cell? ⟨b, off, none⟩ = some (.string s0) := fun o => (World.grownBy_alloc w o none).cell hcs.1 (by simp)
  have hA2 : ∀ o, (w.alloc o).cell? ⟨b, off + 1, none⟩ = some (.int .i64 l0) := fun o => (World.grownBy_alloc w o none).cell hcs.2 (by simp)
  have hq := fun w => neqTerm s0 ⟨#[]⟩ l0 0 w
  have hqg : Tryz.prog.eqGuardType Tryz.prog.depth 63 = false := by kernel_rfl
  have HRR : Hid (r = true ↔ termsOK [(s0, l0)] ln) := hr
  clear hcs hT hr
  by_cases hmk : s0 = ⟨#[]⟩ ∧ l0 = 0
  · obtain ⟨rfl, rfl⟩ := hmk
    have hq' : ∀ w, (binOp .neq 63 (.agg #[.string ⟨#[]⟩, .int .i64 0]) (.agg #[.string ⟨#[]⟩, .int .i64 0])).run Tryz.prog w = .ok (.bool false) w := fun w => by rw [hq]; simp
    have hrt : r = true := HRR.out.2 ⟨[], rfl, (fun t ht => by cases ht), (by simp)⟩
    have HNT : Hid (∀ W a c, Calls Tryz.prog 66 #[.slice a 0 c] W fun e w' => e = .returned (.bool true) ∧ W.grownBy w' none) := fun W a c => (noTwoAlike_any a c [] W (.inl rfl) (by simp) (fun s hs => by cases hs)).mono fun e w' ⟨r', he, h1, h2⟩ => ⟨by rw [he, h1.2 List.nodup_nil], h2⟩
    have HBX : Hid (∀ w1, (w.alloc (.cells #[.slice (some ⟨b, off, none⟩) 1 1, .slice na nn nc, .slice la ln lc, .int .i64 st, .slice pa pn pc] 27)).grownBy w1 none → w1.heap[w.heap.size]? = some (.cells #[.slice (some ⟨b, off, none⟩) 1 1, .slice na nn nc, .slice la ln lc, .int .i64 st, .slice pa pn pc] 27 (0, 0))) := fun w1 hg => (hg.block w.heap.size (by simp) (by simp)).trans (heap_alloc_last w _)
    clear hq
    go_enter Tryz.func55, Tryz.ntmps55
    go_wp2_with (at_make; refine wpList_make_own _ rfl _ _ 23 rfl (w.heap.size + 1) 9 j0 (.string ByteArray.empty) 1 Tryz.underlying23 hj hy0 hy1 .i64 .i64 _ 0 rfl rfl (by simp) (by rw [hy2]; omega) (by unfold maxLen; omega) (by simp) ?_; intro w1 hown1 hg1; have hbx1 := HBX.out w1 hg1; have k0 := cell_of_row w1 w.heap.size 0 _ _ _ hbx1; simp only [List.getElem?_toArray, List.getElem?_cons_zero] at k0)
    have HG1 : Hid (w.grownBy w1 none) := grown_trans (World.grownBy_alloc _ _ none) hg1
    clear hown1 hg1 hbx1 hA1 hA2
    refine wp_loop_rounds 1 ?_
    rw [rounds_succ]
    go_wp2_with fail
    refine (HNT.out _ _ _).mono ?_
    rintro e w5 ⟨rfl, hg5⟩
    go_wp2_with fail
    go_ret
    exact ⟨by first | rfl | (rw [hrt]; rfl), grown_trans HG1.out hg5⟩
  · have hb : (!(s0.toList == (ByteArray.mk #[]).toList && l0 == 0)) = true := by
      rw [Bool.not_eq_true', Bool.eq_false_iff]
      intro h
      rw [Bool.and_eq_true] at h
      exact hmk ⟨(toList_empty s0).1 (by simpa using h.1), by simpa using h.2⟩
    rw [hb] at hq
    have hrf : r = false := Bool.eq_false_iff.2 fun hh => by
      obtain ⟨rest', he, _⟩ := HRR.out.1 hh
      simp at he
      exact hmk he.1
    clear hb hmk
    go_enter Tryz.func55, Tryz.ntmps55
    go_wp2_with fail
    go_ret
    exact ⟨by first | rfl | (rw [hrf]; rfl), World.grownBy_alloc _ _ none⟩

theorem termsHold_any (ta na la pa : Option Addr) (nn ln pn tc nc lc pc : Nat) (st : Int) (ts : List (ByteArray × Int)) (w : World) (hT : TermsAt w ta ts) (hn : ts.length ≤ 65) (hc : ts.length ≤ tc) (r : Bool) (hr : r = true ↔ termsOK ts ln) :
    Calls Tryz.prog 55 #[.agg #[.slice ta ts.length tc, .slice na nn nc, .slice la ln lc, .int .i64 st, .slice pa pn pc]] w fun e w' => e = .returned (.bool r) ∧ w.grownBy w' none := by
  cases hts : ts with
  | nil =>
    have : r = false := Bool.eq_false_iff.2 fun h => by
      obtain ⟨rest, he, _⟩ := hr.1 h
      rw [hts] at he; cases he
    rw [this]
    exact termsHold_none ta na la pa nn ln pn tc nc lc pc st w
  | cons t rest =>
    rw [← hts]
    have hT' := hT
    rcases hT with h | ⟨b, off, rfl, _⟩
    · rw [hts] at h; cases h
    · have hpos : 0 < ts.length := by rw [hts]; simp
      by_cases h1 : tc = 1
      · have hl1 : ts.length = 1 := by omega
        obtain ⟨t', rfl⟩ : ∃ t', ts = [t'] := by
          match ts, hl1 with
          | [t'], _ => exact ⟨t', rfl⟩
        rw [h1]
        exact termsHold_one b off na la pa nn ln pn nc lc pc st t' w hT' r hr
      · exact termsHold_some b off na la pa nn ln pn tc nc lc pc st ts w hT' hpos hn hc h1 r hr

end Go.Proofs.YtckgjolaoifgkaaGreat

/-
  inOrder, Valid: is a grammar plain?
-/
namespace Go.Proofs.YtckgjolaoifgkaaGreat
open Go.RowKit Go.Maps Go.Shelf

attribute [local go_sem] Oper.semAt_some

/-- A grammar, wherever it lies. -/
structure GAt (w : World) (ta na la pa : Option Addr) (tc nc lc pc : Nat) (ts : List (ByteArray × Int)) (ns : List ByteArray) (lv : List Int) (n : Nat) (L : Nat → Int) (R : Nat → List Int) (ra : Nat → Option Addr) (rc : Nat → Nat) (V : Nat → Int) : Prop where
  terms : TermsAt w ta ts
  nons : StrsAt w na ns
  levels : IntsAt w la lv
  prods : ProdsAt w pa n L R ra rc V
  tcap : ts.length ≤ tc
  ncap : ns.length ≤ nc
  pcap : n ≤ pc
  nnil : na = none → ns.length = 0 ∧ nc = 0
  pnil : pa = none → n = 0 ∧ pc = 0
  tlen : ts.length ≤ 17592186044416
  nlen : ns.length ≤ 17592186044416
  llen : lv.length ≤ 17592186044416
  plen : n ≤ 17592186044416

theorem GAt.kept {w w' : World} {ta na la pa : Option Addr} {tc nc lc pc : Nat} {ts : List (ByteArray × Int)} {ns : List ByteArray} {lv : List Int} {n : Nat} {L : Nat → Int} {R : Nat → List Int} {ra : Nat → Option Addr} {rc : Nat → Nat} {V : Nat → Int} (h : GAt w ta na la pa tc nc lc pc ts ns lv n L R ra rc V) (hg : w.grownBy w' none) : GAt w' ta na la pa tc nc lc pc ts ns lv n L R ra rc V := by
  refine ⟨h.terms.kept hg, h.nons.kept hg, h.levels.kept hg, ?_, h.tcap, h.ncap, h.pcap, h.nnil, h.pnil, h.tlen, h.nlen, h.llen, h.plen⟩
  rcases h.prods with h0 | ⟨b, off, ha, hc⟩
  · exact .inl h0
  · exact .inr ⟨b, off, ha, fun k hk => by
      obtain ⟨h1, h2, h3, h4, h5⟩ := hc k hk
      exact ⟨hg.cell h1 (by simp), hg.cell h2 (by simp), hg.cell h3 (by simp), h4.kept hg, h5⟩⟩

/-- All but the order. -/
structure holdsOK (ts : List (ByteArray × Int)) (ns : List ByteArray) (lv : List Int) (st : Int) (n : Nat) (L : Nat → Int) (R : Nat → List Int) (V : Nat → Int) : Prop where
  syms : (ts.length : Int) - 1 + ns.length ≤ 64
  cnt : n ≤ 96
  terms : termsOK ts lv.length
  nons : (∀ s ∈ ns, isNameB s = true) ∧ ns.Nodup
  levels : ∀ j, j < lv.length → levelOK ts lv j
  prods : ∀ i, i < n → prodOK ts.length ns.length lv.length 0 (L i) (R i) (V i)
  lefts : (leftsTo L n).length = ns.length
  start : isNonI ts.length ns.length 0 st

theorem boolOf (p : Prop) : ∃ r : Bool, r = true ↔ p := by
  by_cases h : p
  · exact ⟨true, by simp [h]⟩
  · exact ⟨false, by simp [h]⟩

end Go.Proofs.YtckgjolaoifgkaaGreat

namespace Go.Proofs.YtckgjolaoifgkaaGreat
open Go.RowKit Go.Maps Go.Shelf

attribute [local go_sem] Oper.semAt_some

def validOK (ts : List (ByteArray × Int)) (ns : List ByteArray) (lv : List Int) (st : Int) (n : Nat) (L : Nat → Int) (R : Nat → List Int) (V : Nat → Int) : Prop := holdsOK ts ns lv st n L R V ∧ Asc (leftsTo L n)

end Go.Proofs.YtckgjolaoifgkaaGreat

/-
  numbered of a builder, walked.
-/
namespace Go.Proofs.YtckgjolaoifgkaaGreat
open Go.RowKit Go.Maps Go.Shelf

def updR (R : Nat → List Int) (k : Nat) (l : List Int) : Nat → List Int := fun i => if i = k then l else R i
/-- A handle's symbol, by the symbols' row. -/
def sg (σ : Nat → Int) (h : Int) : Int := if h < 0 then σ (-h).toNat else h
def mapTo (σ : Nat → Int) (j : Nat) (l : List Int) : List Int := (l.take j).map (sg σ) ++ l.drop j

theorem NewProds.congr {w wr : World} {B n : Nat} {v : Value} {L L' : Nat → Int} {R R' : Nat → List Int} {V : Nat → Int} {rg : Nat → Value} (h : NewProds w wr B v n n L R V rg) (h1 : ∀ i, i < n → L i = L' i) (h2 : ∀ i, i < n → R i = R' i) : NewProds w wr B v n n L' R' V rg :=
  ⟨by rw [← prodRow_ext h1 (fun _ _ => rfl) (fun _ _ => rfl)]; exact h.row, fun i hi => by rw [← h2 i hi]; exact h.rights i hi, h.apart, h.disj, h.lo, h.grown⟩

/-- The stage at production k, j of its right side's symbols laid. -/
def LS (σ : Nat → Int) (L : Nat → Int) (k : Nat) : Nat → Int := fun i => if i < k then sg σ (L i) else L i
def RS (σ : Nat → Int) (R : Nat → List Int) (k j : Nat) : Nat → List Int := fun i => if i < k then (R i).map (sg σ) else if i = k then mapTo σ j (R i) else R i

end Go.Proofs.YtckgjolaoifgkaaGreat

namespace Go.Proofs.YtckgjolaoifgkaaGreat
open Go.RowKit Go.Maps Go.Shelf

attribute [local go_sem] Oper.semAt_some

end Go.Proofs.YtckgjolaoifgkaaGreat

/-
  Grammar of a builder: what is told, and the memory that it lies in.
-/
namespace Go.Proofs.YtckgjolaoifgkaaGreat
open Go.RowKit Go.Maps Go.Shelf

/-- A grammar as it is told. -/
structure GR where
  terms : List (ByteArray × Int)
  nons : List ByteArray
  levels : List Int
  start : Int
  prods : List PR

/-- A grammar in memory of its own, from block B on. -/
structure GramNew (w : World) (B : Nat) (G : GR) (vt vn vl vp : Value) : Prop where
  terms : w.ownsRow B 63 2 vt G.terms.length (tmsL G.terms)
  nons : w.ownsRow B 9 1 vn G.nons.length (G.nons.map Value.string)
  levels : w.ownsRow B 3 1 vl G.levels.length (G.levels.map (Value.int .i64))
  prods : ∃ rg : Nat → Value, w.ownsRow B 46 3 vp G.prods.length (prodRow G.prods.length (fun i => (G.prods.getD i ⟨0, [], 0⟩).left) rg (fun i => (G.prods.getD i ⟨0, [], 0⟩).level)) ∧
    ∀ i, i < G.prods.length → w.ownsRow B 3 1 (rg i) (G.prods.getD i ⟨0, [], 0⟩).right.length ((G.prods.getD i ⟨0, [], 0⟩).right.map (Value.int .i64))

theorem GramNew.kept {w w' : World} {B : Nat} {G : GR} {vt vn vl vp : Value} (h : GramNew w B G vt vn vl vp) (hg : w.grownBy w' none) : GramNew w' B G vt vn vl vp := by
  obtain ⟨rg, h1, h2⟩ := h.prods
  exact ⟨h.terms.kept hg (by cases hv : vt.ownBlock <;> simp), h.nons.kept hg (by cases hv : vn.ownBlock <;> simp), h.levels.kept hg (by cases hv : vl.ownBlock <;> simp), rg, h1.kept hg (by cases hv : vp.ownBlock <;> simp), fun i hi => (h2 i hi).kept hg (by cases hv : (rg i).ownBlock <;> simp)⟩

def BS.sym (S : BS) (i : Nat) : Int := symOf (S.terms.length + 1) (ordOf S.prods) i
def BS.first (S : BS) : Int := if S.start = 0 then (S.prods.getD 0 ⟨0, [], 0⟩).left else S.start
/-- Is there a grammar to tell? -/
def BS.tells (S : BS) : Bool := decide (0 < S.prods.length) && decide (S.nons.length ≤ (ordOf S.prods).length)
/-- The grammar that is told. -/
def BS.gram (S : BS) : GR :=
  { terms := S.tms S.terms.length, nons := (ordOf S.prods).map (fun i => S.nons.getD (i - 1) ⟨#[]⟩), levels := S.sides, start := S.sym (-S.first).toNat,
    prods := S.prods.map fun p => ⟨sg S.sym p.left, p.right.map (sg S.sym), p.level⟩ }

theorem owns_lower {w : World} {B B' e size n : Nat} {v : Value} {xs : List Value} (h : w.ownsRow B e size v n xs) (hle : B' ≤ B) : w.ownsRow B' e size v n xs := by
  refine ⟨h.1, ?_⟩
  rcases h.2 with h' | ⟨g, cap, cur, hv, hb, rest⟩
  · exact .inl h'
  · exact .inr ⟨g, cap, cur, hv, Nat.le_trans hle hb, rest⟩

end Go.Proofs.YtckgjolaoifgkaaGreat

/-
  Grammar of a builder, walked.
-/
namespace Go.Proofs.YtckgjolaoifgkaaGreat
open Go.RowKit Go.Maps Go.Shelf

attribute [local go_sem] Oper.semAt_some

/-- The zero grammar's cells. -/
def zeroGC : Array Value := #[.slice none 0 0, .slice none 0 0, .slice none 0 0, .int .i64 0, .slice none 0 0]

theorem set5_heap {w : World} {g : Nat} {t : TypeId} {a0 a1 a2 a3 a4 : Value} (h : w.heap[g]? = some (.cells #[a0, a1, a2, a3, a4] t (0, 0))) (v0 v1 v2 v3 v4 : Value) :
    (((((w.setCell ⟨g, 0, none⟩ v0).setCell ⟨g, 1, none⟩ v1).setCell ⟨g, 2, none⟩ v2).setCell ⟨g, 3, none⟩ v3).setCell ⟨g, 4, none⟩ v4).heap[g]? = some (.cells #[v0, v1, v2, v3, v4] t (0, 0)) := by
  have h0 := heap_setCell_same w g 0 _ _ v0 h
  have h1 := heap_setCell_same _ g 1 _ _ v1 h0
  have h2 := heap_setCell_same _ g 2 _ _ v2 h1
  have h3 := heap_setCell_same _ g 3 _ _ v3 h2
  exact heap_setCell_same _ g 4 _ _ v4 h3
theorem set5_grown (w : World) (g : Nat) (v0 v1 v2 v3 v4 : Value) :
    w.grownBy (((((w.setCell ⟨g, 0, none⟩ v0).setCell ⟨g, 1, none⟩ v1).setCell ⟨g, 2, none⟩ v2).setCell ⟨g, 3, none⟩ v3).setCell ⟨g, 4, none⟩ v4) (some g) :=
  grown_trans (grown_trans (grown_trans (grown_trans (grown_setCell _ _ _) (grown_setCell _ _ _)) (grown_setCell _ _ _)) (grown_setCell _ _ _)) (grown_setCell _ _ _)

end Go.Proofs.YtckgjolaoifgkaaGreat

/-
  Grammar of a builder, where there is one to tell.
-/
namespace Go.Proofs.YtckgjolaoifgkaaGreat
open Go.RowKit Go.Maps Go.Shelf

attribute [local go_sem] Oper.semAt_some

/-- The told productions, in their own memory. -/
structure PNew (W : World) (B : Nat) (v : Value) (S : BS) (rg : Nat → Value) : Prop where
  row : W.ownsRow B 46 3 v S.prods.length (prodRow S.prods.length (fun i => sg S.sym (S.prods.getD i ⟨0, [], 0⟩).left) rg (fun i => (S.prods.getD i ⟨0, [], 0⟩).level))
  rights : ∀ i, i < S.prods.length → W.ownsRow B 3 1 (rg i) ((S.prods.getD i ⟨0, [], 0⟩).right.map (sg S.sym)).length (((S.prods.getD i ⟨0, [], 0⟩).right.map (sg S.sym)).map (Value.int .i64))
theorem owns_off {W W' : World} {B e s n k : Nat} {v : Value} {xs : List Value} (h : W.ownsRow (k + 1) e s v n xs) (hst : W.grownBy W' (some k)) (hB : B ≤ k) : W'.ownsRow B e s v n xs := by
  refine owns_lower (h.kept hst ?_) (Nat.le_trans hB (Nat.le_succ k))
  cases hv : v.ownBlock with
  | none => exact .inl rfl
  | some g => have := (h.lt g hv).1; exact .inr (by simp; omega)

end Go.Proofs.YtckgjolaoifgkaaGreat

/-
  A told grammar, as Valid takes it.
-/
namespace Go.Proofs.YtckgjolaoifgkaaGreat
open Go.RowKit Go.Maps Go.Shelf

attribute [local go_sem] Oper.semAt_some

set_option maxRecDepth 100000 in
set_option maxHeartbeats 400000 in
theorem hasAdded_no (b off : Nat) (ta la pa : Option Addr) (tn nn ln pn tc nc lc pc : Nat) (st : Int) (s : ByteArray) (w : World) (hc : w.cell? ⟨b, off, none⟩ = some (.string s)) (h0 : 0 < nn) (hs : 0 < s.size) :
    Calls Tryz.prog 48 #[.agg #[.slice ta tn tc, .slice (some ⟨b, off, none⟩) nn nc, .slice la ln lc, .int .i64 st, .slice pa pn pc]] w fun e w' => e = .returned (.bool false) ∧ w.grownBy w' none := by
  have hc' : ∀ o, (w.alloc o).cell? ⟨b, off, none⟩ = some (.string s) := fun o => (World.grownBy_alloc w o none).cell hc (by simp)
  have hc2 : ∀ o, (w.alloc o).drew.cell? ⟨b, off, none⟩ = some (.string s) := fun o => hc' o
  have hd : decide (0 < (nn : Int)) = true := decide_eq_true (by omega)
  have hd' : decide (0 < nn) = true := decide_eq_true h0
  have hne : (s.toList == (ByteArray.mk #[]).toList) = false := by
    rw [Bool.eq_false_iff]
    intro h
    have := (toList_empty s).1 (by simpa using h)
    rw [this] at hs
    simp [ByteArray.size] at hs
  have hne2 : s.toList.isEmpty = false := by
    cases h : s.toList with
    | nil =>
      rw [ByteArray.toList_eq] at h
      have : s.size = 0 := by show s.data.size = 0; rw [← Array.length_toList, h]; rfl
      omega
    | cons x r => rfl
  clear hc hs
  go_enter Tryz.func48, Tryz.ntmps48
  go_wp2_with fail
  go_quiet (fail)
  go_wp2
  go_ret
  exact ⟨by first | rfl | simp, grown_trans (World.grownBy_alloc _ _ none) (grown_drewN _ _)⟩

end Go.Proofs.YtckgjolaoifgkaaGreat

namespace Go.Proofs.YtckgjolaoifgkaaGreat
open Go.RowKit Go.Maps Go.Shelf

theorem tmsL_at : ∀ (ts : List (ByteArray × Int)) (k : Nat), k < ts.length → (tmsL ts)[k * 2]? = some (.string (ts.getD k (⟨#[]⟩, 0)).1) ∧ (tmsL ts)[k * 2 + 1]? = some (.int .i64 (ts.getD k (⟨#[]⟩, 0)).2)
  | [], k, hk => by simp at hk
  | t :: ts, 0, _ => by simp [tmsL, tmL]
  | t :: ts, k + 1, hk => by
    have h := tmsL_at ts k (by simpa using hk)
    have e : tmsL (t :: ts) = [Value.string t.1, .int .i64 t.2] ++ tmsL ts := by simp [tmsL, tmL]
    rw [e]
    constructor
    · rw [List.getElem?_append_right (by simp; omega)]
      have e2 : (k + 1) * 2 - [Value.string t.1, .int .i64 t.2].length = k * 2 := by simp; omega
      rw [e2, h.1]; simp
    · rw [List.getElem?_append_right (by simp; omega)]
      have e2 : (k + 1) * 2 + 1 - [Value.string t.1, .int .i64 t.2].length = k * 2 + 1 := by simp; omega
      rw [e2, h.2]; simp

theorem owns_termsAt {w : World} {B n c : Nat} {a : Option Addr} {ts : List (ByteArray × Int)} (h : w.ownsRow B 63 2 (.slice a n c) n (tmsL ts)) (hn : n = ts.length) : TermsAt w a ts ∧ n ≤ c := by
  have h' := h
  rcases h.2 with ⟨hv, h0⟩ | ⟨g, cap, cur, hv, _, _, hle, _⟩
  · exact ⟨.inl (List.eq_nil_of_length_eq_zero (by omega)), by omega⟩
  · simp at hv
    obtain ⟨rfl, rfl⟩ := hv
    refine ⟨.inr ⟨g, 0, rfl, fun i hi => ?_⟩, hle⟩
    obtain ⟨h1, h2⟩ := tmsL_at ts i hi
    rw [Nat.zero_add]
    exact ⟨owns_cell h' h1, owns_cell h' h2⟩

theorem owns_bounds {w : World} {B e s n c : Nat} {a : Option Addr} {xs : List Value} (h : w.ownsRow B e s (.slice a n c) n xs) : n ≤ c ∧ (a = none → n = 0 ∧ c = 0) := by
  rcases h.2 with ⟨hv, h0⟩ | ⟨g, cap, cur, hv, _, _, hle, _⟩
  · simp at hv
    obtain ⟨rfl, rfl, rfl⟩ := hv
    exact ⟨Nat.le_refl _, fun _ => ⟨rfl, rfl⟩⟩
  · simp at hv
    obtain ⟨rfl, rfl⟩ := hv
    exact ⟨hle, fun h => by cases h⟩

end Go.Proofs.YtckgjolaoifgkaaGreat

/-
  Level, walked.
-/
namespace Go.Proofs.YtckgjolaoifgkaaGreat
open Go.RowKit

attribute [local go_sem] Oper.semAt_some

end Go.Proofs.YtckgjolaoifgkaaGreat

namespace Go.Proofs.YtckgjolaoifgkaaGreat
open Go.RowKit

theorem nodup_short {α : Type} [DecidableEq α] : ∀ (l m : List α), l.Nodup → (∀ x ∈ l, x ∈ m) → l.length ≤ m.length
  | [], _, _, _ => Nat.zero_le _
  | a :: l, m, hn, hs => by
    rw [List.nodup_cons] at hn
    have ha := hs a (by simp)
    have h := nodup_short l (m.erase a) hn.2 (fun x hx => (List.mem_erase_of_ne (fun e => hn.1 (by rw [← e]; exact hx))).2 (hs x (by simp [hx])))
    rw [List.length_erase_of_mem ha] at h
    have : 0 < m.length := List.length_pos_of_mem ha
    simp only [List.length_cons]
    omega

def updL (f : Nat → Int) (i : Nat) (z : Int) : Nat → Int := fun j => if j = i then z else f j
/-- The terminals' levels, once a level is told of these; none: it is refused. -/
def levGo (S : BS) (L : Int) : (Nat → Int) → List Int → Option (Nat → Int)
  | lev, [] => some lev
  | lev, h :: r => if S.isT h = true ∧ lev h.toNat = 0 then levGo S L (updL lev h.toNat L) r else none
def BS.addL (S : BS) (lev : Nat → Int) (side : Int) : BS := { S with lev := lev, sides := S.sides ++ [side] }
def BS.level (S : BS) (side : Int) (terms : List Int) : Int × Int × BS :=
  if (1 ≤ side ∧ side ≤ 3) ∧ terms ≠ [] then
    match levGo S (S.sides.length + 1) S.lev terms with
    | some lev => (S.sides.length + 1, 0, S.addL lev side)
    | none => (0, 1, S)
  else (0, 1, S)

theorem isT_iff {S : BS} {h : Int} : S.isT h = true ↔ 0 < h ∧ h ≤ S.terms.length := by simp [BS.isT]
/-- What it leaves and what it turns. -/
theorem levGo_keeps {S : BS} {L : Int} (hL : L ≠ 0) : ∀ (terms : List Int) (lev lev' : Nat → Int), levGo S L lev terms = some lev' →
    (∀ i, lev i ≠ 0 → lev' i = lev i) ∧ (∀ i, lev' i = lev i ∨ (lev' i = L ∧ 1 ≤ i ∧ i ≤ S.terms.length)) ∧ (terms ≠ [] → ∃ i, 1 ≤ i ∧ i ≤ S.terms.length ∧ lev' i = L)
  | [], lev, lev', h => by
    cases h
    exact ⟨fun _ _ => rfl, fun _ => .inl rfl, fun h => absurd rfl h⟩
  | a :: r, lev, lev', h => by
    unfold levGo at h
    split at h
    · next hc =>
      obtain ⟨h1, h2⟩ := hc
      obtain ⟨t1, t2⟩ := isT_iff.1 h1
      obtain ⟨k1, k2, _⟩ := levGo_keeps hL r _ _ h
      have hat : lev' a.toNat = L := by
        rw [k1 a.toNat (by simp [updL, hL])]
        simp [updL]
      refine ⟨fun i hi => ?_, fun i => ?_, fun _ => ⟨a.toNat, by omega, by omega, hat⟩⟩
      · have hne : i ≠ a.toNat := fun e => hi (by rw [e]; exact h2)
        have hu : updL lev a.toNat L i = lev i := by simp [updL, hne]
        rw [k1 i (by rw [hu]; exact hi), hu]
      · by_cases e : i = a.toNat
        · right
          rw [e]
          exact ⟨hat, by omega, by omega⟩
        · have hu : updL lev a.toNat L i = lev i := by simp [updL, e]
          rcases k2 i with h3 | h3
          · left; rw [h3, hu]
          · exact .inr h3
    · cases h

theorem levels_le {S : BS} {lev : Nat → Int} {n : Nat} (has : ∀ i, i < n → ∃ h, 1 ≤ h ∧ h ≤ S.terms.length ∧ lev h = (i : Int) + 1) : n ≤ S.terms.length := by
  have hnd : ((List.range n).map fun i : Nat => (i : Int) + 1).Nodup := by
    rw [List.nodup_iff_pairwise_ne, List.pairwise_map]
    exact (List.nodup_range (n := n)).imp (fun h e => h (by omega))
  have h := nodup_short ((List.range n).map fun i : Nat => (i : Int) + 1) ((List.range S.terms.length).map fun j => lev (j + 1)) hnd (fun x hx => by
    obtain ⟨i, hi, rfl⟩ := List.mem_map.1 hx
    obtain ⟨h, h1, h2, h3⟩ := has i (List.mem_range.1 hi)
    exact List.mem_map.2 ⟨h - 1, List.mem_range.2 (by omega), by rw [show h - 1 + 1 = h by omega]; exact h3⟩)
  simpa using h

theorem BS.OK.addL {S : BS} (h : S.OK) {side : Int} {terms : List Int} {lev : Nat → Int} (hs : 1 ≤ side ∧ side ≤ 3) (ht : terms ≠ []) (hl : levGo S (S.sides.length + 1) S.lev terms = some lev) : (S.addL lev side).OK := by
  obtain ⟨k1, k2, k3⟩ := levGo_keeps (by omega) terms S.lev lev hl
  have hlen : (S.sides ++ [side]).length = S.sides.length + 1 := by simp
  have hhas : ∀ i, i < (S.sides ++ [side]).length → ∃ h, 1 ≤ h ∧ h ≤ S.terms.length ∧ lev h = (i : Int) + 1 := fun i hi => by
    rw [hlen] at hi
    by_cases e : i = S.sides.length
    · obtain ⟨j, j1, j2, j3⟩ := k3 ht
      exact ⟨j, j1, j2, by rw [j3, e]⟩
    · obtain ⟨j, j1, j2, j3⟩ := h.has i (by omega)
      exact ⟨j, j1, j2, by rw [k1 j (by rw [j3]; omega), j3]⟩
  have hle := levels_le hhas
  have hsy := h.syms
  refine { syms := h.syms, tnames := h.tnames, nnames := h.nnames, tnd := h.tnd, nnd := h.nnd, sides := by show (S.sides ++ [side]).length ≤ 64; omega, sdv := ?_, prods := h.prods, lev := ?_, lev0 := ?_, levT := ?_, has := hhas, pl := h.pl, pr := h.pr, plen := h.plen, pv := ?_, st := h.st }
  · intro x hx
    rcases List.mem_append.1 (show x ∈ S.sides ++ [side] from hx) with hx | hx
    · exact h.sdv x hx
    · rw [List.mem_singleton.1 hx]; exact hs
  · intro i
    show 0 ≤ lev i ∧ lev i ≤ ((S.sides ++ [side]).length : Int)
    have hi := h.lev i
    rw [hlen]
    rcases k2 i with e | ⟨e, _, _⟩
    · rw [e]; omega
    · rw [e]; omega
  · show lev 0 = 0
    rcases k2 0 with e | ⟨_, e, _⟩
    · rw [e]; exact h.lev0
    · omega
  · intro j hj
    show lev j = 0
    rcases k2 j with e | ⟨_, _, e⟩
    · rw [e]; exact h.levT j hj
    · have hj' : S.terms.length < j := hj
      omega
  · intro p hp
    have := h.pv p hp
    show 0 ≤ p.level ∧ p.level ≤ ((S.sides ++ [side]).length : Int)
    rw [hlen]
    omega
theorem BS.OK.level {S : BS} (h : S.OK) (side : Int) (terms : List Int) : (S.level side terms).2.2.OK := by
  unfold BS.level
  split
  · next hc =>
    split
    · next lev hl => exact h.addL hc.1 hc.2 hl
    · exact h
  · exact h

end Go.Proofs.YtckgjolaoifgkaaGreat

namespace Go.Proofs.YtckgjolaoifgkaaGreat
open Go.RowKit

attribute [local go_sem] Oper.semAt_some

/-- A row of the terminals' levels. -/
def IsLev (A : Array Value) (f : Nat → Int) : Prop := A.size = 65 ∧ ∀ i, i < 65 → A[i]? = some (.int .i64 (f i))
def levRow (f : Nat → Int) : List Value := (List.range 65).map fun i => .int .i64 (f i)
theorem IsLev.set {A : Array Value} {f : Nat → Int} (h : IsLev A f) (m : Nat) (L : Int) : IsLev (A.setIfInBounds m (.int .i64 L)) (updL f m L) := by
  refine ⟨by simp [h.1], fun i hi => ?_⟩
  by_cases e : i = m
  · subst e
    simp [updL, h.1, hi]
  · rw [Array.getElem?_setIfInBounds_ne (fun x => e x.symm), h.2 i hi]
    simp [updL, e]
def putL (c : Nat → Value) (o : Nat) (vs : List Value) : Nat → Value := fun i => if o ≤ i ∧ i < o + vs.length then vs.getD (i - o) undef else c i
end Go.Proofs.YtckgjolaoifgkaaGreat

/-
  Grade, walked.
-/
namespace Go.Proofs.YtckgjolaoifgkaaGreat
open Go.RowKit

def setLev (ps : List PR) (i : Nat) (l : Int) : List PR := ps.set i { ps.getD i ⟨0, [], 0⟩ with level := l }
def gradeGo (l : Int) : List PR → List Int → Option (List PR)
  | ps, [] => some ps
  | ps, h :: r => if 0 ≤ h ∧ h < ps.length then gradeGo l (setLev ps h.toNat l) r else none
def BS.grade (S : BS) (l : Int) (hs : List Int) : Int × BS :=
  if 0 ≤ l ∧ l ≤ S.sides.length then
    match gradeGo l S.prods hs with
    | some ps => (0, { S with prods := ps })
    | none => (1, S)
  else (1, S)
/-- As it was, but for its level. -/
def Graded (l : Int) (ps ps' : List PR) : Prop := ps'.length = ps.length ∧ ∀ i, i < ps.length → (ps'.getD i ⟨0, [], 0⟩).left = (ps.getD i ⟨0, [], 0⟩).left ∧ (ps'.getD i ⟨0, [], 0⟩).right = (ps.getD i ⟨0, [], 0⟩).right ∧ ((ps'.getD i ⟨0, [], 0⟩).level = (ps.getD i ⟨0, [], 0⟩).level ∨ (ps'.getD i ⟨0, [], 0⟩).level = l)
theorem Graded.refl (l : Int) (ps : List PR) : Graded l ps ps := ⟨rfl, fun _ _ => ⟨rfl, rfl, .inl rfl⟩⟩
theorem Graded.set {l : Int} {ps ps' : List PR} (h : Graded l ps ps') {k : Nat} (hk : k < ps.length) : Graded l ps (setLev ps' k l) := by
  refine ⟨by simp [setLev, h.1], fun i hi => ?_⟩
  obtain ⟨h1, h2, h3⟩ := h.2 i hi
  have hi' : i < ps'.length := by rw [h.1]; exact hi
  by_cases e : i = k
  · subst e
    have : (setLev ps' i l).getD i ⟨0, [], 0⟩ = { ps'.getD i ⟨0, [], 0⟩ with level := l } := by simp [setLev, List.getD, hi']
    rw [this]
    exact ⟨h1, h2, .inr rfl⟩
  · have : (setLev ps' k l).getD i ⟨0, [], 0⟩ = ps'.getD i ⟨0, [], 0⟩ := by simp [setLev, List.getD, show ¬ k = i from fun x => e x.symm]
    rw [this]
    exact ⟨h1, h2, h3⟩
theorem Graded.mem {l : Int} {ps ps' : List PR} (h : Graded l ps ps') {p : PR} (hp : p ∈ ps') : ∃ q ∈ ps, p.left = q.left ∧ p.right = q.right ∧ (p.level = q.level ∨ p.level = l) := by
  obtain ⟨i, hi, rfl⟩ := List.getElem_of_mem hp
  have hi' : i < ps.length := by rw [← h.1]; exact hi
  have := h.2 i hi'
  rw [show ps'.getD i ⟨0, [], 0⟩ = ps'[i] by simp [List.getD, hi], show ps.getD i ⟨0, [], 0⟩ = ps[i] by simp [List.getD, hi']] at this
  exact ⟨ps[i], List.getElem_mem hi', this⟩
end Go.Proofs.YtckgjolaoifgkaaGreat

namespace Go.Proofs.YtckgjolaoifgkaaGreat
open Go.RowKit

attribute [local go_sem] Oper.semAt_some

end Go.Proofs.YtckgjolaoifgkaaGreat

/-
  The document's builder in memory: four lists of its own and the start symbol; what its steps leave.
-/
namespace Go.Proofs.YtckgjolaoifgkaaGreat
open Go.RowKit

theorem owns_ne {w : World} {B B' e e' s s' n n' : Nat} {v v' : Value} {xs xs' : List Value} (h : w.ownsRow B e s v n xs) (h' : w.ownsRow B' e' s' v' n' xs') (he : e ≠ e') : v.ownBlock = none ∨ v.ownBlock ≠ v'.ownBlock := by
  rcases h.2 with ⟨rfl, _⟩ | ⟨g, cap, cur, rfl, _, hg, _⟩
  · exact .inl rfl
  · right
    intro hh
    rcases h'.2 with ⟨rfl, _⟩ | ⟨g', cap', cur', rfl, _, hg', _⟩
    · cases hh
    · have : g = g' := by simpa [Value.ownBlock] using hh
      rw [this, hg'] at hg
      simp at hg
      exact he hg.2.symm
theorem owns_nebox {w : World} {B e e' s n r : Nat} {v : Value} {xs : List Value} {cs : Array Value} (h : w.ownsRow B e s v n xs) (hr : w.heap[r]? = some (.cells cs e' (0, 0))) (he : e ≠ e') : v.ownBlock = none ∨ v.ownBlock ≠ some r := by
  rcases h.2 with ⟨rfl, _⟩ | ⟨g, cap, cur, rfl, _, hg, _⟩
  · exact .inl rfl
  · right
    intro hh
    have : g = r := by simpa [Value.ownBlock] using hh
    rw [this, hr] at hg
    simp at hg
    exact he hg.2.symm

/-- The terminals with their levels. -/
def rts (S : BS) : List (ByteArray × Int) := (List.range S.terms.length).map fun j => (S.terms.getD j ⟨#[]⟩, S.lev (j + 1))
theorem none_ne {o row : Option Nat} (h : row = none) : o = none ∨ o ≠ row := by
  cases o with
  | none => exact .inl rfl
  | some g => right; rw [h]; simp
end Go.Proofs.YtckgjolaoifgkaaGreat

/-
  lr0: items, in memory; the small functions.
-/
namespace Go.Proofs.YtckgjolaoifgkaaGreat.J
open Go.RowKit Go.Maps Go.Shelf

attribute [local go_sem] Oper.semAt_some

/-- An item: a production and a dot. -/
abbrev It := Int × Int
def encIt (x : It) : List Value := [.int .i64 x.1, .int .i64 x.2]
/-- Items, as cells. -/
def itsV (l : List It) : List Value := l.flatMap encIt
theorem itsV_cons (x : It) (l : List It) : itsV (x :: l) = .int .i64 x.1 :: .int .i64 x.2 :: itsV l := rfl
theorem itsV_append (l m : List It) : itsV (l ++ m) = itsV l ++ itsV m := by unfold itsV; rw [List.flatMap_append]
theorem itsV_length (l : List It) : (itsV l).length = l.length * 2 := by
  induction l with
  | nil => rfl
  | cons x l ih => rw [itsV_cons]; simp [ih]; omega
theorem itsV_at : ∀ (l : List It) (i : Nat), i < l.length → (itsV l)[i * 2]? = some (.int .i64 (l.getD i (0, 0)).1) ∧ (itsV l)[i * 2 + 1]? = some (.int .i64 (l.getD i (0, 0)).2)
  | [], i, h => absurd h (Nat.not_lt_zero _)
  | x :: l, 0, _ => ⟨rfl, rfl⟩
  | x :: l, i + 1, h => by
    have ih := itsV_at l i (by simpa using h)
    rw [itsV_cons, show (i + 1) * 2 = i * 2 + 1 + 1 by omega]
    simpa using ih
theorem itsV_one (l : List It) : ∀ u ∈ itsV l, u.oneCell' = true := by
  induction l with
  | nil => intro u h; cases h
  | cons x l ih =>
    intro u h
    rw [itsV_cons] at h
    simp only [List.mem_cons] at h
    rcases h with rfl | rfl | h
    · rfl
    · rfl
    · exact ih u h

/-- Items that can be read. -/
def ItsAt (X : World) (a : Option Addr) (l : List It) : Prop := l = [] ∨ ∃ b off, a = some ⟨b, off, none⟩ ∧ ∀ i, i < l.length → X.cell? ⟨b, off + i * 2, none⟩ = some (.int .i64 (l.getD i (0, 0)).1) ∧ X.cell? ⟨b, off + i * 2 + 1, none⟩ = some (.int .i64 (l.getD i (0, 0)).2)
theorem ItsAt.kept {X Y : World} {a : Option Addr} {l : List It} (h : ItsAt X a l) (hg : X.grownBy Y none) : ItsAt Y a l := by
  rcases h with h | ⟨b, off, e, h⟩
  · exact .inl h
  · exact .inr ⟨b, off, e, fun i hi => ⟨hg.cell (h i hi).1 (by simp), hg.cell (h i hi).2 (by simp)⟩⟩
theorem ItsAt.of {X : World} {B c : Nat} {a : Option Addr} {l : List It} (h : X.ownsRow B 68 2 (.slice a l.length c) l.length (itsV l)) : ItsAt X a l := by
  rcases h.2 with ⟨h', h2⟩ | ⟨g, cap, cur, hv, hB, hh, _, _, hs, ht⟩
  · left
    exact List.eq_nil_of_length_eq_zero h2
  · right
    simp only [Value.slice.injEq] at hv
    refine ⟨g, 0, hv.1, fun i hi => ?_⟩
    obtain ⟨h3, h4⟩ := itsV_at l i hi
    rw [← ht, List.getElem?_take, if_pos (by omega)] at h3 h4
    rw [Nat.zero_add, cell_of_row _ _ _ _ _ _ hh, cell_of_row _ _ _ _ _ _ hh]
    exact ⟨by simpa using h3, by simpa using h4⟩

/-- Is it an item of n productions? -/
def itB (n : Nat) (R : Nat → List Int) (x : It) : Bool := decide (0 ≤ x.1) && decide (x.1 < (n : Int)) && decide (0 ≤ x.2) && decide (x.2 ≤ ((R x.1.toNat).length : Int))
/-- The symbol behind an item's dot. -/
def aheadV (R : Nat → List Int) (x : It) : Int := if x.2 = ((R x.1.toNat).length : Int) then -1 else (R x.1.toNat).getD x.2.toNat 0

section
variable (ta na la pa : Option Addr) (tc nc lc pc : Nat) (ts : List (ByteArray × Int)) (ns : List ByteArray) (lv : List Int) (n : Nat) (L : Nat → Int) (R : Nat → List Int) (ra : Nat → Option Addr) (rc : Nat → Nat) (V : Nat → Int) (st : Int) (w : World) (tn nn ln : Nat)

theorem symbols_any (htn : tn ≤ 1000000) (hnn : nn ≤ 1000000) : Calls Tryz.prog 73 #[.agg #[.slice ta tn tc, .slice na nn nc, .slice la ln lc, .int .i64 st, .slice pa n pc]] w fun e y => e = .returned (.int .i64 ((tn : Int) + nn)) ∧ w.grownBy y none := by
  have HG0 : Hid (w.grownBy (w.alloc (.cells #[.slice ta tn tc, .slice na nn nc, .slice la ln lc, .int .i64 st, .slice pa n pc] 27)) none) := World.grownBy_alloc _ _ none
  go_enter Tryz.func73, Tryz.ntmps73
  go_wp2_with fail
  go_ret
  exact ⟨rfl, HG0.out⟩

set_option maxRecDepth 100000 in
set_option maxHeartbeats 1000000 in
theorem ahead_any (hP : ProdsAt w pa n L R ra rc V) (x : It) (hx : itB n R x = true) : Calls Tryz.prog 75 #[.agg #[.slice ta tn tc, .slice na nn nc, .slice la ln lc, .int .i64 st, .slice pa n pc], .agg #[.int .i64 x.1, .int .i64 x.2]] w fun e y => e = .returned (.int .i64 (aheadV R x)) ∧ w.grownBy y none := by
  obtain ⟨p, d⟩ := x
  simp only
  have HG0 : Hid (w.grownBy ((w.alloc (.cells #[.slice ta tn tc, .slice na nn nc, .slice la ln lc, .int .i64 st, .slice pa n pc] 27)).alloc (.cells #[.int .i64 p, .int .i64 d] 68)) none) := grown_trans (World.grownBy_alloc _ _ none) (World.grownBy_alloc _ _ none)
  unfold itB at hx
  simp only [Bool.and_eq_true, decide_eq_true_eq] at hx
  obtain ⟨⟨⟨h0, h1⟩, h2⟩, h3⟩ := hx
  obtain ⟨k, rfl⟩ : ∃ k : Nat, p = (k : Int) := ⟨p.toNat, by omega⟩
  obtain ⟨j, rfl⟩ : ∃ j : Nat, d = (j : Int) := ⟨d.toNat, by omega⟩
  rw [Int.toNat_natCast] at h3
  have hkn : k < n := by omega
  obtain ⟨bp, op, rfl, hp, hI, hrb⟩ : ∃ bp op, pa = some ⟨bp, op, none⟩ ∧ w.cell? ⟨bp, op + k * 3 + 1, none⟩ = some (.slice (ra k) (R k).length (rc k)) ∧ IntsAt w (ra k) (R k) ∧ (R k).length ≤ 17592186044416 := by
    rcases hP with h | ⟨bp, op, e, h⟩
    · omega
    · exact ⟨bp, op, e, (h k hkn).2.1, (h k hkn).2.2.2.1, (h k hkn).2.2.2.2.2⟩
  have hk0 : (0 : Int) ≤ (k : Int) := by omega
  have hk1 : (k : Int) < (n : Int) := by omega
  obtain ⟨rl, hrl⟩ : ∃ r, r = (R k).length := ⟨_, rfl⟩
  rw [← hrl] at hp hrb h3
  have p1 : ((w.alloc (.cells #[.slice ta tn tc, .slice na nn nc, .slice la ln lc, .int .i64 st, .slice (some ⟨bp, op, none⟩) n pc] 27)).alloc (.cells #[.int .i64 (k : Int), .int .i64 (j : Int)] 68)).cell? ⟨bp, op + k * 3 + 1, none⟩ = some (.slice (ra k) rl (rc k)) := HG0.out.cell hp (by simp)
  by_cases he : j = rl
  · have hd : ((j : Int) == (rl : Int)) = true := beq_iff_eq.2 (by omega)
    have hd2 : (j == rl) = true := beq_iff_eq.2 he
    have HR : Hid (aheadV R ((k : Int), (j : Int)) = -1) := by
      show _ = _
      unfold aheadV
      rw [if_pos (by simp only [Int.toNat_natCast]; rw [← hrl]; omega)]
    clear hP hp hI hrl he h3
    go_enter Tryz.func75, Tryz.ntmps75
    go_wp2_with fail
    go_ret
    exact ⟨by rw [HR.out]; rfl, HG0.out⟩
  · have hjl : j < rl := by omega
    have hd : ((j : Int) == (rl : Int)) = false := beq_eq_false_iff_ne.2 (by omega)
    have hd2 : (j == rl) = false := beq_eq_false_iff_ne.2 he
    have hj0 : (0 : Int) ≤ (j : Int) := by omega
    have hj1 : (j : Int) < (rl : Int) := by omega
    obtain ⟨rb, ro, hrk, hc⟩ : ∃ rb ro, ra k = some ⟨rb, ro, none⟩ ∧ w.cell? ⟨rb, ro + j, none⟩ = some (.int .i64 ((R k).getD j 0)) := by
      rcases hI with h | ⟨b, off, e, h⟩
      · rw [hrl, h] at hjl; cases hjl
      · exact ⟨b, off, e, h j (by rw [← hrl]; exact hjl)⟩
    rw [hrk] at p1
    have c1 : ((w.alloc (.cells #[.slice ta tn tc, .slice na nn nc, .slice la ln lc, .int .i64 st, .slice (some ⟨bp, op, none⟩) n pc] 27)).alloc (.cells #[.int .i64 (k : Int), .int .i64 (j : Int)] 68)).cell? ⟨rb, ro + j, none⟩ = some (.int .i64 ((R k).getD j 0)) := HG0.out.cell hc (by simp)
    have HR : Hid (aheadV R ((k : Int), (j : Int)) = (R k).getD j 0) := by
      show _ = _
      unfold aheadV
      rw [if_neg (by simp only [Int.toNat_natCast]; rw [← hrl]; omega)]
      simp only [Int.toNat_natCast]
    obtain ⟨z, hz⟩ : ∃ z, z = (R k).getD j 0 := ⟨_, rfl⟩
    rw [← hz] at c1 HR
    clear hP hp hI hrl he hc hz hrk h3
    go_enter Tryz.func75, Tryz.ntmps75
    go_wp2_with fail
    go_ret
    exact ⟨by rw [HR.out]; rfl, HG0.out⟩
end

end Go.Proofs.YtckgjolaoifgkaaGreat.J

/-
  awake, walked.
-/
namespace Go.Proofs.YtckgjolaoifgkaaGreat
open Go.RowKit Go.Maps Go.Shelf

def SA : BS := (BS.zero.term ⟨#[43]⟩).2.2
def SB : BS := (SA.non ⟨#[101]⟩).2.2
def SC : BS := (SB.rule (-1) [-1, 1]).2.2
end Go.Proofs.YtckgjolaoifgkaaGreat

namespace Go.Proofs.YtckgjolaoifgkaaGreat
open Go.RowKit Go.Maps Go.Shelf

attribute [local go_sem] Oper.semAt_some

end Go.Proofs.YtckgjolaoifgkaaGreat

/-
  Lists that are compared: slices.Equal of numbers, texts, terminals; the document's SameInts.
-/
namespace Go.Proofs.YtckgjolaoifgkaaGreat
open Go.RowKit Go.Maps Go.Shelf

attribute [local go_sem] Oper.semAt_some

theorem list_same {α : Type} (d : α) {l m : List α} (hn : l.length = m.length) (h : ∀ i, i < l.length → l.getD i d = m.getD i d) : l = m := by
  apply List.ext_getElem hn
  intro i h1 h2
  have := h i h1
  simpa [List.getD, h1, h2] using this
theorem bytes_toList (s t : ByteArray) : (s.toList = t.toList) ↔ s = t := by
  rw [ByteArray.toList_eq, ByteArray.toList_eq]
  exact ⟨bytes_ext, fun h => by rw [h]⟩

set_option maxRecDepth 100000 in
set_option maxHeartbeats 1000000 in
theorem equalInt_any (a1 a2 : Option Addr) (c1 c2 : Nat) (l1 l2 : List Int) (w : World) (h1 : IntsAt w a1 l1) (h2 : IntsAt w a2 l2) (hb : l1.length ≤ 17592186044416) (r : Bool) (hr : r = true ↔ l1 = l2) :
    Calls Tryz.prog 63 #[.slice a1 l1.length c1, .slice a2 l2.length c2] w fun e w' => e = .returned (.bool r) ∧ ∃ q, w' = w.drewN q := by
  have H1 : Hid (IntsAt w a1 l1) := h1
  have H2 : Hid (IntsAt w a2 l2) := h2
  have HRT : Hid (l1.length = l2.length → (∀ i, i < l1.length → l1.getD i 0 = l2.getD i 0) → r = true) := fun hn h => hr.2 (list_same 0 hn h)
  have HRF : Hid (∀ i, l1.getD i 0 ≠ l2.getD i 0 → r = false) := fun i h => Bool.eq_false_iff.2 fun hh => h (by rw [hr.1 hh])
  have HRN : Hid (l1.length ≠ l2.length → r = false) := fun h => Bool.eq_false_iff.2 fun hh => h (by rw [hr.1 hh])
  obtain ⟨n, hn⟩ : ∃ n, n = l1.length := ⟨_, rfl⟩
  obtain ⟨m, hm⟩ : ∃ m, m = l2.length := ⟨_, rfl⟩
  have HN : Hid (l1.length = n ∧ l2.length = m) := ⟨hn.symm, hm.symm⟩
  rw [← hn] at hb ⊢
  rw [← hm]
  clear h1 h2 hr hn hm
  by_cases hnm : n = m
  · subst hnm
    go_enter Tryz.func63, Tryz.ntmps63
    go_wp2_with fail
    go_loopw [13] (fun i wr => ∃ k : Nat, k ≤ n ∧ i = .int .i64 k ∧ (∃ q, wr = w.drewN q) ∧ ∀ j, j < k → l1.getD j 0 = l2.getD j 0) (fun i _ => n - (intOf i).toNat)
    case atStart => exact ⟨0, Nat.zero_le _, rfl, ⟨0, rfl⟩, fun j hj => by omega⟩
    case round =>
      obtain ⟨k, hk, rfl, ⟨q, rfl⟩, hall⟩ := hrel
      have HA : Hid (∀ j, j < k → l1.getD j 0 = l2.getD j 0) := hall
      clear hall
      by_cases hlt : k < n
      · obtain ⟨b1, o1, rfl, hc1⟩ : ∃ b off, a1 = some ⟨b, off, none⟩ ∧ ∀ i, i < l1.length → w.cell? ⟨b, off + i, none⟩ = some (.int .i64 (l1.getD i 0)) := by
          rcases H1.out with h | h
          · have := HN.out.1; subst h; simp at this; omega
          · exact h
        obtain ⟨b2, o2, rfl, hc2⟩ : ∃ b off, a2 = some ⟨b, off, none⟩ ∧ ∀ i, i < l2.length → w.cell? ⟨b, off + i, none⟩ = some (.int .i64 (l2.getD i 0)) := by
          rcases H2.out with h | h
          · have := HN.out.2; subst h; simp at this; omega
          · exact h
        have d1 := hc1 k (by rw [HN.out.1]; exact hlt)
        have d2 := hc2 k (by rw [HN.out.2]; exact hlt)
        have HF : Hid (l1.getD k 0 ≠ l2.getD k 0 → r = false) := HRF.out k
        have HS : Hid (l1.getD k 0 = l2.getD k 0 → ∀ j, j < k + 1 → l1.getD j 0 = l2.getD j 0) := fun h j hj => by
          by_cases e : j = k
          · rw [e]; exact h
          · exact HA.out j (by omega)
        clear hc1 hc2
        generalize l1.getD k 0 = x at *
        generalize l2.getD k 0 = y at *
        by_cases hxy : x = y
        · have hd : (x != y) = false := by simp [hxy]
          have HS' := HS.out hxy
          have HS2 : Hid (∀ j, j < k + 1 → l1.getD j 0 = l2.getD j 0) := HS'
          clear hxy HS' HS HF
          go_wp2_with fail
          go_quiet (fail)
          go_wp2
          go_roundw
          case rel => exact ⟨k + 1, by omega, by go_num, ⟨_, rfl⟩, HS2.out⟩
          case measure => simp [intOf]; omega
        · have hd : (x != y) = true := by simp [hxy]
          have hrf := HF.out hxy
          clear hxy HS HF
          go_wp2_with fail
          go_quiet (fail)
          go_wp2
          go_ret
          exact ⟨by rw [hrf]; rfl, q + nq, by simp⟩
      · obtain rfl : k = n := by omega
        have hrt : r = true := HRT.out (by rw [HN.out.1, HN.out.2]) fun i hi => HA.out i (by rw [← HN.out.1]; exact hi)
        go_wp2_with fail
        go_ret
        exact ⟨by rw [hrt]; rfl, q, rfl⟩
  · have hd : ((n : Int) != (m : Int)) = true := by simp; omega
    have hrf : r = false := HRN.out (by rw [HN.out.1, HN.out.2]; exact hnm)
    clear hnm
    go_enter Tryz.func63, Tryz.ntmps63
    go_wp2_with fail
    go_ret
    exact ⟨by rw [hrf]; rfl, 0, rfl⟩

set_option maxRecDepth 100000 in
set_option maxHeartbeats 1000000 in
theorem sameInts_any (a1 a2 : Option Addr) (c1 c2 : Nat) (l1 l2 : List Int) (w : World) (h1 : IntsAt w a1 l1) (h2 : IntsAt w a2 l2) (hb : l1.length ≤ 17592186044416) (r : Bool) (hr : r = true ↔ l1 = l2) :
    Calls Tryz.prog 21 #[.slice a1 l1.length c1, .slice a2 l2.length c2] w fun e w' => e = .returned (.bool r) ∧ ∃ q, w' = w.drewN q := by
  have H1 : Hid (IntsAt w a1 l1) := h1
  have H2 : Hid (IntsAt w a2 l2) := h2
  have HRT : Hid (l1.length = l2.length → (∀ i, i < l1.length → l1.getD i 0 = l2.getD i 0) → r = true) := fun hn h => hr.2 (list_same 0 hn h)
  have HRF : Hid (∀ i, l1.getD i 0 ≠ l2.getD i 0 → r = false) := fun i h => Bool.eq_false_iff.2 fun hh => h (by rw [hr.1 hh])
  have HRN : Hid (l1.length ≠ l2.length → r = false) := fun h => Bool.eq_false_iff.2 fun hh => h (by rw [hr.1 hh])
  obtain ⟨n, hn⟩ : ∃ n, n = l1.length := ⟨_, rfl⟩
  obtain ⟨m, hm⟩ : ∃ m, m = l2.length := ⟨_, rfl⟩
  have HN : Hid (l1.length = n ∧ l2.length = m) := ⟨hn.symm, hm.symm⟩
  rw [← hn] at hb ⊢
  rw [← hm]
  clear h1 h2 hr hn hm
  by_cases hnm : n = m
  · subst hnm
    go_enter Tryz.func21, Tryz.ntmps21
    go_wp2_with fail
    go_loopw [5] (fun i wr => ∃ k : Nat, k ≤ n ∧ i = .int .i64 k ∧ (∃ q, wr = w.drewN q) ∧ ∀ j, j < k → l1.getD j 0 = l2.getD j 0) (fun i _ => n - (intOf i).toNat)
    case atStart => exact ⟨0, Nat.zero_le _, rfl, ⟨0, rfl⟩, fun j hj => by omega⟩
    case round =>
      obtain ⟨k, hk, rfl, ⟨q, rfl⟩, hall⟩ := hrel
      have HA : Hid (∀ j, j < k → l1.getD j 0 = l2.getD j 0) := hall
      clear hall
      by_cases hlt : k < n
      · obtain ⟨b1, o1, rfl, hc1⟩ : ∃ b off, a1 = some ⟨b, off, none⟩ ∧ ∀ i, i < l1.length → w.cell? ⟨b, off + i, none⟩ = some (.int .i64 (l1.getD i 0)) := by
          rcases H1.out with h | h
          · have := HN.out.1; subst h; simp at this; omega
          · exact h
        obtain ⟨b2, o2, rfl, hc2⟩ : ∃ b off, a2 = some ⟨b, off, none⟩ ∧ ∀ i, i < l2.length → w.cell? ⟨b, off + i, none⟩ = some (.int .i64 (l2.getD i 0)) := by
          rcases H2.out with h | h
          · have := HN.out.2; subst h; simp at this; omega
          · exact h
        have d1 := hc1 k (by rw [HN.out.1]; exact hlt)
        have d2 := hc2 k (by rw [HN.out.2]; exact hlt)
        have HF : Hid (l1.getD k 0 ≠ l2.getD k 0 → r = false) := HRF.out k
        have HS : Hid (l1.getD k 0 = l2.getD k 0 → ∀ j, j < k + 1 → l1.getD j 0 = l2.getD j 0) := fun h j hj => by
          by_cases e : j = k
          · rw [e]; exact h
          · exact HA.out j (by omega)
        clear hc1 hc2
        generalize l1.getD k 0 = x at *
        generalize l2.getD k 0 = y at *
        by_cases hxy : x = y
        · have hd : (x != y) = false := by simp [hxy]
          have HS' := HS.out hxy
          have HS2 : Hid (∀ j, j < k + 1 → l1.getD j 0 = l2.getD j 0) := HS'
          clear hxy HS' HS HF
          go_wp2_with fail
          go_quiet (fail)
          go_wp2
          go_roundw
          case rel => exact ⟨k + 1, by omega, by go_num, ⟨_, rfl⟩, HS2.out⟩
          case measure => simp [intOf]; omega
        · have hd : (x != y) = true := by simp [hxy]
          have hrf := HF.out hxy
          clear hxy HS HF
          go_wp2_with fail
          go_quiet (fail)
          go_wp2
          go_ret
          exact ⟨by rw [hrf]; rfl, q + nq, by simp⟩
      · obtain rfl : k = n := by omega
        have hrt : r = true := HRT.out (by rw [HN.out.1, HN.out.2]) fun i hi => HA.out i (by rw [← HN.out.1]; exact hi)
        go_wp2_with fail
        go_ret
        exact ⟨by rw [hrt]; rfl, q, rfl⟩
  · have hd : ((n : Int) != (m : Int)) = true := by simp; omega
    have hrf : r = false := HRN.out (by rw [HN.out.1, HN.out.2]; exact hnm)
    clear hnm
    go_enter Tryz.func21, Tryz.ntmps21
    go_wp2_with fail
    go_ret
    exact ⟨by rw [hrf]; rfl, 0, rfl⟩

end Go.Proofs.YtckgjolaoifgkaaGreat

/-
  Productions that are compared: sameProd, slices.EqualFunc.
-/
namespace Go.Proofs.YtckgjolaoifgkaaGreat
open Go.RowKit Go.Maps Go.Shelf

attribute [local go_sem] Oper.semAt_some

set_option maxRecDepth 100000 in
theorem sameProd_any (L1 L2 V1 V2 : Int) (a1 a2 : Option Addr) (c1 c2 : Nat) (R1 R2 : List Int) (w : World) (h1 : IntsAt w a1 R1) (h2 : IntsAt w a2 R2) (hb : R1.length ≤ 17592186044416) (r : Bool) (hr : r = true ↔ (L1 = L2 ∧ R1 = R2 ∧ V1 = V2)) :
    Calls Tryz.prog 54 #[.agg #[.int .i64 L1, .slice a1 R1.length c1, .int .i64 V1], .agg #[.int .i64 L2, .slice a2 R2.length c2, .int .i64 V2]] w fun e w' => e = .returned (.bool r) ∧ w.grownBy w' none := by
  obtain ⟨rR, hrR⟩ := boolOf (R1 = R2)
  have HE : Hid (∀ W, w.grownBy W none → Calls Tryz.prog 63 #[.slice a1 R1.length c1, .slice a2 R2.length c2] W fun e w' => e = .returned (.bool rR) ∧ w.grownBy w' none ∧ W.grownBy w' none) := fun W hg => by
    refine (equalInt_any a1 a2 c1 c2 R1 R2 W (h1.kept hg) (h2.kept hg) hb rR hrR).mono ?_
    rintro e w' ⟨rfl, q, rfl⟩
    exact ⟨rfl, grown_trans hg (grown_drewN _ _), grown_drewN _ _⟩
  have HR : Hid (r = true ↔ (L1 = L2 ∧ rR = true ∧ V1 = V2)) := by rw [hrR]; exact hr
  clear hr hrR h1 h2
  generalize R1.length = n1 at *
  generalize R2.length = n2 at *
  by_cases hL : L1 = L2
  · have d1 : (L1 == L2) = true := beq_iff_eq.2 hL
    have HG : Hid (w.grownBy ((w.alloc (.cells #[.int .i64 L1, .slice a1 n1 c1, .int .i64 V1] 46)).alloc (.cells #[.int .i64 L2, .slice a2 n2 c2, .int .i64 V2] 46)) none) := grown_trans (World.grownBy_alloc _ _ none) (World.grownBy_alloc _ _ none)
    have k1 : ((w.alloc (.cells #[.int .i64 L1, .slice a1 n1 c1, .int .i64 V1] 46)).alloc (.cells #[.int .i64 L2, .slice a2 n2 c2, .int .i64 V2] 46)).cell? ⟨w.heap.size, 2, none⟩ = some (.int .i64 V1) := (World.grownBy_alloc _ _ none).cell (by rw [cell_of_row _ _ _ _ _ _ (heap_alloc_last w _)]; rfl) (by simp)
    have k2 : ((w.alloc (.cells #[.int .i64 L1, .slice a1 n1 c1, .int .i64 V1] 46)).alloc (.cells #[.int .i64 L2, .slice a2 n2 c2, .int .i64 V2] 46)).cell? ⟨(w.alloc (.cells #[.int .i64 L1, .slice a1 n1 c1, .int .i64 V1] 46)).heap.size, 2, none⟩ = some (.int .i64 V2) := by rw [cell_of_row _ _ _ _ _ _ (heap_alloc_last _ _)]; rfl
    have es : (w.alloc (.cells #[.int .i64 L1, .slice a1 n1 c1, .int .i64 V1] 46)).heap.size = w.heap.size + 1 := World.size_alloc _ _
    rw [es] at k2
    have K1 : Hid (((w.alloc (.cells #[.int .i64 L1, .slice a1 n1 c1, .int .i64 V1] 46)).alloc (.cells #[.int .i64 L2, .slice a2 n2 c2, .int .i64 V2] 46)).cell? ⟨w.heap.size, 2, none⟩ = some (.int .i64 V1)) := k1
    have K2 : Hid (((w.alloc (.cells #[.int .i64 L1, .slice a1 n1 c1, .int .i64 V1] 46)).alloc (.cells #[.int .i64 L2, .slice a2 n2 c2, .int .i64 V2] 46)).cell? ⟨w.heap.size + 1, 2, none⟩ = some (.int .i64 V2)) := k2
    clear es k1 k2
    have HLL : Hid (L1 = L2) := hL
    clear hL
    cases rR with
    | true =>
      go_enter Tryz.func54, Tryz.ntmps54
      go_wp2_with fail
      refine (HE.out _ HG.out).mono ?_
      rintro e w2 ⟨rfl, hg2, hg3⟩
      have m1 := hg3.cell K1.out (by simp)
      have m2 := hg3.cell K2.out (by simp)
      have HG2 : Hid (w.grownBy w2 none) := hg2
      clear hg2 hg3 K1 K2 HG
      by_cases hV : V1 = V2
      · have d2 : (V1 == V2) = true := beq_iff_eq.2 hV
        have hrt : r = true := HR.out.2 ⟨HLL.out, trivial, hV⟩
        clear hV
        go_wp2_with fail
        go_ret
        exact ⟨by rw [hrt]; rfl, HG2.out⟩
      · have d2 : (V1 == V2) = false := beq_eq_false_iff_ne.2 hV
        have hrf : r = false := Bool.eq_false_iff.2 fun hh => hV (HR.out.1 hh).2.2
        clear hV
        go_wp2_with fail
        go_ret
        exact ⟨by rw [hrf]; rfl, HG2.out⟩
    | false =>
      have hrf : r = false := Bool.eq_false_iff.2 fun hh => by have := (HR.out.1 hh).2.1; cases this
      go_enter Tryz.func54, Tryz.ntmps54
      go_wp2_with fail
      refine (HE.out _ HG.out).mono ?_
      rintro e w2 ⟨rfl, hg2, hg3⟩
      have HG2 : Hid (w.grownBy w2 none) := hg2
      clear hg2 hg3 K1 K2 HG
      go_wp2_with fail
      go_ret
      exact ⟨by rw [hrf]; rfl, HG2.out⟩
  · have d1 : (L1 == L2) = false := beq_eq_false_iff_ne.2 hL
    have hrf : r = false := Bool.eq_false_iff.2 fun hh => hL (HR.out.1 hh).1
    clear hL
    go_enter Tryz.func54, Tryz.ntmps54
    go_wp2_with fail
    go_ret
    exact ⟨by rw [hrf]; rfl, grown_trans (World.grownBy_alloc _ _ none) (World.grownBy_alloc _ _ none)⟩

/-- Two rows of productions are alike. -/
def prodsSame (n m : Nat) (L1 : Nat → Int) (R1 : Nat → List Int) (V1 : Nat → Int) (L2 : Nat → Int) (R2 : Nat → List Int) (V2 : Nat → Int) : Prop := n = m ∧ ∀ i, i < n → L1 i = L2 i ∧ R1 i = R2 i ∧ V1 i = V2 i

end Go.Proofs.YtckgjolaoifgkaaGreat

namespace Go.Proofs.YtckgjolaoifgkaaGreat
open Go.RowKit Go.Maps Go.Shelf

attribute [local go_sem] Oper.semAt_some

/-- Two boxed grammars. -/
structure Ph2 (w wr : World) (cs cs' : Array Value) : Prop where
  grown : w.grownBy wr none
  box : wr.heap[w.heap.size]? = some (.cells cs 27 (0, 0))
  box' : wr.heap[w.heap.size + 1]? = some (.cells cs' 27 (0, 0))
theorem Ph2.kept {w wr wx : World} {cs cs' : Array Value} (h : Ph2 w wr cs cs') (hg : wr.grownBy wx none) : Ph2 w wx cs cs' :=
  ⟨grown_trans h.grown hg, (hg.block _ (Array.getElem?_eq_some_iff.1 h.box).1 (by simp)).trans h.box, (hg.block _ (Array.getElem?_eq_some_iff.1 h.box').1 (by simp)).trans h.box'⟩
theorem Ph2.cells {w wr : World} {v0 v1 v2 v3 v4 u0 u1 u2 u3 u4 : Value} (h : Ph2 w wr #[v0, v1, v2, v3, v4] #[u0, u1, u2, u3, u4]) :
    (wr.cell? ⟨w.heap.size, 0, none⟩ = some v0 ∧ wr.cell? ⟨w.heap.size, 1, none⟩ = some v1 ∧ wr.cell? ⟨w.heap.size, 2, none⟩ = some v2 ∧ wr.cell? ⟨w.heap.size, 3, none⟩ = some v3 ∧ wr.cell? ⟨w.heap.size, 4, none⟩ = some v4) ∧
    (wr.cell? ⟨w.heap.size + 1, 0, none⟩ = some u0 ∧ wr.cell? ⟨w.heap.size + 1, 1, none⟩ = some u1 ∧ wr.cell? ⟨w.heap.size + 1, 2, none⟩ = some u2 ∧ wr.cell? ⟨w.heap.size + 1, 3, none⟩ = some u3 ∧ wr.cell? ⟨w.heap.size + 1, 4, none⟩ = some u4) := by
  refine ⟨⟨?_, ?_, ?_, ?_, ?_⟩, ?_, ?_, ?_, ?_, ?_⟩
  · rw [cell_of_row _ _ _ _ _ _ h.box]; rfl
  · rw [cell_of_row _ _ _ _ _ _ h.box]; rfl
  · rw [cell_of_row _ _ _ _ _ _ h.box]; rfl
  · rw [cell_of_row _ _ _ _ _ _ h.box]; rfl
  · rw [cell_of_row _ _ _ _ _ _ h.box]; rfl
  · rw [cell_of_row _ _ _ _ _ _ h.box']; rfl
  · rw [cell_of_row _ _ _ _ _ _ h.box']; rfl
  · rw [cell_of_row _ _ _ _ _ _ h.box']; rfl
  · rw [cell_of_row _ _ _ _ _ _ h.box']; rfl
  · rw [cell_of_row _ _ _ _ _ _ h.box']; rfl
theorem Ph2.mk' (w : World) (cs cs' : Array Value) : Ph2 w ((w.alloc (.cells cs 27)).alloc (.cells cs' 27)) cs cs' := by
  have h1 := heap_alloc_last w (.cells cs 27)
  have h2 := heap_alloc_last (w.alloc (.cells cs 27)) (.cells cs' 27)
  rw [World.size_alloc] at h2
  refine ⟨grown_trans (World.grownBy_alloc _ _ none) (World.grownBy_alloc _ _ none), ?_, h2⟩
  exact ((World.grownBy_alloc _ _ none).block _ (Array.getElem?_eq_some_iff.1 h1).1 (by simp)).trans h1

section
variable (ta na la pa ta' na' la' pa' : Option Addr) (tn nn ln pn tc nc lc pc tn' nn' ln' pn' tc' nc' lc' pc' : Nat) (st st' : Int)

end

end Go.Proofs.YtckgjolaoifgkaaGreat

/-
  The document's levelsFit and nonsFit.
-/
namespace Go.Proofs.YtckgjolaoifgkaaGreat
open Go.RowKit

theorem nodup_idx {α : Type} (d : α) (l : List α) : l.Nodup ↔ ∀ i k, k < i → i < l.length → l.getD k d ≠ l.getD i d := by
  rw [List.nodup_iff_pairwise_ne, List.pairwise_iff_getElem]
  constructor
  · intro h i k hk hi
    have := h k i (by omega) hi hk
    simpa [List.getD, hi, show k < l.length by omega] using this
  · intro h i j hi hj hij
    have := h j i hij hj
    simpa [List.getD, hi, hj] using this

def t0 : ByteArray × Int := (⟨#[]⟩, 0)
/-- The terminal at i. -/
def termAt (ts : List (ByteArray × Int)) (ln i : Nat) : Prop := termOK ln (ts.getD i (⟨#[]⟩, 0)) ∧ ∀ k, 1 ≤ k → k < i → (ts.getD k (⟨#[]⟩, 0)).1 ≠ (ts.getD i (⟨#[]⟩, 0)).1
theorem termsOK_idx (ts : List (ByteArray × Int)) (ln : Nat) : termsOK ts ln ↔ (0 < ts.length ∧ ts.getD 0 (⟨#[]⟩, 0) = (⟨#[]⟩, 0)) ∧ ∀ i, 1 ≤ i → i < ts.length → termAt ts ln i := by
  cases ts with
  | nil =>
    constructor
    · rintro ⟨rest, h, _⟩; cases h
    · rintro ⟨⟨h, _⟩, _⟩; simp at h
  | cons t rest =>
    constructor
    · rintro ⟨rest', h, h1, h2⟩
      cases h
      refine ⟨⟨by simp, by simp⟩, fun i hi hl => ?_⟩
      obtain ⟨j, rfl⟩ : ∃ j, i = j + 1 := ⟨i - 1, by omega⟩
      have hj : j < rest.length := by simpa using hl
      refine ⟨?_, fun k hk hki => ?_⟩
      · have : (((⟨#[]⟩, 0) : ByteArray × Int) :: rest).getD (j + 1) (⟨#[]⟩, 0) = rest[j] := by simp [List.getD, hj]
        rw [this]
        exact h1 _ (List.getElem_mem hj)
      · obtain ⟨m, rfl⟩ : ∃ m, k = m + 1 := ⟨k - 1, by omega⟩
        have := (nodup_idx ⟨#[]⟩ _).1 h2 j m (by omega) (by simpa using hj)
        have hm : m < rest.length := by omega
        simpa [List.getD, hj, hm] using this
    · rintro ⟨⟨_, h0⟩, h⟩
      have h0' : t = (⟨#[]⟩, 0) := by simpa using h0
      subst h0'
      refine ⟨rest, rfl, fun t ht => ?_, (nodup_idx ⟨#[]⟩ _).2 fun i k hk hi => ?_⟩
      · obtain ⟨j, hj, rfl⟩ := List.getElem_of_mem ht
        have := (h (j + 1) (by omega) (by simpa using hj)).1
        simpa [List.getD, hj] using this
      · have hi' : i < rest.length := by simpa using hi
        have hk' : k < rest.length := by omega
        have := (h (i + 1) (by omega) (by simpa using hi')).2 (k + 1) (by omega) (by omega)
        simpa [List.getD, hi', hk'] using this

/-- The nonterminal at i, of those from ad on. -/
def nonAt (ns : List ByteArray) (ad i : Nat) : Prop := isNameB (ns.getD i ⟨#[]⟩) = true ∧ ∀ k, ad ≤ k → k < i → ns.getD k ⟨#[]⟩ ≠ ns.getD i ⟨#[]⟩
theorem nonsOK_idx (ns : List ByteArray) : ((∀ s ∈ ns, isNameB s = true) ∧ ns.Nodup) ↔ ∀ i, 0 ≤ i → i < ns.length → nonAt ns 0 i := by
  constructor
  · rintro ⟨h1, h2⟩ i _ hi
    exact ⟨h1 _ (getD_mem hi), fun k _ hk => (nodup_idx ⟨#[]⟩ _).1 h2 i k hk hi⟩
  · intro h
    refine ⟨fun s hs => ?_, (nodup_idx ⟨#[]⟩ _).2 fun i k hk hi => (h i (Nat.zero_le _) hi).2 k (Nat.zero_le _) hk⟩
    obtain ⟨j, hj, rfl⟩ := List.getElem_of_mem hs
    have := (h j (Nat.zero_le _) hj).1
    simpa [List.getD, hj] using this

/-- What the document's fits asks. -/
structure fitsOK (ad : Nat) (ts : List (ByteArray × Int)) (ns : List ByteArray) (lv : List Int) (st : Int) (n : Nat) (L : Nat → Int) (R : Nat → List Int) (V : Nat → Int) : Prop where
  nn : ns.length ≤ 64 + ad
  tn : ts.length ≤ 65
  pn : n ≤ 96 + ad
  p1 : 1 + ad ≤ n
  ln : lv.length ≤ 64
  syms : (ts.length : Int) - 1 + ns.length - ad ≤ 64
  terms : (0 < ts.length ∧ ts.getD 0 (⟨#[]⟩, 0) = (⟨#[]⟩, 0)) ∧ ∀ i, 1 ≤ i → i < ts.length → termAt ts lv.length i
  levels : ∀ j, j < lv.length → levelOK ts lv j
  nons : ∀ i, ad ≤ i → i < ns.length → nonAt ns ad i
  prods : ∀ i, ad ≤ i → i < n → prodOK ts.length ns.length lv.length ad (L i) (R i) (V i)
  lefts : (leftsTo (fun i => L (ad + i)) (n - ad)).length + ad = ns.length
  start : isNonI ts.length ns.length ad st

theorem nodup_short' {α : Type} [DecidableEq α] : ∀ (l m : List α), l.Nodup → (∀ x ∈ l, x ∈ m) → l.length ≤ m.length
  | [], _, _, _ => Nat.zero_le _
  | a :: l, m, hn, hs => by
    rw [List.nodup_cons] at hn
    have ha := hs a (by simp)
    have h := nodup_short' l (m.erase a) hn.2 (fun x hx => (List.mem_erase_of_ne (fun e => hn.1 (by rw [← e]; exact hx))).2 (hs x (by simp [hx])))
    rw [List.length_erase_of_mem ha] at h
    have : 0 < m.length := List.length_pos_of_mem ha
    simp only [List.length_cons]
    omega

theorem levels_few {ts : List (ByteArray × Int)} {lv : List Int} (h0 : 0 < ts.length) (h1 : ts.getD 0 (⟨#[]⟩, 0) = (⟨#[]⟩, 0)) (h : ∀ j, j < lv.length → levelOK ts lv j) : lv.length + 1 ≤ ts.length := by
  have hnd : ((List.range (lv.length + 1)).map fun i : Nat => (i : Int)).Nodup := by
    rw [List.nodup_iff_pairwise_ne, List.pairwise_map]
    exact (List.nodup_range (n := lv.length + 1)).imp (fun h e => h (by omega))
  have h := nodup_short' _ (ts.map (·.2)) hnd (fun x hx => by
    obtain ⟨i, hi, rfl⟩ := List.mem_map.1 hx
    have hi' := List.mem_range.1 hi
    cases i with
    | zero =>
      cases ts with
      | nil => simp at h0
      | cons t r => have : t = (⟨#[]⟩, 0) := by simpa using h1
                    simp [this]
    | succ j =>
      obtain ⟨_, t, ht, e⟩ := h j (by omega)
      exact List.mem_map.2 ⟨t, ht, by rw [e]; simp⟩)
  simpa using h

/-! ### The order -/
end Go.Proofs.YtckgjolaoifgkaaGreat

namespace Go.Proofs.YtckgjolaoifgkaaGreat
open Go.RowKit

attribute [local go_sem] Oper.semAt_some

set_option maxRecDepth 100000 in
theorem rIsTerm_any (s : ByteArray) (w : World) (hs : s.size ≤ 140737488355328) : Calls Tryz.prog 52 #[.string s] w fun e w' => e = .returned (.bool (isTextB s)) ∧ w' = w := by
  have HT : Hid ((∀ j, j < s.size → textB (chr s j) = true) → isTextB s = (decide (1 ≤ s.size) && decide (s.size ≤ 16))) := fun h => by
    unfold isTextB lenOK
    rw [show (List.range s.size).all (fun i => textB (chr s i)) = true from List.all_eq_true.2 fun i hi => h i (by simpa using hi), Bool.and_true]
  have HF : Hid (∀ k, k < s.size → textB (chr s k) = false → isTextB s = false) := fun k hk h => by
    unfold isTextB
    have hx : (List.range s.size).all (fun i => textB (chr s i)) = false := Bool.eq_false_iff.2 fun h2 => by
      have := List.all_eq_true.1 h2 k (by simpa using hk)
      rw [h] at this
      cases this
    rw [hx, Bool.and_false]
  generalize isTextB s = v at *
  go_enter Tryz.func52, Tryz.ntmps52
  go_wp2_with fail
  go_loopw [3] (fun i wr => ∃ k : Nat, k ≤ s.size ∧ i = .int .i64 k ∧ wr = w ∧ ∀ j, j < k → textB (chr s j) = true) (fun i _ => s.size - (intOf i).toNat)
  case atStart => exact ⟨0, Nat.zero_le _, rfl, rfl, fun j hj => by omega⟩
  case round =>
    obtain ⟨k, hk, rfl, rfl, hall⟩ := hrel
    have HA : Hid (∀ j, j < k → textB (chr s j) = true) := hall
    clear hall
    by_cases hlt : k < s.size
    · have hix := fun w => index_at s k hlt w
      have HK : Hid (textB (chr s k) = true → ∀ j, j < k + 1 → textB (chr s j) = true) := fun h j hj => by
        by_cases e : j = k
        · rw [e]; exact h
        · exact HA.out j (by omega)
      have HFK : Hid (textB (chr s k) = false → v = false) := HF.out k hlt
      generalize chr s k = c at *
      by_cases h1 : c < 32
      · have d1 : decide ((c : Int) < 32) = true := decide_eq_true (by omega)
        have hv := HFK.out (by simp [textB]; omega)
        go_wp2_with fail
        go_ret
        exact ⟨by rw [hv]; rfl, rfl⟩
      · have d1 : decide ((c : Int) < 32) = false := decide_eq_false (by omega)
        by_cases h2 : 126 < c
        · have d2 : decide (126 < (c : Int)) = true := decide_eq_true (by omega)
          have hv := HFK.out (by simp [textB]; omega)
          go_wp2_with fail
          go_ret
          exact ⟨by rw [hv]; rfl, rfl⟩
        · have d2 : decide (126 < (c : Int)) = false := decide_eq_false (by omega)
          by_cases h3 : c = 39
          · have d3 : ((c : Int) == 39) = true := beq_iff_eq.2 (by omega)
            have hv := HFK.out (by simp [textB, h3])
            clear h3
            go_wp2_with fail
            go_ret
            exact ⟨by rw [hv]; rfl, rfl⟩
          · have d3 : ((c : Int) == 39) = false := beq_eq_false_iff_ne.2 (by omega)
            have HK2 : Hid (∀ j, j < k + 1 → textB (chr s j) = true) := HK.out (by simp [textB, h3]; omega)
            clear HK HFK h3
            go_wp2_with fail
            go_roundw
            case rel => exact ⟨k + 1, by omega, by go_num, trivial, HK2.out⟩
            case measure => simp [intOf]; omega
    · obtain rfl : k = s.size := by omega
      have hv := HT.out HA.out
      by_cases h1 : 1 ≤ s.size
      · have d1 : decide (1 ≤ (s.size : Int)) = true := decide_eq_true (by omega)
        go_wp2_with fail
        go_ret
        refine ⟨?_, rfl⟩
        rw [hv]
        refine congrArg (fun b => Ending.returned (Value.bool b)) (Bool.eq_iff_iff.2 ?_)
        simp
        omega
      · have d1 : decide (1 ≤ (s.size : Int)) = false := decide_eq_false (by omega)
        go_wp2_with fail
        go_ret
        refine ⟨?_, rfl⟩
        rw [hv, decide_eq_false h1]
        rfl

set_option maxRecDepth 100000 in
set_option maxHeartbeats 1000000 in
theorem rIsName_any (s : ByteArray) (w : World) (hs : s.size ≤ 140737488355328) : Calls Tryz.prog 53 #[.string s] w fun e w' => e = .returned (.bool (isNameB s)) ∧ w' = w := by
  have HT : Hid ((∀ j, j < s.size → nameB j (chr s j) = true) → isNameB s = (decide (1 ≤ s.size) && decide (s.size ≤ 16))) := fun h => by
    unfold isNameB lenOK
    rw [show (List.range s.size).all (fun i => nameB i (chr s i)) = true from List.all_eq_true.2 fun i hi => h i (by simpa using hi), Bool.and_true]
  have HF : Hid (∀ k, k < s.size → nameB k (chr s k) = false → isNameB s = false) := fun k hk h => by
    unfold isNameB
    have hx : (List.range s.size).all (fun i => nameB i (chr s i)) = false := Bool.eq_false_iff.2 fun h2 => by
      have := List.all_eq_true.1 h2 k (by simpa using hk)
      rw [h] at this
      cases this
    rw [hx, Bool.and_false]
  generalize isNameB s = v at *
  go_enter Tryz.func53, Tryz.ntmps53
  go_wp2_with fail
  go_loopw [3] (fun i wr => ∃ k : Nat, k ≤ s.size ∧ i = .int .i64 k ∧ wr = w ∧ ∀ j, j < k → nameB j (chr s j) = true) (fun i _ => s.size - (intOf i).toNat)
  case atStart => exact ⟨0, Nat.zero_le _, rfl, rfl, fun j hj => by omega⟩
  case round =>
    obtain ⟨k, hk, rfl, rfl, hall⟩ := hrel
    have HA : Hid (∀ j, j < k → nameB j (chr s j) = true) := hall
    clear hall
    by_cases hlt : k < s.size
    · have hix := fun w => index_at s k hlt w
      have HK : Hid (nameB k (chr s k) = true → ∀ j, j < k + 1 → nameB j (chr s j) = true) := fun h j hj => by
        by_cases e : j = k
        · rw [e]; exact h
        · exact HA.out j (by omega)
      have HFK : Hid (nameB k (chr s k) = false → v = false) := HF.out k hlt
      generalize chr s k = c at *
      have hcl : c < 48 ∨ ((48 ≤ c ∧ c ≤ 57) ∧ 0 < k) ∨ ((48 ≤ c ∧ c ≤ 57) ∧ ¬ 0 < k) ∨ (58 ≤ c ∧ c ≤ 64) ∨ (65 ≤ c ∧ c ≤ 90) ∨ (91 ≤ c ∧ c ≤ 94) ∨ (95 ≤ c ∧ c ≤ 95) ∨ (96 ≤ c ∧ c ≤ 96) ∨ (97 ≤ c ∧ c ≤ 122) ∨ 122 < c := by omega
      rcases hcl with h | h | h | h | h | h | h | h | h | h
      all_goals
        first | (have d1 : decide (65 ≤ (c : Int)) = true := decide_eq_true (by omega)) | (have d1 : decide (65 ≤ (c : Int)) = false := decide_eq_false (by omega))
        first | (have d2 : decide ((c : Int) ≤ 90) = true := decide_eq_true (by omega)) | (have d2 : decide ((c : Int) ≤ 90) = false := decide_eq_false (by omega))
        first | (have d3 : decide (97 ≤ (c : Int)) = true := decide_eq_true (by omega)) | (have d3 : decide (97 ≤ (c : Int)) = false := decide_eq_false (by omega))
        first | (have d4 : decide ((c : Int) ≤ 122) = true := decide_eq_true (by omega)) | (have d4 : decide ((c : Int) ≤ 122) = false := decide_eq_false (by omega))
        first | (have d5 : ((c : Int) == 95) = true := beq_iff_eq.2 (by omega)) | (have d5 : ((c : Int) == 95) = false := beq_eq_false_iff_ne.2 (by omega))
        first | (have d6 : decide (48 ≤ (c : Int)) = true := decide_eq_true (by omega)) | (have d6 : decide (48 ≤ (c : Int)) = false := decide_eq_false (by omega))
        first | (have d7 : decide ((c : Int) ≤ 57) = true := decide_eq_true (by omega)) | (have d7 : decide ((c : Int) ≤ 57) = false := decide_eq_false (by omega))
        try first | (have d8 : decide (0 < k) = true := decide_eq_true (by omega)) | (have d8 : decide (0 < k) = false := decide_eq_false (by omega))
        first
        | (have hn : nameB k c = true := by (simp [nameB, letterB, digitB]; omega)
           have HK2 : Hid (∀ j, j < k + 1 → nameB j (chr s j) = true) := HK.out hn
           clear HK HFK hn h
           go_wp2_with fail
           go_roundw
           case rel => exact ⟨k + 1, by omega, by go_num, trivial, HK2.out⟩
           case measure => simp [intOf]; omega)
        | (have hn : nameB k c = false := by (simp [nameB, letterB, digitB]; omega)
           have hv := HFK.out hn
           clear HK HFK hn h
           go_wp2_with fail
           go_ret
           exact ⟨by rw [hv]; rfl, rfl⟩)
    · obtain rfl : k = s.size := by omega
      have hv := HT.out HA.out
      by_cases h1 : 1 ≤ s.size
      · have d1 : decide (1 ≤ (s.size : Int)) = true := decide_eq_true (by omega)
        go_wp2_with fail
        go_ret
        refine ⟨?_, rfl⟩
        rw [hv]
        refine congrArg (fun b => Ending.returned (Value.bool b)) (Bool.eq_iff_iff.2 ?_)
        simp
        omega
      · have d1 : decide (1 ≤ (s.size : Int)) = false := decide_eq_false (by omega)
        go_wp2_with fail
        go_ret
        refine ⟨?_, rfl⟩
        rw [hv, decide_eq_false h1]
        rfl

end Go.Proofs.YtckgjolaoifgkaaGreat

namespace Go.Proofs.YtckgjolaoifgkaaGreat
open Go.RowKit

attribute [local go_sem] Oper.semAt_some

theorem strEq_true {s t : ByteArray} (h : s = t) : (s.toList == t.toList) = true := by rw [h]; simp
theorem strEq_false {s t : ByteArray} (h : s ≠ t) : (s.toList == t.toList) = false := by
  rw [beq_eq_false_iff_ne]
  intro e
  rw [ByteArray.toList_eq, ByteArray.toList_eq] at e
  exact h (bytes_ext e)

theorem isEmpty_false {s : ByteArray} (h : s ≠ ⟨#[]⟩) : s.toList.isEmpty = false := by
  cases e : s.toList with
  | nil =>
    rw [ByteArray.toList_eq] at e
    exact absurd (bytes_ext (by rw [e])) h
  | cons x r => rfl

set_option maxRecDepth 100000 in
set_option maxHeartbeats 1000000 in
theorem termsFit_any (ta na la pa : Option Addr) (tn nn ln pn tc nc lc pc : Nat) (st : Int) (ts : List (ByteArray × Int)) (w : World) (hT : TermsAt w ta ts) (htn : ts.length = tn) (hn : tn ≤ 65) (hsz : ∀ t ∈ ts, t.1.size ≤ 140737488355328) (r : Bool)
    (hr : r = true ↔ ((0 < ts.length ∧ ts.getD 0 (⟨#[]⟩, 0) = (⟨#[]⟩, 0)) ∧ ∀ i, 1 ≤ i → i < ts.length → termAt ts ln i)) :
    Calls Tryz.prog 43 #[.agg #[.slice ta tn tc, .slice na nn nc, .slice la ln lc, .int .i64 st, .slice pa pn pc]] w fun e w' => e = .returned (.bool r) ∧ w.grownBy w' none := by
  have HT : Hid (TermsAt w ta ts) := hT
  have HTN : Hid (ts.length = tn) := htn
  have HSZ : Hid (∀ t ∈ ts, t.1.size ≤ 140737488355328) := hsz
  have HR : Hid (r = true ↔ ((0 < ts.length ∧ ts.getD 0 (⟨#[]⟩, 0) = (⟨#[]⟩, 0)) ∧ ∀ i, 1 ≤ i → i < ts.length → termAt ts ln i)) := hr
  have HX0 : Hid (PhAt w (w.alloc (.cells #[.slice ta tn tc, .slice na nn nc, .slice la ln lc, .int .i64 st, .slice pa pn pc] 27)) w.heap.size #[.slice ta tn tc, .slice na nn nc, .slice la ln lc, .int .i64 st, .slice pa pn pc]) := ⟨World.grownBy_alloc _ _ none, heap_alloc_last w _⟩
  clear hT hsz hr htn
  by_cases h0 : tn = 0
  · have hf : r = false := Bool.eq_false_iff.2 fun hh => by have := (HR.out.1 hh).1.1; rw [HTN.out] at this; omega
    have d0 : ((tn : Int) == 0) = true := beq_iff_eq.2 (by omega)
    clear h0
    go_enter Tryz.func43, Tryz.ntmps43
    go_wp2_with fail
    go_ret
    exact ⟨by first | rfl | (rw [hf]; rfl), HX0.out.grown⟩
  · have d0 : ((tn : Int) == 0) = false := beq_eq_false_iff_ne.2 (by omega)
    obtain ⟨b, off, rfl, hcs⟩ : ∃ b off, ta = some ⟨b, off, none⟩ ∧ ∀ i, i < ts.length → w.cell? ⟨b, off + i * 2, none⟩ = some (.string (ts.getD i (⟨#[]⟩, 0)).1) ∧ w.cell? ⟨b, off + i * 2 + 1, none⟩ = some (.int .i64 (ts.getD i (⟨#[]⟩, 0)).2) := by
      rcases HT.out with h | h
      · have := HTN.out; rw [h] at this; simp at this; omega
      · exact h
    have HCS : Hid (∀ i, i < tn → ∀ W, w.grownBy W none → W.cell? ⟨b, off + i * 2, none⟩ = some (.string (ts.getD i (⟨#[]⟩, 0)).1) ∧ W.cell? ⟨b, off + i * 2 + 1, none⟩ = some (.int .i64 (ts.getD i (⟨#[]⟩, 0)).2)) := fun i hi W hg => by
      obtain ⟨h1, h2⟩ := hcs i (by rw [HTN.out]; exact hi)
      exact ⟨hg.cell h1 (by simp), hg.cell h2 (by simp)⟩
    have HPOS : Hid (0 < tn) := Nat.pos_of_ne_zero h0
    clear hcs
    obtain ⟨c0, c1⟩ := HCS.out 0 HPOS.out _ HX0.out.grown
    rw [Nat.zero_mul, Nat.add_zero] at c0 c1
    by_cases hs : (ts.getD 0 (⟨#[]⟩, 0)).1 = ⟨#[]⟩
    · by_cases hl : (ts.getD 0 (⟨#[]⟩, 0)).2 = 0
      · rw [hs] at c0
        rw [hl] at c1
        have HZ : Hid (ts.getD 0 (⟨#[]⟩, 0) = (⟨#[]⟩, 0)) := Prod.ext hs hl
        clear hs hl h0
        go_enter Tryz.func43, Tryz.ntmps43
        go_wp2_with fail
        clear c0 c1
        go_loopg [3] (tn - 1) (fun gk i wr => ∃ k : Nat, 1 ≤ k ∧ k ≤ tn ∧ gk = tn - k ∧ i = .int .i64 k ∧ PhAt w wr w.heap.size #[.slice (some ⟨b, off, none⟩) tn tc, .slice na nn nc, .slice la ln lc, .int .i64 st, .slice pa pn pc] ∧ ∀ j, 1 ≤ j → j < k → termAt ts ln j)
        case atStart => exact ⟨1, Nat.le_refl _, HPOS.out, rfl, rfl, HX0.out, fun j h1 h2 => by omega⟩
        case round =>
          obtain ⟨k, hk1, hk, hgk, rfl, hX, hall⟩ := hrel
          have HX : Hid (PhAt w wr w.heap.size #[.slice (some ⟨b, off, none⟩) tn tc, .slice na nn nc, .slice la ln lc, .int .i64 st, .slice pa pn pc]) := hX
          have HA : Hid (∀ j, 1 ≤ j → j < k → termAt ts ln j) := hall
          have HGK : Hid (gk = tn - k) := hgk
          clear hX hall hgk HX0
          obtain ⟨m0, m1, m2, m3, m4⟩ := HX.out.cells
          by_cases hlt : k < tn
          · obtain ⟨c0, c1⟩ := HCS.out k hlt _ HX.out.grown
            have hmem : ts.getD k (⟨#[]⟩, 0) ∈ ts := by
              have hk' : k < ts.length := by rw [HTN.out]; exact hlt
              have e : ts.getD k (⟨#[]⟩, 0) = ts[k] := by simp [List.getD, hk']
              rw [e]; exact List.getElem_mem _
            have HC := rIsTerm_any (ts.getD k (⟨#[]⟩, 0)).1 wr (HSZ.out _ hmem)
            have HRF : Hid (¬ termAt ts ln k → r = false) := fun hno => Bool.eq_false_iff.2 fun hh => hno ((HR.out.1 hh).2 k hk1 (by rw [HTN.out]; exact hlt))
            have HTA : Hid (termAt ts ln k ↔ termOK ln (ts.getD k (⟨#[]⟩, 0)) ∧ ∀ k', 1 ≤ k' → k' < k → (ts.getD k' (⟨#[]⟩, 0)).1 ≠ (ts.getD k (⟨#[]⟩, 0)).1) := Iff.rfl
            clear hmem
            generalize hS : (ts.getD k (⟨#[]⟩, 0)).1 = S at *
            generalize hL : (ts.getD k (⟨#[]⟩, 0)).2 = l at *
            have HSL : Hid ((ts.getD k (⟨#[]⟩, 0)).1 = S ∧ (ts.getD k (⟨#[]⟩, 0)).2 = l) := ⟨hS, hL⟩
            clear hS hL
            cases hb : isTextB S with
            | false =>
              rw [hb] at HC
              have hf : r = false := HRF.out fun h => by have := h.1.1; rw [HSL.out.1, hb] at this; cases this
              clear hb
              go_wp2_with (go_at_call 52; refine HC.mono ?_; rintro e w' ⟨rfl, rfl⟩)
              go_quiet (fail)
              go_wp2_with fail
              go_ret
              exact ⟨by first | rfl | (rw [hf]; rfl), grown_trans HX.out.grown (grown_drewN _ _)⟩
            | true =>
              rw [hb] at HC
              by_cases hl0 : l < 0
              · have d1 : decide (l < 0) = true := decide_eq_true hl0
                have hf : r = false := HRF.out fun h => by have := h.1.2.1; rw [HSL.out.2] at this; omega
                clear hb hl0
                go_wp2_with (go_at_call 52; refine HC.mono ?_; rintro e w' ⟨rfl, rfl⟩)
                go_quiet (fail)
                go_wp2_with fail
                go_ret
                exact ⟨by first | rfl | (rw [hf]; rfl), grown_trans HX.out.grown (grown_drewN _ _)⟩
              · have d1 : decide (l < 0) = false := decide_eq_false hl0
                by_cases hl1 : (ln : Int) < l
                · have d2 : decide ((ln : Int) < l) = true := decide_eq_true hl1
                  have hf : r = false := HRF.out fun h => by have := h.1.2.2; rw [HSL.out.2] at this; omega
                  clear hb hl0 hl1
                  go_wp2_with (go_at_call 52; refine HC.mono ?_; rintro e w' ⟨rfl, rfl⟩)
                  go_quiet (fail)
                  go_wp2_with fail
                  go_ret
                  exact ⟨by first | rfl | (rw [hf]; rfl), grown_trans HX.out.grown (grown_drewN _ _)⟩
                · have d2 : decide ((ln : Int) < l) = false := decide_eq_false hl1
                  have HOK : Hid (termOK ln (ts.getD k (⟨#[]⟩, 0))) := ⟨by rw [HSL.out.1]; exact hb, by rw [HSL.out.2]; omega, by rw [HSL.out.2]; omega⟩
                  clear hb hl0 hl1
                  go_wp2_with (go_at_call 52; refine HC.mono ?_; rintro e w' ⟨rfl, rfl⟩)
                  go_quiet (fail)
                  have HX2 : Hid (PhAt w (w'.drewN nq) w.heap.size #[.slice (some ⟨b, off, none⟩) tn tc, .slice na nn nc, .slice la ln lc, .int .i64 st, .slice pa pn pc]) := HX.out.kept (grown_drewN _ _)
                  clear m0 m1 m2 m3 m4 c0 c1 HC HX
                  generalize w'.drewN nq = W at *
                  go_wp2_with fail
                  go_loopg [5] (k - 1) (fun gx i wr => ∃ x : Nat, 1 ≤ x ∧ x ≤ k ∧ gx = k - x ∧ i = .int .i64 x ∧ PhAt w wr w.heap.size #[.slice (some ⟨b, off, none⟩) tn tc, .slice na nn nc, .slice la ln lc, .int .i64 st, .slice pa pn pc] ∧ ∀ j, 1 ≤ j → j < x → (ts.getD j (⟨#[]⟩, 0)).1 ≠ S)
                  case atStart => exact ⟨1, Nat.le_refl _, hk1, rfl, rfl, HX2.out, fun j h1 h2 => by omega⟩
                  case round =>
                    obtain ⟨x, hx1, hx, hgx, rfl, hX, hall⟩ := hrel
                    have HX : Hid (PhAt w wr w.heap.size #[.slice (some ⟨b, off, none⟩) tn tc, .slice na nn nc, .slice la ln lc, .int .i64 st, .slice pa pn pc]) := hX
                    have HY : Hid (∀ j, 1 ≤ j → j < x → (ts.getD j (⟨#[]⟩, 0)).1 ≠ S) := hall
                    have HGX : Hid (gk = k - x) := hgx
                    clear hX hall hgx HX2
                    obtain ⟨m0, m1, m2, m3, m4⟩ := HX.out.cells
                    by_cases hlx : x < k
                    · obtain ⟨c0, _⟩ := HCS.out x (by omega) _ HX.out.grown
                      obtain ⟨c2, _⟩ := HCS.out k hlt _ HX.out.grown
                      rw [HSL.out.1] at c2
                      have HNO : Hid ((ts.getD x (⟨#[]⟩, 0)).1 = S → r = false) := fun e => HRF.out fun h => h.2 x hx1 hlx (by rw [HSL.out.1]; exact e)
                      have HST : Hid ((ts.getD x (⟨#[]⟩, 0)).1 ≠ S → ∀ j, 1 ≤ j → j < x + 1 → (ts.getD j (⟨#[]⟩, 0)).1 ≠ S) := fun hne j h1 h2 => by
                        by_cases e : j = x
                        · rw [e]; exact hne
                        · exact HY.out j h1 (by omega)
                      generalize (ts.getD x (⟨#[]⟩, 0)).1 = T at *
                      by_cases he : T = S
                      · have hf := HNO.out he
                        have d3 := strEq_true he
                        clear he HNO HST
                        go_wp2_with fail
                        go_quiet (fail)
                        go_wp2_with fail
                        go_ret
                        exact ⟨by first | rfl | (rw [hf]; rfl), grown_trans HX.out.grown (grown_drewN _ _)⟩
                      · have d3 := strEq_false he
                        have HS2 : Hid (∀ j, 1 ≤ j → j < x + 1 → (ts.getD j (⟨#[]⟩, 0)).1 ≠ S) := HST.out he
                        clear he HNO HST
                        go_wp2_with fail
                        go_quiet (fail)
                        have HX2 : Hid (PhAt w (wr.drewN nq) w.heap.size #[.slice (some ⟨b, off, none⟩) tn tc, .slice na nn nc, .slice la ln lc, .int .i64 st, .slice pa pn pc]) := HX.out.kept (grown_drewN _ _)
                        clear m0 m1 m2 m3 m4 c0 c2 HX
                        generalize wr.drewN nq = W at *
                        go_wp2_with fail
                        go_roundg (k - (x + 1))
                        case measure => have := HGX.out; omega
                        case rel => exact ⟨x + 1, by omega, by omega, rfl, by go_num, HX2.out, HS2.out⟩
                    · obtain rfl : x = k := by omega
                      have HA2 : Hid (∀ j, 1 ≤ j → j < x + 1 → termAt ts ln j) := fun j h1 h2 => by
                        by_cases e : j = x
                        · rw [e]; exact ⟨HOK.out, fun k' h3 h4 => by rw [HSL.out.1]; exact HY.out k' h3 h4⟩
                        · exact HA.out j h1 (by omega)
                      go_wp2_with fail
                      go_roundg (tn - (x + 1))
                      case measure => have := HGK.out; omega
                      case rel => exact ⟨x + 1, by omega, by omega, rfl, by go_num, HX.out, HA2.out⟩
          · obtain rfl : k = tn := by omega
            have hrt : r = true := HR.out.2 ⟨⟨by rw [HTN.out]; exact HPOS.out, HZ.out⟩, fun i h1 h2 => HA.out i h1 (by rw [← HTN.out]; exact h2)⟩
            go_wp2_with fail
            go_ret
            exact ⟨by first | rfl | (rw [hrt]; rfl), HX.out.grown⟩
      · have hf : r = false := Bool.eq_false_iff.2 fun hh => hl (by rw [(HR.out.1 hh).1.2])
        rw [hs] at c0
        generalize (ts.getD 0 (⟨#[]⟩, 0)).2 = l at *
        have d1 : (l == 0) = false := beq_eq_false_iff_ne.2 hl
        clear hl h0 hs
        go_enter Tryz.func43, Tryz.ntmps43
        go_wp2_with fail
        go_ret
        exact ⟨by first | rfl | (rw [hf]; rfl), HX0.out.grown⟩
    · have hf : r = false := Bool.eq_false_iff.2 fun hh => hs (by rw [(HR.out.1 hh).1.2])
      generalize (ts.getD 0 (⟨#[]⟩, 0)).1 = S at *
      have d1 : (S.toList == (ByteArray.mk #[]).toList) = false := strEq_false hs
      have d2 := isEmpty_false hs
      clear h0 hs
      go_enter Tryz.func43, Tryz.ntmps43
      go_wp2_with fail
      go_ret
      exact ⟨by first | rfl | (rw [hf]; rfl), HX0.out.grown⟩

end Go.Proofs.YtckgjolaoifgkaaGreat

namespace Go.Proofs.YtckgjolaoifgkaaGreat
open Go.RowKit

attribute [local go_sem] Oper.semAt_some

set_option maxRecDepth 100000 in
set_option maxHeartbeats 1000000 in
theorem levelsFit_any (ta na la pa : Option Addr) (tn nn ln pn tc nc lc pc : Nat) (st : Int) (ts : List (ByteArray × Int)) (lv : List Int) (w : World) (hT : TermsAt w ta ts) (hL : IntsAt w la lv) (htn : ts.length = tn) (hln : lv.length = ln) (hn : tn ≤ 65) (hb : ln ≤ 64) (r : Bool)
    (hr : r = true ↔ ∀ j, j < lv.length → levelOK ts lv j) :
    Calls Tryz.prog 44 #[.agg #[.slice ta tn tc, .slice na nn nc, .slice la ln lc, .int .i64 st, .slice pa pn pc]] w fun e w' => e = .returned (.bool r) ∧ w.grownBy w' none := by
  have HT : Hid (TermsAt w ta ts) := hT
  have HL : Hid (IntsAt w la lv) := hL
  have HTN : Hid (ts.length = tn) := htn
  have HLN : Hid (lv.length = ln) := hln
  have HR : Hid (r = true ↔ ∀ j, j < lv.length → levelOK ts lv j) := hr
  have HX0 : Hid (PhAt w (w.alloc (.cells #[.slice ta tn tc, .slice na nn nc, .slice la ln lc, .int .i64 st, .slice pa pn pc] 27)) w.heap.size #[.slice ta tn tc, .slice na nn nc, .slice la ln lc, .int .i64 st, .slice pa pn pc]) := ⟨World.grownBy_alloc _ _ none, heap_alloc_last w _⟩
  clear hT hL hr htn hln
  go_enter Tryz.func44, Tryz.ntmps44
  go_wp2_with fail
  go_loopg [3] ln (fun gk i wr => ∃ k : Nat, k ≤ ln ∧ gk = ln - k ∧ i = .int .i64 k ∧ PhAt w wr w.heap.size #[.slice ta tn tc, .slice na nn nc, .slice la ln lc, .int .i64 st, .slice pa pn pc] ∧ ∀ j, j < k → levelOK ts lv j)
  case atStart => exact ⟨0, Nat.zero_le _, rfl, rfl, HX0.out, fun j h => by omega⟩
  case round =>
    obtain ⟨k, hk, hgk, rfl, hX, hall⟩ := hrel
    have HX : Hid (PhAt w wr w.heap.size #[.slice ta tn tc, .slice na nn nc, .slice la ln lc, .int .i64 st, .slice pa pn pc]) := hX
    have HA : Hid (∀ j, j < k → levelOK ts lv j) := hall
    have HGK : Hid (gk = ln - k) := hgk
    clear hX hall hgk HX0
    obtain ⟨m0, m1, m2, m3, m4⟩ := HX.out.cells
    by_cases hlt : k < ln
    · have HRF : Hid (¬ levelOK ts lv k → r = false) := fun hno => Bool.eq_false_iff.2 fun hh => hno (HR.out.1 hh k (by rw [HLN.out]; exact hlt))
      go_wp2_with fail
      clear m0 m1 m2 m3 m4
      go_loopg [4, 5] tn (fun gx v4 i wr => ∃ (x : Nat) (sm : Bool), x ≤ tn ∧ gx = tn - x ∧ i = .int .i64 x ∧ v4 = .bool sm ∧ PhAt w wr w.heap.size #[.slice ta tn tc, .slice na nn nc, .slice la ln lc, .int .i64 st, .slice pa pn pc] ∧ (sm = true ↔ ∃ j, j < x ∧ (ts.getD j (⟨#[]⟩, 0)).2 = (k : Int) + 1))
      case atStart => exact ⟨0, false, Nat.zero_le _, rfl, rfl, rfl, HX.out, by simp⟩
      case round =>
        obtain ⟨x, sm, hx, hgx, rfl, rfl, hX, hsm⟩ := hrel
        have HX2 : Hid (PhAt w wr w.heap.size #[.slice ta tn tc, .slice na nn nc, .slice la ln lc, .int .i64 st, .slice pa pn pc]) := hX
        have HSM : Hid (sm = true ↔ ∃ j, j < x ∧ (ts.getD j (⟨#[]⟩, 0)).2 = (k : Int) + 1) := hsm
        have HGX : Hid (gk = tn - x) := hgx
        clear hX hsm hgx HX
        obtain ⟨m0, m1, m2, m3, m4⟩ := HX2.out.cells
        by_cases hlx : x < tn
        · obtain ⟨b, off, rfl, hcs⟩ : ∃ b off, ta = some ⟨b, off, none⟩ ∧ ∀ i, i < ts.length → wr.cell? ⟨b, off + i * 2, none⟩ = some (.string (ts.getD i (⟨#[]⟩, 0)).1) ∧ wr.cell? ⟨b, off + i * 2 + 1, none⟩ = some (.int .i64 (ts.getD i (⟨#[]⟩, 0)).2) := by
            rcases HT.out.kept HX2.out.grown with h | h
            · have := HTN.out; rw [h] at this; simp at this; omega
            · exact h
          have c1 := (hcs x (by rw [HTN.out]; exact hlx)).2
          clear hcs
          cases sm with
          | true =>
            have HS : Hid (true = true ↔ ∃ j, j < x + 1 ∧ (ts.getD j (⟨#[]⟩, 0)).2 = (k : Int) + 1) := ⟨fun _ => by
              obtain ⟨j, hj, e⟩ := HSM.out.1 rfl
              exact ⟨j, by omega, e⟩, fun _ => rfl⟩
            go_wp2_with fail
            go_roundg (tn - (x + 1))
            case measure => have := HGX.out; omega
            case rel => exact ⟨x + 1, true, by omega, rfl, by go_num, rfl, HX2.out, by have h := HS.out; simpa using h⟩
          | false =>
            have HS : Hid (∀ f : Bool, (f = true ↔ (ts.getD x (⟨#[]⟩, 0)).2 = (k : Int) + 1) → (f = true ↔ ∃ j, j < x + 1 ∧ (ts.getD j (⟨#[]⟩, 0)).2 = (k : Int) + 1)) := fun f hf => by
              rw [hf]
              constructor
              · intro e; exact ⟨x, by omega, e⟩
              · rintro ⟨j, hj, e⟩
                by_cases ej : j = x
                · rw [← ej]; exact e
                · have := HSM.out.2 ⟨j, by omega, e⟩
                  cases this
            generalize (ts.getD x (⟨#[]⟩, 0)).2 = l at *
            by_cases he : l = (k : Int) + 1
            · have d1 : (l == (k : Int) + 1) = true := beq_iff_eq.2 he
              have HS2 : Hid (true = true ↔ ∃ j, j < x + 1 ∧ (ts.getD j (⟨#[]⟩, 0)).2 = (k : Int) + 1) := HS.out true ⟨fun _ => he, fun _ => rfl⟩
              clear he HS
              go_wp2_with fail
              go_roundg (tn - (x + 1))
              case measure => have := HGX.out; omega
              case rel => exact ⟨x + 1, true, by omega, rfl, by go_num, rfl, HX2.out, by have h := HS2.out; simpa using h⟩
            · have d1 : (l == (k : Int) + 1) = false := beq_eq_false_iff_ne.2 he
              have HS2 : Hid (false = true ↔ ∃ j, j < x + 1 ∧ (ts.getD j (⟨#[]⟩, 0)).2 = (k : Int) + 1) := HS.out false ⟨(fun h => by cases h), fun h => absurd h he⟩
              clear he HS
              go_wp2_with fail
              go_roundg (tn - (x + 1))
              case measure => have := HGX.out; omega
              case rel => exact ⟨x + 1, false, by omega, rfl, by go_num, rfl, HX2.out, by have h := HS2.out; simpa using h⟩
        · obtain rfl : x = tn := by omega
          have HEX : Hid (sm = true ↔ ∃ t ∈ ts, t.2 = (k : Int) + 1) := by
            show _ ↔ _
            rw [HSM.out]
            constructor
            · rintro ⟨j, hj, e⟩
              have hj' : j < ts.length := by rw [HTN.out]; exact hj
              have e2 : ts.getD j (⟨#[]⟩, 0) = ts[j] := by simp [List.getD, hj']
              exact ⟨ts[j], List.getElem_mem _, by rw [← e2]; exact e⟩
            · rintro ⟨t, ht, e⟩
              obtain ⟨j, hj, rfl⟩ := List.getElem_of_mem ht
              have e2 : ts.getD j (⟨#[]⟩, 0) = ts[j] := by simp [List.getD, hj]
              exact ⟨j, by rw [← HTN.out]; exact hj, by rw [e2]; exact e⟩
          obtain ⟨b, off, rfl, hcs⟩ : ∃ b off, la = some ⟨b, off, none⟩ ∧ ∀ i, i < lv.length → wr.cell? ⟨b, off + i, none⟩ = some (.int .i64 (lv.getD i 0)) := by
            rcases HL.out.kept HX2.out.grown with h | h
            · have := HLN.out; rw [h] at this; simp at this; omega
            · exact h
          have c1 := hcs k (by rw [HLN.out]; exact hlt)
          have HOK : Hid (levelOK ts lv k ↔ (1 ≤ lv.getD k 0 ∧ lv.getD k 0 ≤ 3) ∧ ∃ t ∈ ts, t.2 = (k : Int) + 1) := Iff.rfl
          have HUP : Hid (levelOK ts lv k → ∀ j, j < k + 1 → levelOK ts lv j) := fun h j hj => by
            by_cases e : j = k
            · rw [e]; exact h
            · exact HA.out j (by omega)
          generalize lv.getD k 0 = s at *
          clear hcs
          cases sm with
          | false =>
            have hf : r = false := HRF.out fun h => by have := HEX.out.2 (HOK.out.1 h).2; cases this
            go_wp2_with fail
            go_ret
            exact ⟨by first | rfl | (rw [hf]; rfl), HX2.out.grown⟩
          | true =>
            by_cases h1 : s < 1
            · have d1 : decide (s < 1) = true := decide_eq_true h1
              have hf : r = false := HRF.out fun h => by have := (HOK.out.1 h).1; omega
              go_wp2_with fail
              go_ret
              exact ⟨by first | rfl | (rw [hf]; rfl), HX2.out.grown⟩
            · have d1 : decide (s < 1) = false := decide_eq_false h1
              by_cases h3 : 3 < s
              · have d3 : decide (3 < s) = true := decide_eq_true h3
                have hf : r = false := HRF.out fun h => by have := (HOK.out.1 h).1; omega
                go_wp2_with fail
                go_ret
                exact ⟨by first | rfl | (rw [hf]; rfl), HX2.out.grown⟩
              · have d3 : decide (3 < s) = false := decide_eq_false h3
                have HA2 : Hid (∀ j, j < k + 1 → levelOK ts lv j) := HUP.out (HOK.out.2 ⟨⟨by omega, by omega⟩, HEX.out.1 rfl⟩)
                clear h1 h3
                go_wp2_with fail
                go_roundg (ln - (k + 1))
                case measure => have := HGK.out; omega
                case rel => exact ⟨k + 1, by omega, rfl, by go_num, HX2.out, HA2.out⟩
    · obtain rfl : k = ln := by omega
      have hrt : r = true := HR.out.2 (by rw [HLN.out]; exact HA.out)
      go_wp2_with fail
      go_ret
      exact ⟨by first | rfl | (rw [hrt]; rfl), HX.out.grown⟩

set_option maxRecDepth 100000 in
set_option maxHeartbeats 1000000 in
theorem nonsFit_any (ta na la pa : Option Addr) (tn nn ln pn tc nc lc pc ad : Nat) (st : Int) (ns : List ByteArray) (w : World) (hN : StrsAt w na ns) (hnn : ns.length = nn) (hn : nn ≤ 65) (hle : ad ≤ nn) (hsz : ∀ s ∈ ns, s.size ≤ 140737488355328) (r : Bool)
    (hr : r = true ↔ ∀ i, ad ≤ i → i < ns.length → nonAt ns ad i) :
    Calls Tryz.prog 45 #[.agg #[.slice ta tn tc, .slice na nn nc, .slice la ln lc, .int .i64 st, .slice pa pn pc], .int .i64 ad] w fun e w' => e = .returned (.bool r) ∧ w.grownBy w' none := by
  have HN : Hid (StrsAt w na ns) := hN
  have HNN : Hid (ns.length = nn) := hnn
  have HSZ : Hid (∀ s ∈ ns, s.size ≤ 140737488355328) := hsz
  have HR : Hid (r = true ↔ ∀ i, ad ≤ i → i < ns.length → nonAt ns ad i) := hr
  have HX0 : Hid (PhAt w (w.alloc (.cells #[.slice ta tn tc, .slice na nn nc, .slice la ln lc, .int .i64 st, .slice pa pn pc] 27)) w.heap.size #[.slice ta tn tc, .slice na nn nc, .slice la ln lc, .int .i64 st, .slice pa pn pc]) := ⟨World.grownBy_alloc _ _ none, heap_alloc_last w _⟩
  clear hN hsz hr hnn
  go_enter Tryz.func45, Tryz.ntmps45
  go_wp2_with fail
  go_loopg [5] (nn - ad) (fun gk i wr => ∃ k : Nat, ad ≤ k ∧ k ≤ nn ∧ gk = nn - k ∧ i = .int .i64 k ∧ PhAt w wr w.heap.size #[.slice ta tn tc, .slice na nn nc, .slice la ln lc, .int .i64 st, .slice pa pn pc] ∧ ∀ j, ad ≤ j → j < k → nonAt ns ad j)
  case atStart => exact ⟨ad, Nat.le_refl _, hle, rfl, rfl, HX0.out, fun j h1 h2 => by omega⟩
  case round =>
    obtain ⟨k, hk1, hk, hgk, rfl, hX, hall⟩ := hrel
    have HX : Hid (PhAt w wr w.heap.size #[.slice ta tn tc, .slice na nn nc, .slice la ln lc, .int .i64 st, .slice pa pn pc]) := hX
    have HA : Hid (∀ j, ad ≤ j → j < k → nonAt ns ad j) := hall
    have HGK : Hid (gk = nn - k) := hgk
    clear hX hall hgk HX0
    obtain ⟨m0, m1, m2, m3, m4⟩ := HX.out.cells
    by_cases hlt : k < nn
    · obtain ⟨b, off, rfl, hcs⟩ : ∃ b off, na = some ⟨b, off, none⟩ ∧ ∀ i, i < ns.length → w.cell? ⟨b, off + i, none⟩ = some (.string (ns.getD i ⟨#[]⟩)) := by
        rcases HN.out with h | h
        · have := HNN.out; rw [h] at this; simp at this; omega
        · exact h
      have HCS : Hid (∀ i, i < nn → ∀ W, w.grownBy W none → W.cell? ⟨b, off + i, none⟩ = some (.string (ns.getD i ⟨#[]⟩))) := fun i hi W hg => hg.cell (hcs i (by rw [HNN.out]; exact hi)) (by simp)
      clear hcs
      have c0 := HCS.out k hlt _ HX.out.grown
      have HC := rIsName_any (ns.getD k ⟨#[]⟩) wr (HSZ.out _ (getD_mem (by rw [HNN.out]; exact hlt)))
      have HRF : Hid (¬ nonAt ns ad k → r = false) := fun hno => Bool.eq_false_iff.2 fun hh => hno (HR.out.1 hh k hk1 (by rw [HNN.out]; exact hlt))
      generalize hS : ns.getD k ⟨#[]⟩ = S at *
      have HS : Hid (ns.getD k ⟨#[]⟩ = S) := hS
      clear hS
      cases hb : isNameB S with
      | false =>
        rw [hb] at HC
        have hf : r = false := HRF.out fun h => by have := h.1; rw [HS.out, hb] at this; cases this
        clear hb
        go_wp2_with (go_at_call 53; refine HC.mono ?_; rintro e w' ⟨rfl, rfl⟩)
        go_ret
        exact ⟨by first | rfl | (rw [hf]; rfl), HX.out.grown⟩
      | true =>
        rw [hb] at HC
        have HOK : Hid (isNameB (ns.getD k ⟨#[]⟩) = true) := by show _ = true; rw [HS.out]; exact hb
        clear hb
        go_wp2_with (go_at_call 53; refine HC.mono ?_; rintro e w' ⟨rfl, rfl⟩)
        clear m0 m1 m2 m3 m4 c0 HC
        go_loopg [7] (k - ad) (fun gx i wr => ∃ x : Nat, ad ≤ x ∧ x ≤ k ∧ gx = k - x ∧ i = .int .i64 x ∧ PhAt w wr w.heap.size #[.slice ta tn tc, .slice (some ⟨b, off, none⟩) nn nc, .slice la ln lc, .int .i64 st, .slice pa pn pc] ∧ ∀ j, ad ≤ j → j < x → ns.getD j ⟨#[]⟩ ≠ S)
        case atStart => exact ⟨ad, Nat.le_refl _, hk1, rfl, rfl, HX.out, fun j h1 h2 => by omega⟩
        case round =>
          obtain ⟨x, hx1, hx, hgx, rfl, hX, hall⟩ := hrel
          have HX2 : Hid (PhAt w wr w.heap.size #[.slice ta tn tc, .slice (some ⟨b, off, none⟩) nn nc, .slice la ln lc, .int .i64 st, .slice pa pn pc]) := hX
          have HY : Hid (∀ j, ad ≤ j → j < x → ns.getD j ⟨#[]⟩ ≠ S) := hall
          have HGX : Hid (gk = k - x) := hgx
          clear hX hall hgx HX
          obtain ⟨m0, m1, m2, m3, m4⟩ := HX2.out.cells
          by_cases hlx : x < k
          · have c0 := HCS.out x (by omega) _ HX2.out.grown
            have c2 := HCS.out k hlt _ HX2.out.grown
            rw [HS.out] at c2
            have HNO : Hid (ns.getD x ⟨#[]⟩ = S → r = false) := fun e => HRF.out fun h => h.2 x hx1 hlx (by rw [HS.out]; exact e)
            have HST : Hid (ns.getD x ⟨#[]⟩ ≠ S → ∀ j, ad ≤ j → j < x + 1 → ns.getD j ⟨#[]⟩ ≠ S) := fun hne j h1 h2 => by
              by_cases e : j = x
              · rw [e]; exact hne
              · exact HY.out j h1 (by omega)
            generalize ns.getD x ⟨#[]⟩ = T at *
            by_cases he : T = S
            · have hf := HNO.out he
              have d3 := strEq_true he
              clear he HNO HST
              go_wp2_with fail
              go_quiet (fail)
              go_wp2_with fail
              go_ret
              exact ⟨by first | rfl | (rw [hf]; rfl), grown_trans HX2.out.grown (grown_drewN _ _)⟩
            · have d3 := strEq_false he
              have HS2 : Hid (∀ j, ad ≤ j → j < x + 1 → ns.getD j ⟨#[]⟩ ≠ S) := HST.out he
              clear he HNO HST
              go_wp2_with fail
              go_quiet (fail)
              have HX3 : Hid (PhAt w (wr.drewN nq) w.heap.size #[.slice ta tn tc, .slice (some ⟨b, off, none⟩) nn nc, .slice la ln lc, .int .i64 st, .slice pa pn pc]) := HX2.out.kept (grown_drewN _ _)
              clear m0 m1 m2 m3 m4 c0 c2 HX2
              generalize wr.drewN nq = W at *
              go_wp2_with fail
              go_roundg (k - (x + 1))
              case measure => have := HGX.out; omega
              case rel => exact ⟨x + 1, by omega, by omega, rfl, by go_num, HX3.out, HS2.out⟩
          · obtain rfl : x = k := by omega
            have HA2 : Hid (∀ j, ad ≤ j → j < x + 1 → nonAt ns ad j) := fun j h1 h2 => by
              by_cases e : j = x
              · rw [e]; exact ⟨HOK.out, fun k' h3 h4 => by rw [HS.out]; exact HY.out k' h3 h4⟩
              · exact HA.out j h1 (by omega)
            go_wp2_with fail
            go_roundg (nn - (x + 1))
            case measure => have := HGK.out; omega
            case rel => exact ⟨x + 1, by omega, by omega, rfl, by go_num, HX2.out, HA2.out⟩
    · obtain rfl : k = nn := by omega
      have hrt : r = true := HR.out.2 (fun i h1 h2 => HA.out i h1 (by rw [← HNN.out]; exact h2))
      go_wp2_with fail
      go_ret
      exact ⟨by first | rfl | (rw [hrt]; rfl), HX.out.grown⟩

end Go.Proofs.YtckgjolaoifgkaaGreat

/-
  The document's Symbols and prodsFit.
-/
namespace Go.Proofs.YtckgjolaoifgkaaGreat
open Go.RowKit

attribute [local go_sem] Oper.semAt_some

theorem symbols_any (ta na la pa : Option Addr) (tn nn ln pn tc nc lc pc : Nat) (st : Int) (w : World) (ht : tn ≤ 140737488355328) (hn : nn ≤ 140737488355328) :
    Calls Tryz.prog 27 #[.agg #[.slice ta tn tc, .slice na nn nc, .slice la ln lc, .int .i64 st, .slice pa pn pc]] w fun e w' => e = .returned (.int .i64 ((tn : Int) + nn)) ∧ w.grownBy w' none := by
  go_enter Tryz.func27, Tryz.ntmps27
  go_wp2_with fail
  go_ret
  exact ⟨by first | rfl | go_num, World.grownBy_alloc _ _ none⟩

/-- The grammar's box and a production's. -/
structure PrAt (w wr : World) (Bg : Nat) (cs : Array Value) (Bp : Nat) (ps : Array Value) : Prop where
  ph : PhAt w wr Bg cs
  box : wr.heap[Bp]? = some (.cells ps 46 (0, 0))
theorem PrAt.kept {w wr wx : World} {Bg Bp : Nat} {cs ps : Array Value} (h : PrAt w wr Bg cs Bp ps) (hg : wr.grownBy wx none) : PrAt w wx Bg cs Bp ps :=
  ⟨h.ph.kept hg, (hg.block Bp (Array.getElem?_eq_some_iff.1 h.box).1 (by simp)).trans h.box⟩
theorem PrAt.cells {w wr : World} {Bg Bp : Nat} {cs : Array Value} {v0 v1 v2 : Value} (h : PrAt w wr Bg cs Bp #[v0, v1, v2]) : wr.cell? ⟨Bp, 0, none⟩ = some v0 ∧ wr.cell? ⟨Bp, 1, none⟩ = some v1 ∧ wr.cell? ⟨Bp, 2, none⟩ = some v2 := by
  refine ⟨?_, ?_, ?_⟩ <;> rw [cell_of_row _ _ _ _ _ _ h.box] <;> rfl
theorem PrAt.made {w wr : World} {Bg : Nat} {cs ps : Array Value} (h : PhAt w wr Bg cs) : PrAt w (wr.alloc (.cells ps 46)) Bg cs wr.heap.size ps := ⟨h.kept (World.grownBy_alloc _ _ none), heap_alloc_last wr _⟩

set_option maxRecDepth 100000 in
set_option maxHeartbeats 2000000 in
theorem prodsFit_any (ta na la pa : Option Addr) (tn nn ln pn tc nc lc pc ad : Nat) (st ls : Int) (L : Nat → Int) (R : Nat → List Int) (ra : Nat → Option Addr) (rc : Nat → Nat) (V : Nat → Int) (w : World) (hP : ProdsAt w pa pn L R ra rc V) (hn : pn ≤ 97) (ht0 : 0 < tn) (ht : tn ≤ 65) (hnn : nn ≤ 65) (had : ad ≤ pn) (hls : ls = (tn : Int) + ad)
    (r : Bool) (hr : r = true ↔ ∀ i, ad ≤ i → i < pn → prodOK tn nn ln ad (L i) (R i) (V i)) :
    Calls Tryz.prog 46 #[.agg #[.slice ta tn tc, .slice na nn nc, .slice la ln lc, .int .i64 st, .slice pa pn pc], .int .i64 ad, .int .i64 ls] w fun e w' => e = .returned (.bool r) ∧ w.grownBy w' none := by
  have HP : Hid (ProdsAt w pa pn L R ra rc V) := hP
  have HLS : Hid (ls = (tn : Int) + ad) := hls
  have HR : Hid (r = true ↔ ∀ i, ad ≤ i → i < pn → prodOK tn nn ln ad (L i) (R i) (V i)) := hr
  have HX0 : Hid (PhAt w (w.alloc (.cells #[.slice ta tn tc, .slice na nn nc, .slice la ln lc, .int .i64 st, .slice pa pn pc] 27)) w.heap.size #[.slice ta tn tc, .slice na nn nc, .slice la ln lc, .int .i64 st, .slice pa pn pc]) := ⟨World.grownBy_alloc _ _ none, heap_alloc_last w _⟩
  clear hP hr hls
  go_enter Tryz.func46, Tryz.ntmps46
  go_wp2_with fail
  go_loopg [7] (pn - ad) (fun gk i wr => ∃ k : Nat, ad ≤ k ∧ k ≤ pn ∧ gk = pn - k ∧ i = .int .i64 k ∧ PhAt w wr w.heap.size #[.slice ta tn tc, .slice na nn nc, .slice la ln lc, .int .i64 st, .slice pa pn pc] ∧ ∀ j, ad ≤ j → j < k → prodOK tn nn ln ad (L j) (R j) (V j))
  case atStart => exact ⟨ad, Nat.le_refl _, had, rfl, rfl, HX0.out, fun j h1 h2 => by omega⟩
  case round =>
    obtain ⟨k, hk1, hk, hgk, rfl, hX, hall⟩ := hrel
    have HX : Hid (PhAt w wr w.heap.size #[.slice ta tn tc, .slice na nn nc, .slice la ln lc, .int .i64 st, .slice pa pn pc]) := hX
    have HA : Hid (∀ j, ad ≤ j → j < k → prodOK tn nn ln ad (L j) (R j) (V j)) := hall
    have HGK : Hid (gk = pn - k) := hgk
    clear hX hall hgk HX0
    obtain ⟨m0, m1, m2, m3, m4⟩ := HX.out.cells
    by_cases hlt : k < pn
    · obtain ⟨bp, off, rfl, hcs⟩ : ∃ b off, pa = some ⟨b, off, none⟩ ∧ ∀ k, k < pn → w.cell? ⟨b, off + k * 3, none⟩ = some (.int .i64 (L k)) ∧ w.cell? ⟨b, off + k * 3 + 1, none⟩ = some (.slice (ra k) (R k).length (rc k)) ∧ w.cell? ⟨b, off + k * 3 + 2, none⟩ = some (.int .i64 (V k)) ∧ IntsAt w (ra k) (R k) ∧ (ra k = none → rc k = 0) ∧ (R k).length ≤ 17592186044416 := by
        rcases HP.out with h | h
        · omega
        · exact h
      obtain ⟨h1, h2, h3, hI, _, hlen⟩ := hcs k hlt
      have c0 := HX.out.grown.cell h1 (by simp)
      have c1 := HX.out.grown.cell h2 (by simp)
      have c2 := HX.out.grown.cell h3 (by simp)
      have HI : Hid (IntsAt w (ra k) (R k)) := hI
      have HRF : Hid (¬ prodOK tn nn ln ad (L k) (R k) (V k) → r = false) := fun hno => Bool.eq_false_iff.2 fun hh => hno (HR.out.1 hh k hk1 hlt)
      have HUP : Hid (prodOK tn nn ln ad (L k) (R k) (V k) → ∀ j, ad ≤ j → j < k + 1 → prodOK tn nn ln ad (L j) (R j) (V j)) := fun h j h1 h2 => by
        by_cases e : j = k
        · rw [e]; exact h
        · exact HA.out j h1 (by omega)
      clear hcs h1 h2 h3 hI
      generalize L k = l at *
      generalize V k = v at *
      generalize ra k = ak at *
      generalize rc k = ck at *
      generalize hRk : R k = Rk at *
      clear hRk
      obtain ⟨len, hle⟩ : ∃ len, len = Rk.length := ⟨_, rfl⟩
      have HLE : Hid (Rk.length = len) := hle.symm
      rw [← hle] at hlen c1
      clear hle
      have hcase : (l < ls ∨ (tn : Int) + nn ≤ l ∨ v < 0 ∨ (ln : Int) < v) ∨ (¬ l < ls ∧ ¬ (tn : Int) + nn ≤ l ∧ ¬ v < 0 ∧ ¬ (ln : Int) < v) := by omega
      have HPR : Hid (∀ o, PrAt w ((wr.alloc (.cells #[.int .i64 l, .slice ak len ck, .int .i64 v] 46)).drewN o) w.heap.size #[.slice ta tn tc, .slice na nn nc, .slice la ln lc, .int .i64 st, .slice (some ⟨bp, off, none⟩) pn pc] wr.heap.size #[.int .i64 l, .slice ak len ck, .int .i64 v]) := fun o => (PrAt.made HX.out).kept (grown_drewN _ _)
      rcases hcase with hbad | hgood
      · have hf : r = false := HRF.out fun h => by
          have h1 := h.1
          have h2 := h.2.1
          unfold isNonI at h1
          have := HLS.out
          omega
        have hcase2 : l < ls ∨ (¬ l < ls ∧ (tn : Int) + nn ≤ l) ∨ (¬ l < ls ∧ ¬ (tn : Int) + nn ≤ l ∧ v < 0) ∨ (¬ l < ls ∧ ¬ (tn : Int) + nn ≤ l ∧ ¬ v < 0 ∧ (ln : Int) < v) := by omega
        clear hbad
        rcases hcase2 with hc | hc | hc | hc
        · have d1 : decide (l < ls) = true := decide_eq_true hc
          clear hc
          go_wp2_with fail
          go_quiet (fail)
          go_wp2_with fail
          go_ret
          exact ⟨by first | rfl | (rw [hf]; rfl), (HPR.out _).ph.grown⟩
        all_goals
          have d1 : decide (l < ls) = false := decide_eq_false (by omega)
          first | (have d2 : decide ((tn : Int) + nn ≤ l) = true := decide_eq_true (by omega)) | (have d2 : decide ((tn : Int) + nn ≤ l) = false := decide_eq_false (by omega))
          try first | (have d3 : decide (v < 0) = true := decide_eq_true (by omega)) | (have d3 : decide (v < 0) = false := decide_eq_false (by omega))
          try first | (have d4 : decide ((ln : Int) < v) = true := decide_eq_true (by omega)) | (have d4 : decide ((ln : Int) < v) = false := decide_eq_false (by omega))
          clear hc
          go_wp2_with fail
          have hA := HPR.out 1
          haveI hne : Nonempty (WBox (fun x => PrAt w x w.heap.size #[.slice ta tn tc, .slice na nn nc, .slice la ln lc, .int .i64 st, .slice (some ⟨bp, off, none⟩) pn pc] wr.heap.size #[.int .i64 l, .slice ak len ck, .int .i64 v])) := ⟨⟨_, hA⟩⟩
          have q0 := fun s : WBox (fun x => PrAt w x w.heap.size #[.slice ta tn tc, .slice na nn nc, .slice la ln lc, .int .i64 st, .slice (some ⟨bp, off, none⟩) pn pc] wr.heap.size #[.int .i64 l, .slice ak len ck, .int .i64 v]) => s.ok.cells.1
          have q2 := fun s : WBox (fun x => PrAt w x w.heap.size #[.slice ta tn tc, .slice na nn nc, .slice la ln lc, .int .i64 st, .slice (some ⟨bp, off, none⟩) pn pc] wr.heap.size #[.int .i64 l, .slice ak len ck, .int .i64 v]) => s.ok.cells.2.2
          have g0 := fun s : WBox (fun x => PrAt w x w.heap.size #[.slice ta tn tc, .slice na nn nc, .slice la ln lc, .int .i64 st, .slice (some ⟨bp, off, none⟩) pn pc] wr.heap.size #[.int .i64 l, .slice ak len ck, .int .i64 v]) => s.ok.ph.cells.1
          have g1 := fun s : WBox (fun x => PrAt w x w.heap.size #[.slice ta tn tc, .slice na nn nc, .slice la ln lc, .int .i64 st, .slice (some ⟨bp, off, none⟩) pn pc] wr.heap.size #[.int .i64 l, .slice ak len ck, .int .i64 v]) => s.ok.ph.cells.2.1
          have g2 := fun s : WBox (fun x => PrAt w x w.heap.size #[.slice ta tn tc, .slice na nn nc, .slice la ln lc, .int .i64 st, .slice (some ⟨bp, off, none⟩) pn pc] wr.heap.size #[.int .i64 l, .slice ak len ck, .int .i64 v]) => s.ok.ph.cells.2.2.1
          have g3 := fun s : WBox (fun x => PrAt w x w.heap.size #[.slice ta tn tc, .slice na nn nc, .slice la ln lc, .int .i64 st, .slice (some ⟨bp, off, none⟩) pn pc] wr.heap.size #[.int .i64 l, .slice ak len ck, .int .i64 v]) => s.ok.ph.cells.2.2.2.1
          have g4 := fun s : WBox (fun x => PrAt w x w.heap.size #[.slice ta tn tc, .slice na nn nc, .slice la ln lc, .int .i64 st, .slice (some ⟨bp, off, none⟩) pn pc] wr.heap.size #[.int .i64 l, .slice ak len ck, .int .i64 v]) => s.ok.ph.cells.2.2.2.2
          have K1 : Hid (∀ s : WBox (fun x => PrAt w x w.heap.size #[.slice ta tn tc, .slice na nn nc, .slice la ln lc, .int .i64 st, .slice (some ⟨bp, off, none⟩) pn pc] wr.heap.size #[.int .i64 l, .slice ak len ck, .int .i64 v]), Calls Tryz.prog 27 #[.agg #[.slice ta tn tc, .slice na nn nc, .slice la ln lc, .int .i64 st, .slice (some ⟨bp, off, none⟩) pn pc]] s.w fun e w' => e = .returned (.int .i64 ((tn : Int) + nn)) ∧ ∃ s' : WBox (fun x => PrAt w x w.heap.size #[.slice ta tn tc, .slice na nn nc, .slice la ln lc, .int .i64 st, .slice (some ⟨bp, off, none⟩) pn pc] wr.heap.size #[.int .i64 l, .slice ak len ck, .int .i64 v]), w' = s'.w) := fun s => calls_class ((symbols_any ta na la (some ⟨bp, off, none⟩) tn nn ln pn tc nc lc pc st s.w (by omega) (by omega)).mono fun e w' h => ⟨h.1, s.ok.kept h.2⟩)
          refine wp_region_class (p := fun x => PrAt w x w.heap.size #[.slice ta tn tc, .slice na nn nc, .slice la ln lc, .int .i64 st, .slice (some ⟨bp, off, none⟩) pn pc] wr.heap.size #[.int .i64 l, .slice ak len ck, .int .i64 v]) (by kernel_rfl) (by kernel_rfl) hA ?_
          repeat (go_big_quiet_step (first | (go_at_call 27; rename_i s; with_reducible exact K1.out s)))
          refine wpQuiet_nil ?_
          rintro _ ⟨s, rfl⟩
          go_wp2_with fail
          go_ret
          exact ⟨by first | rfl | (rw [hf]; rfl), s.ok.ph.grown⟩
      · have d1 : decide (l < ls) = false := decide_eq_false hgood.1
        have d2 : decide ((tn : Int) + nn ≤ l) = false := decide_eq_false hgood.2.1
        have d3 : decide (v < 0) = false := decide_eq_false hgood.2.2.1
        have d4 : decide ((ln : Int) < v) = false := decide_eq_false hgood.2.2.2
        have HOK : Hid (isNonI tn nn ad l ∧ 0 ≤ v ∧ v ≤ (ln : Int)) := ⟨⟨by have := HLS.out; omega, by omega⟩, by omega, by omega⟩
        clear hgood
        go_wp2_with fail
        have hA := HPR.out 1
        haveI hne : Nonempty (WBox (fun x => PrAt w x w.heap.size #[.slice ta tn tc, .slice na nn nc, .slice la ln lc, .int .i64 st, .slice (some ⟨bp, off, none⟩) pn pc] wr.heap.size #[.int .i64 l, .slice ak len ck, .int .i64 v])) := ⟨⟨_, hA⟩⟩
        have q0 := fun s : WBox (fun x => PrAt w x w.heap.size #[.slice ta tn tc, .slice na nn nc, .slice la ln lc, .int .i64 st, .slice (some ⟨bp, off, none⟩) pn pc] wr.heap.size #[.int .i64 l, .slice ak len ck, .int .i64 v]) => s.ok.cells.1
        have q2 := fun s : WBox (fun x => PrAt w x w.heap.size #[.slice ta tn tc, .slice na nn nc, .slice la ln lc, .int .i64 st, .slice (some ⟨bp, off, none⟩) pn pc] wr.heap.size #[.int .i64 l, .slice ak len ck, .int .i64 v]) => s.ok.cells.2.2
        have g0 := fun s : WBox (fun x => PrAt w x w.heap.size #[.slice ta tn tc, .slice na nn nc, .slice la ln lc, .int .i64 st, .slice (some ⟨bp, off, none⟩) pn pc] wr.heap.size #[.int .i64 l, .slice ak len ck, .int .i64 v]) => s.ok.ph.cells.1
        have g1 := fun s : WBox (fun x => PrAt w x w.heap.size #[.slice ta tn tc, .slice na nn nc, .slice la ln lc, .int .i64 st, .slice (some ⟨bp, off, none⟩) pn pc] wr.heap.size #[.int .i64 l, .slice ak len ck, .int .i64 v]) => s.ok.ph.cells.2.1
        have g2 := fun s : WBox (fun x => PrAt w x w.heap.size #[.slice ta tn tc, .slice na nn nc, .slice la ln lc, .int .i64 st, .slice (some ⟨bp, off, none⟩) pn pc] wr.heap.size #[.int .i64 l, .slice ak len ck, .int .i64 v]) => s.ok.ph.cells.2.2.1
        have g3 := fun s : WBox (fun x => PrAt w x w.heap.size #[.slice ta tn tc, .slice na nn nc, .slice la ln lc, .int .i64 st, .slice (some ⟨bp, off, none⟩) pn pc] wr.heap.size #[.int .i64 l, .slice ak len ck, .int .i64 v]) => s.ok.ph.cells.2.2.2.1
        have g4 := fun s : WBox (fun x => PrAt w x w.heap.size #[.slice ta tn tc, .slice na nn nc, .slice la ln lc, .int .i64 st, .slice (some ⟨bp, off, none⟩) pn pc] wr.heap.size #[.int .i64 l, .slice ak len ck, .int .i64 v]) => s.ok.ph.cells.2.2.2.2
        have K1 : Hid (∀ s : WBox (fun x => PrAt w x w.heap.size #[.slice ta tn tc, .slice na nn nc, .slice la ln lc, .int .i64 st, .slice (some ⟨bp, off, none⟩) pn pc] wr.heap.size #[.int .i64 l, .slice ak len ck, .int .i64 v]), Calls Tryz.prog 27 #[.agg #[.slice ta tn tc, .slice na nn nc, .slice la ln lc, .int .i64 st, .slice (some ⟨bp, off, none⟩) pn pc]] s.w fun e w' => e = .returned (.int .i64 ((tn : Int) + nn)) ∧ ∃ s' : WBox (fun x => PrAt w x w.heap.size #[.slice ta tn tc, .slice na nn nc, .slice la ln lc, .int .i64 st, .slice (some ⟨bp, off, none⟩) pn pc] wr.heap.size #[.int .i64 l, .slice ak len ck, .int .i64 v]), w' = s'.w) := fun s => calls_class ((symbols_any ta na la (some ⟨bp, off, none⟩) tn nn ln pn tc nc lc pc st s.w (by omega) (by omega)).mono fun e w' h => ⟨h.1, s.ok.kept h.2⟩)
        refine wp_region_class (p := fun x => PrAt w x w.heap.size #[.slice ta tn tc, .slice na nn nc, .slice la ln lc, .int .i64 st, .slice (some ⟨bp, off, none⟩) pn pc] wr.heap.size #[.int .i64 l, .slice ak len ck, .int .i64 v]) (by kernel_rfl) (by kernel_rfl) hA ?_
        repeat (go_big_quiet_step (first | (go_at_call 27; rename_i s; with_reducible exact K1.out s)))
        refine wpQuiet_nil ?_
        rintro _ ⟨s, rfl⟩
        have HX1 : Hid (PrAt w s.w w.heap.size #[.slice ta tn tc, .slice na nn nc, .slice la ln lc, .int .i64 st, .slice (some ⟨bp, off, none⟩) pn pc] wr.heap.size #[.int .i64 l, .slice ak len ck, .int .i64 v]) := s.ok
        generalize s.w = W1 at *
        clear s K1 q0 q2 g0 g1 g2 g3 g4 hne hA HPR c0 c1 c2 m0 m1 m2 m3 m4 HX d1 d2 d3 d4
        generalize wr.heap.size = Bp at *
        go_wp2_with fail
        go_loopg [9] len (fun gx i wz => ∃ x : Nat, x ≤ len ∧ gx = len - x ∧ i = .int .i64 x ∧ PrAt w wz w.heap.size #[.slice ta tn tc, .slice na nn nc, .slice la ln lc, .int .i64 st, .slice (some ⟨bp, off, none⟩) pn pc] Bp #[.int .i64 l, .slice ak len ck, .int .i64 v] ∧ ∀ y ∈ Rk.take x, isSymI tn nn ad y)
        case atStart => exact ⟨0, Nat.zero_le _, rfl, rfl, HX1.out, fun y hy => by simp at hy⟩
        case round =>
          obtain ⟨x, hx, hgx, rfl, hX, hall⟩ := hrel
          have HX : Hid (PrAt w wr w.heap.size #[.slice ta tn tc, .slice na nn nc, .slice la ln lc, .int .i64 st, .slice (some ⟨bp, off, none⟩) pn pc] Bp #[.int .i64 l, .slice ak len ck, .int .i64 v]) := hX
          have HY : Hid (∀ y ∈ Rk.take x, isSymI tn nn ad y) := hall
          have HGX : Hid (gk = len - x) := hgx
          clear hX hall hgx HX1
          obtain ⟨q0, q1, q2⟩ := HX.out.cells
          obtain ⟨m0, m1, m2, m3, m4⟩ := HX.out.ph.cells
          by_cases hlx : x < len
          · have hxl : x < Rk.length := by rw [HLE.out]; exact hlx
            obtain ⟨bl, of2, rfl, hcs⟩ : ∃ b off, ak = some ⟨b, off, none⟩ ∧ ∀ i, i < Rk.length → wr.cell? ⟨b, off + i, none⟩ = some (.int .i64 (Rk.getD i 0)) := by
              rcases HI.out.kept HX.out.ph.grown with h | h
              · rw [h] at hxl; simp at hxl
              · exact h
            have hch := hcs x hxl
            have hmem : Rk.getD x 0 ∈ Rk := by
              have e : Rk.getD x 0 = Rk[x] := by simp [List.getD, hxl]
              rw [e]; exact List.getElem_mem _
            have htk : Rk.take (x + 1) = Rk.take x ++ [Rk.getD x 0] := by rw [List.take_succ_eq_append_getElem hxl]; simp [List.getD, hxl]
            obtain ⟨h, hh⟩ : ∃ h, h = Rk.getD x 0 := ⟨_, rfl⟩
            rw [← hh] at hch hmem htk
            have HST : Hid (isSymI tn nn ad h → ∀ y ∈ Rk.take (x + 1), isSymI tn nn ad y) := fun hs y hy => by
              rw [htk] at hy
              rcases List.mem_append.1 hy with hy | hy
              · exact HY.out y hy
              · simp only [List.mem_singleton] at hy; rw [hy]; exact hs
            have HNO : Hid (¬ isSymI tn nn ad h → r = false) := fun hno => HRF.out fun hp => hno (hp.2.2 h hmem)
            clear hcs hmem htk hh hxl
            have HIS : Hid (isSymI tn nn ad h ↔ ¬ h < 1 ∧ ¬ (tn : Int) + nn ≤ h ∧ ¬ ((tn : Int) ≤ h ∧ h < ls)) := by
              show _ ↔ _
              unfold isSymI isNonI
              have := HLS.out
              omega
            have HSY := symbols_any ta na la (some ⟨bp, off, none⟩) tn nn ln pn tc nc lc pc st wr (by omega) (by omega)
            by_cases h1 : h < 1
            · have d1 : decide (h < 1) = true := decide_eq_true h1
              have hf : r = false := HNO.out fun hs => (HIS.out.1 hs).1 h1
              clear h1 HSY
              go_wp2_with fail
              go_ret
              exact ⟨by first | rfl | (rw [hf]; rfl), HX.out.ph.grown⟩
            · have d1 : decide (h < 1) = false := decide_eq_false h1
              have hcase : (tn : Int) + nn ≤ h ∨ (¬ (tn : Int) + nn ≤ h ∧ (tn : Int) ≤ h ∧ h < ls) ∨ (¬ (tn : Int) + nn ≤ h ∧ (tn : Int) ≤ h ∧ ¬ h < ls) ∨ (¬ (tn : Int) + nn ≤ h ∧ ¬ (tn : Int) ≤ h) := by omega
              rcases hcase with hc | hc | hc | hc
              all_goals
                first | (have d2 : decide ((tn : Int) + nn ≤ h) = true := decide_eq_true (by omega)) | (have d2 : decide ((tn : Int) + nn ≤ h) = false := decide_eq_false (by omega))
                first | (have d3 : decide ((tn : Int) ≤ h) = true := decide_eq_true (by omega)) | (have d3 : decide ((tn : Int) ≤ h) = false := decide_eq_false (by omega))
                try first | (have d4 : decide (h < ls) = true := decide_eq_true (by omega)) | (have d4 : decide (h < ls) = false := decide_eq_false (by omega))
                first
                | (have hf : r = false := HNO.out (by rw [HIS.out]; omega)
                   clear h1 hc HIS
                   go_wp2_with (go_at_call 27; refine HSY.mono ?_; rintro e w2 ⟨rfl, hg2⟩; have HX2 := HX.out.kept hg2; obtain ⟨q0, q1, q2⟩ := HX2.cells; obtain ⟨m0, m1, m2, m3, m4⟩ := HX2.ph.cells; have HX3 : Hid (PrAt w w2 w.heap.size #[.slice ta tn tc, .slice na nn nc, .slice la ln lc, .int .i64 st, .slice (some ⟨bp, off, none⟩) pn pc] Bp #[.int .i64 l, .slice (some ⟨bl, of2, none⟩) len ck, .int .i64 v]) := HX2; clear HX2 hg2)
                   go_ret
                   exact ⟨by first | rfl | (rw [hf]; rfl), HX3.out.ph.grown⟩)
                | (have HS2 : Hid (∀ y ∈ Rk.take (x + 1), isSymI tn nn ad y) := HST.out (HIS.out.2 (by omega))
                   clear h1 hc HIS HST
                   go_wp2_with (go_at_call 27; refine HSY.mono ?_; rintro e w2 ⟨rfl, hg2⟩; have HX2 := HX.out.kept hg2; obtain ⟨q0, q1, q2⟩ := HX2.cells; obtain ⟨m0, m1, m2, m3, m4⟩ := HX2.ph.cells; have HX3 : Hid (PrAt w w2 w.heap.size #[.slice ta tn tc, .slice na nn nc, .slice la ln lc, .int .i64 st, .slice (some ⟨bp, off, none⟩) pn pc] Bp #[.int .i64 l, .slice (some ⟨bl, of2, none⟩) len ck, .int .i64 v]) := HX2; clear HX2 hg2)
                   go_roundg (len - (x + 1))
                   case measure => have := HGX.out; omega
                   case rel => exact ⟨x + 1, by omega, rfl, by go_num, HX3.out, HS2.out⟩)
          · obtain rfl : x = len := by omega
            have ht2 : Rk.take x = Rk := List.take_of_length_le (Nat.le_of_eq HLE.out)
            have HA2 : Hid (∀ j, ad ≤ j → j < k + 1 → prodOK tn nn ln ad (L j) (R j) (V j)) := HUP.out ⟨HOK.out.1, HOK.out.2, by have h4 := HY.out; rwa [ht2] at h4⟩
            clear ht2
            go_wp2_with fail
            go_roundg (pn - (k + 1))
            case measure => have := HGK.out; omega
            case rel => exact ⟨k + 1, by omega, by omega, rfl, by go_num, HX.out.ph, HA2.out⟩
    · obtain rfl : k = pn := by omega
      have hrt : r = true := HR.out.2 HA.out
      go_wp2_with fail
      go_ret
      exact ⟨by first | rfl | (rw [hrt]; rfl), HX.out.grown⟩

end Go.Proofs.YtckgjolaoifgkaaGreat
