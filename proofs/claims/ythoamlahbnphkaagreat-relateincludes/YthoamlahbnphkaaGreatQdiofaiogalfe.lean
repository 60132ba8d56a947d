import Derived.Test.YthoamlahbnphkaaGreatQbebfnabpmlmm
import Derived.Deep.RegionHeld3
import Derived.Test.YthoamlahbnphkaaGreatQkcobfonflehg

/-
  The document's Copy of any grammar: the same in new memory.
-/
namespace Go.Proofs.YthoamlahbnphkaaGreat
open Go.RowKit Go.Maps Go.Shelf

attribute [local go_sem] Oper.semAt_some

/-- While a grammar is copied: its box, the result's and the copy's. -/
structure CpAt (w X : World) (gb : Nat) (gv bv : Array Value) : Prop where
  grown : w.grownBy X none
  lo : w.heap.size ≤ gb
  gbox : X.heap[gb]? = some (.cells gv 27 (0, 0))
  rbox : X.heap[gb + 1]? = some (.cells #[.slice none 0 0, .slice none 0 0, .slice none 0 0, .int .i64 0, .slice none 0 0] 27 (0, 0))
  bbox : X.heap[gb + 1 + 1]? = some (.cells bv 27 (0, 0))

section
variable {w X Y : World} {gb : Nat} {gv bv : Array Value}
theorem CpAt.kept (h : CpAt w X gb gv bv) (hg : X.grownBy Y none) : CpAt w Y gb gv bv :=
  ⟨grown_trans h.grown hg, h.lo, (hg.block _ (Array.getElem?_eq_some_iff.1 h.gbox).1 (by simp)).trans h.gbox, (hg.block _ (Array.getElem?_eq_some_iff.1 h.rbox).1 (by simp)).trans h.rbox, (hg.block _ (Array.getElem?_eq_some_iff.1 h.bbox).1 (by simp)).trans h.bbox⟩
theorem CpAt.lt (h : CpAt w X gb gv bv) : gb + 1 + 1 < X.heap.size := (Array.getElem?_eq_some_iff.1 h.bbox).1
theorem CpAt.g (h : CpAt w X gb gv bv) (k : Nat) (v : Value) (hv : gv[k]? = some v) : X.cell? ⟨gb, k, none⟩ = some v := by rw [cell_of_row _ _ _ _ _ _ h.gbox]; exact hv
theorem CpAt.x (h : CpAt w X gb gv bv) (k : Nat) (v : Value) (hv : bv[k]? = some v) : X.cell? ⟨gb + 1 + 1, k, none⟩ = some v := by rw [cell_of_row _ _ _ _ _ _ h.bbox]; exact hv
theorem CpAt.row {e s n : Nat} {v : Value} {xs : List Value} (h : CpAt w X gb gv bv) (ho : X.ownsRow (gb + 1 + 1 + 1) e s v n xs) (hg : X.grownBy Y v.ownBlock) : CpAt w Y gb gv bv := by
  cases hv : v.ownBlock with
  | none => rw [hv] at hg; exact h.kept hg
  | some q =>
    rw [hv] at hg
    have hq := (ho.lt q hv).1
    have hlo := h.lo
    exact ⟨grown_new h.grown hg (by omega), h.lo, (hg.block _ (Array.getElem?_eq_some_iff.1 h.gbox).1 (by simp; omega)).trans h.gbox, (hg.block _ (Array.getElem?_eq_some_iff.1 h.rbox).1 (by simp; omega)).trans h.rbox, (hg.block _ (Array.getElem?_eq_some_iff.1 h.bbox).1 (by simp; omega)).trans h.bbox⟩
end

/-- The rows of a copy, k of its productions. -/
structure CpRows (X : World) (B : Nat) (ts : List (ByteArray × Int)) (ns : List ByteArray) (lv : List Int) (tn nn ln k : Nat) (L : Nat → Int) (R : Nat → List Int) (V : Nat → Int) (v1 v2 v3 v4 : Value) (rg : Nat → Value) : Prop where
  t : X.ownsRow B 88 2 v1 tn (tmsL ts)
  s : X.ownsRow B 9 1 v2 nn (ns.map Value.string)
  l : X.ownsRow B 3 1 v3 ln (lv.map (Value.int .i64))
  p : X.ownsRow B 71 3 v4 k (prodRow k L rg V)
  rr : ∀ i, i < k → X.ownsRow B 3 1 (rg i) (R i).length ((R i).map (Value.int .i64))

section
variable {X Y : World} {B tn nn ln k : Nat} {ts : List (ByteArray × Int)} {ns : List ByteArray} {lv : List Int} {L : Nat → Int} {R : Nat → List Int} {V : Nat → Int} {v1 v2 v3 v4 : Value} {rg : Nat → Value}
theorem CpRows.kept (h : CpRows X B ts ns lv tn nn ln k L R V v1 v2 v3 v4 rg) (hg : X.grownBy Y none) : CpRows Y B ts ns lv tn nn ln k L R V v1 v2 v3 v4 rg :=
  ⟨keep0 h.t hg, keep0 h.s hg, keep0 h.l hg, keep0 h.p hg, fun i hi => keep0 (h.rr i hi) hg⟩
theorem CpRows.box {kb j : Nat} {u : Value} (h : CpRows X (kb + 1) ts ns lv tn nn ln k L R V v1 v2 v3 v4 rg) : CpRows (X.setCell ⟨kb, j, none⟩ u) (kb + 1) ts ns lv tn nn ln k L R V v1 v2 v3 v4 rg :=
  ⟨owns_box h.t, owns_box h.s, owns_box h.l, owns_box h.p, fun i hi => owns_box (h.rr i hi)⟩
theorem CpRows.push {v5 v6 : Value} (h : CpRows X B ts ns lv tn nn ln k L R V v1 v2 v3 v4 rg) (h5 : X.ownsRow B 3 1 v5 (R k).length ((R k).map (Value.int .i64)))
    (h6 : Y.ownsRow B 71 3 v6 (k + 1) (prodRow k L rg V ++ [.int .i64 (L k), v5, .int .i64 (V k)])) (hg : X.grownBy Y v4.ownBlock) : CpRows Y B ts ns lv tn nn ln (k + 1) L R V v1 v2 v3 v6 (fun i => if i = k then v5 else rg i) := by
  refine ⟨owns_other h.t h.p (by decide) hg, owns_other h.s h.p (by decide) hg, owns_other h.l h.p (by decide) hg, ?_, fun i hi => ?_⟩
  · rw [prodRow_succ, if_pos rfl, ← prodRow_ext (n := k) (L := L) (L' := L) (r := rg) (V := V) (V' := V) (fun _ _ => rfl) (fun i hi => by rw [if_neg (by omega)]) (fun _ _ => rfl)]
    exact h6
  · by_cases e : i = k
    · subst e
      simp only [if_true]
      exact owns_other h5 h.p (by decide) hg
    · simp only [if_neg e]
      exact owns_other (h.rr i (by omega)) h.p (by decide) hg
end

end Go.Proofs.YthoamlahbnphkaaGreat

/-
  The document's Copy, told as a grammar that can be read.
-/
namespace Go.Proofs.YthoamlahbnphkaaGreat
open Go.RowKit Go.Maps Go.Shelf

theorem ProdsAt.ext {w : World} {pa : Option Addr} {n : Nat} {L L' V V' : Nat → Int} {R R' : Nat → List Int} {ra : Nat → Option Addr} {rc : Nat → Nat} (h : ProdsAt w pa n L R ra rc V) (h1 : ∀ i, i < n → L i = L' i) (h2 : ∀ i, i < n → R i = R' i) (h3 : ∀ i, i < n → V i = V' i) : ProdsAt w pa n L' R' ra rc V' := by
  rcases h with h | ⟨b, off, e, hc⟩
  · exact .inl h
  · refine .inr ⟨b, off, e, fun k hk => ?_⟩
    rw [← h1 k hk, ← h2 k hk, ← h3 k hk]
    exact hc k hk

end Go.Proofs.YthoamlahbnphkaaGreat
