/-
  The law's own 'some': the sets that raw numbers speak of.
-/
import Derived.Test.YtkmocjdjdlpphaaDoorPlaysInv
namespace Go.Proofs.YtkmocjdjdlpphaaDoor
open Go.RowKit Go.Shelf

def optL (p : Nat → Option Addr) (k : Nat) : List Value := (List.range k).map (fun j => Value.pointer (p j))
theorem optL_succ (p : Nat → Option Addr) (k : Nat) : optL p (k + 1) = optL p k ++ [.pointer (p k)] := by
  unfold optL; rw [List.range_succ, List.map_append]; rfl
theorem optL_at (p : Nat → Option Addr) (N j : Nat) (hj : j < N) : (optL p N)[j]? = some (.pointer (p j)) := by simp [optL, hj]
theorem optL_length (p : Nat → Option Addr) (N : Nat) : (optL p N).length = N := by simp [optL]

theorem pick_more (x : Int) (N : Nat) (w : World) (hx : -9223372036854775808 ≤ x) (hx2 : x ≤ 9223372036854775807) (hN : N ≤ 64) :
    Calls Tryd.prog 17 #[.int .i64 x, .int .i64 ((N : Int) + 1)] w fun e w' => e = .returned (.int .i64 (pickN x (N + 1) : Nat)) ∧ ∃ k, w' = w.drewN k := by
  have hw : (N : Int) + 1 = ((N + 1 : Nat) : Int) := by omega
  rw [hw]
  refine (pick_any x (N + 1) w hx hx2 (by omega) (by omega)).mono ?_
  rintro e w' ⟨rfl, rfl⟩
  exact ⟨rfl, 0, rfl⟩

theorem rows_apart {W : World} {base base' e e' n n' : Nat} {v v' : Value} {xs xs' : List Value} (h : W.ownsRow base e 1 v n xs) (h' : W.ownsRow base' e' 1 v' n' xs') (hne : e ≠ e') : v.ownBlock = none ∨ v.ownBlock ≠ v'.ownBlock := by
  rcases h'.2 with ⟨rfl, _⟩ | ⟨g', cap, cur, rfl, _, hh, _⟩
  · cases hv : v.ownBlock with
    | none => exact .inl rfl
    | some => right; simp [Value.ownBlock]
  · have := row_apart h hh (Ne.symm hne)
    simpa [Value.ownBlock] using this

theorem REmpty.grown {W W' : World} {base e n q : Nat} {v : Value} {xs : List Value} (h : REmpty W q) (hown : W.ownsRow base e 1 v n xs) (hne : (70 : Nat) ≠ e) (hg : W.grownBy W' v.ownBlock) : REmpty W' q := by
  have hh : W.heap[q]? = _ := h
  rcases row_apart hown hh hne with h0 | h0
  · rw [h0] at hg; exact (hg.block q h.lt (by simp)).trans h
  · exact (hg.block q h.lt h0.symm).trans h
theorem REmpty.alloc {W : World} {q : Nat} (h : REmpty W q) (o : Obj) : REmpty (W.alloc o) q := (Below.heap_alloc _ _ _ h.lt).trans h

/-- What 'some' has made of the first k numbers. -/
structure SomeAt (W wr : World) (N : Nat) (br K : Nat → Nat) (p : Nat → Option Addr) (k : Nat) (vX vR : Value) (r : Nat → Nat) : Prop where
  bel : Below W.heap.size W wr
  xs : wr.ownsRow W.heap.size 34 1 vX k (optL p k)
  rs : wr.ownsRow W.heap.size 35 1 vR k (ptrsL r k)
  each : ∀ j, j < k → (K j < N ∧ r j = br (K j)) ∨ (K j = N ∧ W.heap.size ≤ r j ∧ REmpty wr (r j))

theorem SomeAt.drewN {W wr : World} {N : Nat} {br K : Nat → Nat} {p : Nat → Option Addr} {k : Nat} {vX vR : Value} {r : Nat → Nat} (h : SomeAt W wr N br K p k vX vR r) (j : Nat) : SomeAt W (wr.drewN j) N br K p k vX vR r :=
  ⟨Below.drewN' h.bel j, h.xs, h.rs, h.each⟩

theorem SomeAt.pushX {W wr w1 : World} {N : Nat} {br K : Nat → Nat} {p : Nat → Option Addr} {k : Nat} {vX vR vX' : Value} {r : Nat → Nat} {o : Obj} (h : SomeAt W wr N br K p k vX vR r)
    (hown : w1.ownsRow W.heap.size 34 1 vX' (k + 1) (optL p k ++ [.pointer (p k)])) (hgrow : (wr.alloc o).grownBy w1 vX.ownBlock) :
    Below W.heap.size W w1 ∧ w1.ownsRow W.heap.size 34 1 vX' (k + 1) (optL p (k + 1)) ∧ w1.ownsRow W.heap.size 35 1 vR k (ptrsL r k) ∧ ∀ j, j < k → (K j < N ∧ r j = br (K j)) ∨ (K j = N ∧ W.heap.size ≤ r j ∧ REmpty w1 (r j)) := by
  refine ⟨below_append h.bel h.xs hgrow h.bel.size, by rw [optL_succ]; exact hown, (h.rs.alloc o).kept hgrow (rows_apart h.rs h.xs (by decide)), fun j hj => ?_⟩
  rcases h.each j hj with h' | ⟨h1, h2, h3⟩
  · exact .inl h'
  · exact .inr ⟨h1, h2, (h3.alloc o).grown (h.xs.alloc o) (by decide) hgrow⟩

theorem SomeAt.pushR {W w1 w2 : World} {N : Nat} {br K : Nat → Nat} {p : Nat → Option Addr} {k : Nat} {vR vX' vR' : Value} {r : Nat → Nat} {o : Obj} {q : Nat} (hb : Below W.heap.size W w1) (hx : w1.ownsRow W.heap.size 34 1 vX' (k + 1) (optL p (k + 1))) (hr : w1.ownsRow W.heap.size 35 1 vR k (ptrsL r k))
    (he : ∀ j, j < k → (K j < N ∧ r j = br (K j)) ∨ (K j = N ∧ W.heap.size ≤ r j ∧ REmpty w1 (r j))) (hk : (K k < N ∧ q = br (K k)) ∨ (K k = N ∧ W.heap.size ≤ q ∧ REmpty w1 q))
    (hown : w2.ownsRow W.heap.size 35 1 vR' (k + 1) (ptrsL r k ++ [.pointer (some ⟨q, 0, none⟩)])) (hgrow : (w1.alloc o).grownBy w2 vR.ownBlock) : SomeAt W w2 N br K p (k + 1) vX' vR' (upd r k q) := by
  refine ⟨below_append hb hr hgrow hb.size, (hx.alloc o).kept hgrow (rows_apart hx hr (by decide)), by rw [← ptrsL_succ]; exact hown, fun j hj => ?_⟩
  by_cases e : j = k
  · subst e
    rw [upd_same]
    rcases hk with h' | ⟨h1, h2, h3⟩
    · exact .inl h'
    · exact .inr ⟨h1, h2, (h3.alloc o).grown (hr.alloc o) (by decide) hgrow⟩
  · rw [upd_other _ e]
    rcases he j (by omega) with h' | ⟨h1, h2, h3⟩
    · exact .inl h'
    · exact .inr ⟨h1, h2, (h3.alloc o).grown (hr.alloc o) (by decide) hgrow⟩

end Go.Proofs.YtkmocjdjdlpphaaDoor
