/-
  What a set's memory is, and what the smallest functions of package bits do: Size, value, holds, bit, below, OnesCount64.
-/
import Derived.Test.YtjijagnpcmonbaaDoorProg
import Derived.Test.YtjijagnpcmonbaaDoorQfcloanpnjoea
import Derived.WalkKit
import Derived.WalkSpells
import Derived.Deep.MidRow
import Derived.Deep.WholeRow
namespace Go.Proofs.YtjijagnpcmonbaaDoor.B
open Go.RowKit

/-- The seventeen cells of a set: its size, its words. -/
def rowL (n : Nat) (f : Nat → Nat) : List Value := Value.int .i64 n :: (List.range 16).map (fun i => Value.int .u64 (f i))
def wordsL (f : Nat → Nat) : List Value := (List.range 16).map (fun i => Value.int .u64 (f i))

/-- A set's block. -/
def RowAt (w : World) (b n : Nat) (f : Nat → Nat) : Prop := w.heap[b]? = some (.cells (rowL n f).toArray 67 (0, 0))

/-- Of what was there, block b alone may have turned. -/
structure But (b : Nat) (w w' : World) : Prop where
  os : w'.os = w.os
  tape : w'.tape = w.tape
  output : w'.output = w.output
  size : w.heap.size ≤ w'.heap.size
  block : ∀ k, k < w.heap.size → k ≠ b → w'.heap[k]? = w.heap[k]?

theorem rowL_length (n : Nat) (f : Nat → Nat) : (rowL n f).length = 17 := by simp [rowL]
theorem rowL_succ (n : Nat) (f : Nat → Nat) (i : Nat) (hi : i < 16) : (rowL n f)[i + 1]? = some (.int .u64 (f i)) := by
  simp [rowL, hi]
theorem wordsL_length (f : Nat → Nat) : (wordsL f).length = 16 := by simp [wordsL]
theorem wordsL_at (f : Nat → Nat) (i : Nat) (hi : i < 16) : (wordsL f)[i]? = some (.int .u64 (f i)) := by
  simp [wordsL, hi]

theorem rowL_congr {n : Nat} {f g : Nat → Nat} (h : ∀ i, i < 16 → f i = g i) : rowL n f = rowL n g := by
  unfold rowL
  congr 1
  exact List.map_congr_left fun i hi => by rw [h i (by simpa using hi)]

theorem RowAt.congr {w : World} {b n : Nat} {f g : Nat → Nat} (hr : RowAt w b n f) (h : ∀ i, i < 16 → f i = g i) : RowAt w b n g := by
  unfold RowAt at *; rw [← rowL_congr h]; exact hr

theorem RowAt.size {w : World} {b n : Nat} {f : Nat → Nat} (h : RowAt w b n f) : w.cell? ⟨b, 0, none⟩ = some (.int .i64 n) := by
  rw [cell_of_row w b 0 _ _ _ h]; simp [rowL]
theorem RowAt.word {w : World} {b n : Nat} {f : Nat → Nat} (h : RowAt w b n f) (i : Nat) (hi : i < 16) : w.cell? ⟨b, 1 + i, none⟩ = some (.int .u64 (f i)) := by
  rw [cell_of_row w b (1 + i) _ _ _ h, Nat.add_comm]; simpa using rowL_succ n f i hi
theorem RowAt.free {w : World} {b n : Nat} {f : Nat → Nat} (h : RowAt w b n f) (j : Nat) : w.frozen? ⟨b, j, none⟩ = false := frozen_of_row w b j _ _ h
theorem RowAt.lt {w : World} {b n : Nat} {f : Nat → Nat} (h : RowAt w b n f) : b < w.heap.size := (Array.getElem?_eq_some_iff.1 h).1

theorem rowL_set (n : Nat) (f : Nat → Nat) (i v : Nat) (hi : i < 16) : (rowL n f).set (1 + i) (.int .u64 v) = rowL n (fun j => if j = i then v else f j) := by
  apply List.ext_getElem?
  intro k
  match k with
  | 0 => rw [Nat.add_comm 1 i]; simp [rowL]
  | k + 1 =>
    rw [Nat.add_comm 1 i, List.getElem?_set]
    by_cases hk : k < 16
    · rw [rowL_succ _ _ _ hk]
      by_cases e : i = k
      · subst e; rw [rowL_succ _ _ _ hk]; simp [rowL_length]; omega
      · rw [if_neg (by omega), rowL_succ _ _ _ hk, if_neg (fun h => e h.symm)]
    · rw [if_neg (by omega)]
      simp [rowL, hk]

/-- A store into word i. -/
theorem RowAt.setWord {w : World} {b n : Nat} {f : Nat → Nat} (h : RowAt w b n f) (i v : Nat) (hi : i < 16) :
    RowAt (w.setCell ⟨b, 1 + i, none⟩ (.int .u64 v)) b n (fun j => if j = i then v else f j) := by
  unfold RowAt
  rw [heap_setCell_same w b (1 + i) _ _ _ h, ← rowL_set n f i v hi]
  simp

theorem RowAt.below {w w' : World} {b n B : Nat} {f : Nat → Nat} (h : RowAt w b n f) (hb : Below B w w') (hlt : b < B) : RowAt w' b n f := (hb.block b hlt).trans h
theorem RowAt.but {w w' : World} {b n c : Nat} {f : Nat → Nat} (h : RowAt w b n f) (hb : But c w w') (hne : b ≠ c) : RowAt w' b n f := (hb.block b h.lt hne).trans h
theorem RowAt.drew {w : World} {b n : Nat} {f : Nat → Nat} (h : RowAt w b n f) : RowAt w.drew b n f := h

theorem But.refl (b : Nat) (w : World) : But b w w := ⟨rfl, rfl, rfl, Nat.le_refl _, fun _ _ _ => rfl⟩
theorem But.trans {b : Nat} {w w1 w2 : World} (h : But b w w1) (k : But b w1 w2) : But b w w2 :=
  ⟨k.os.trans h.os, k.tape.trans h.tape, k.output.trans h.output, Nat.le_trans h.size k.size, fun i hi hne => (k.block i (Nat.lt_of_lt_of_le hi h.size) hne).trans (h.block i hi hne)⟩
theorem But.of_below {b : Nat} {w w' : World} (h : Below w.heap.size w w') : But b w w' := ⟨h.os, h.tape, h.output, h.size, fun k hk _ => h.block k hk⟩
theorem But.drew {b : Nat} {w w' : World} (h : But b w w') : But b w w'.drew := ⟨h.os, h.tape, h.output, h.size, h.block⟩
theorem But.setCell {b : Nat} {w w' : World} (h : But b w w') (o : Nat) (v : Value) : But b w (w'.setCell ⟨b, o, none⟩ v) :=
  h.trans ⟨rfl, rfl, rfl, by simp [World.setCell], fun k _ hne => Below.heap_setCell _ _ _ _ hne⟩
theorem But.below {b B : Nat} {w w' : World} (h : But b w w') (hB : B ≤ w.heap.size) (hb : B ≤ b) : Below B w w' :=
  ⟨h.os, h.tape, h.output, h.size, fun k hk => h.block k (by omega) (by omega)⟩

/-! ### bit, below, Size -/
theorem wrap_pow (k : Nat) (hk : k < 64) : IntKind.u64.wrap (2 ^ k : Int) = ((2 ^ k : Nat) : Int) := by
  rw [IntKind.wrap_u64]
  have h : 2 ^ k < 2 ^ 64 := two_pow_lt hk
  have h2 : (2 ^ 64 : Nat) = 18446744073709551616 := rfl
  have e : ((2 ^ k : Nat) : Int) = (2 : Int) ^ k := by simp
  rw [← e]
  rw [h2] at h
  generalize (2 ^ k : Nat) = x at h
  omega

theorem bit_any (n : Nat) (hn : n < 1024) (w : World) :
    Calls Tryd.prog 36 #[.int .i64 n] w fun e w' => e = .returned (.int .u64 (bt n : Int)) ∧ w' = w := by
  go_enter Tryd.func36, Tryd.ntmps36
  go_wp2
  go_ret
  refine ⟨?_, rfl⟩
  show Ending.returned (Value.int IntKind.u64 (IntKind.u64.wrap (2 ^ (n % 64)))) = _
  rw [wrap_pow _ (by omega)]
  rfl

theorem below_any (n i : Nat) (hn : n ≤ 1024) (hi : i < 16) (w : World) :
    Calls Tryd.prog 39 #[.int .i64 n, .int .i64 i] w fun e w' => e = .returned (.int .u64 ((wd (2 ^ n - 1) i : Nat) : Int)) ∧ w' = w := by
  have key := wd_ones n i
  by_cases h1 : n ≤ 64 * i
  · have e : wd (2 ^ n - 1) i = 0 := by
      rw [key, if_neg (by omega), show n - 64 * i = 0 by omega]
    rw [e]
    clear key e
    go_enter Tryd.func39, Tryd.ntmps39
    go_wp2
    go_ret
    exact ⟨rfl, rfl⟩
  · by_cases h2 : 64 * (i + 1) ≤ n
    · rw [key, if_pos h2]
      clear key
      go_enter Tryd.func39, Tryd.ntmps39
      go_wp2
      go_ret
      exact ⟨rfl, rfl⟩
    · rw [key, if_neg h2]
      clear key
      have hk : n - i * 64 < 64 := by omega
      go_enter Tryd.func39, Tryd.ntmps39
      go_wp2
      go_ret
      refine ⟨?_, rfl⟩
      show Ending.returned (Value.int IntKind.u64 (IntKind.u64.wrap (IntKind.u64.wrap (2 ^ (n - i * 64)) - 1))) = _
      rw [wrap_pow _ hk, show n - 64 * i = n - i * 64 by omega, IntKind.wrap_u64]
      have h3 : 2 ^ (n - i * 64) < 2 ^ 64 := two_pow_lt hk
      have h4 : (2 ^ 64 : Nat) = 18446744073709551616 := rfl
      have h5 : 0 < 2 ^ (n - i * 64) := Nat.two_pow_pos _
      congr 2
      omega

theorem size_nil (w : World) :
    Calls Tryd.prog 42 #[.pointer none] w fun e w' => e = .returned (.int .i64 0) ∧ w' = w := by
  go_enter Tryd.func42, Tryd.ntmps42
  go_wp2
  go_ret
  exact ⟨rfl, rfl⟩

theorem size_some (b n : Nat) (f : Nat → Nat) (w : World) (hr : RowAt w b n f) :
    Calls Tryd.prog 42 #[.pointer (some ⟨b, 0, none⟩)] w fun e w' => e = .returned (.int .i64 n) ∧ w' = w := by
  have h := hr.size
  clear hr
  go_enter Tryd.func42, Tryd.ntmps42
  go_wp2
  go_ret
  exact ⟨rfl, rfl⟩

/-! ### value -/
theorem info58 : (Tryd.prog.info? 67).map (·.size) = some 17 := by kernel_rfl
theorem info56 : (Tryd.prog.info? 65).map (·.size) = some 16 := by kernel_rfl
theorem info58' (n : Nat) (f : Nat → Nat) : (Tryd.prog.info? 67).map (·.size) = some (rowL n f).toArray.size := by rw [info58]; simp [rowL]
theorem oneCell_rowL (n : Nat) (f : Nat → Nat) : (rowL n f).toArray.all (·.oneCell') = true := by
  refine all_oneCell_toArray ?_
  intro v hv
  simp only [rowL, List.mem_cons, List.mem_map] at hv
  rcases hv with rfl | ⟨i, _, rfl⟩ <;> rfl

theorem value_some (b n : Nat) (f : Nat → Nat) (w : World) (hr : RowAt w b n f) :
    Calls Tryd.prog 38 #[.pointer (some ⟨b, 0, none⟩)] w fun e w' => e = .returned (.agg (rowL n f).toArray) ∧ Below w.heap.size w w' := by
  have hlt := hr.lt
  have hg : ∀ o, (w.alloc o).heap[b]? = some (.cells (rowL n f).toArray 67 (0, 0)) := fun o => (Below.heap_alloc w o b hlt).trans hr
  go_enter Tryd.func38, Tryd.ntmps38
  go_wp2_with (first
    | (refine wpList_load_row rfl 67 _ rfl b rfl 67 (rowL n f).toArray (0, 0) _ (hg _) Tryd.underlying67 rfl (info58' n f) ?_)
    | (refine wpList_store_row rfl 67 _ _ rfl w.heap.size (rowL n f).toArray rfl rfl 67 _ (heap_alloc_last w _) (info58' n f) (by simp [rowL]) (oneCell_rowL n f) ?_))
  refine bodyPost_ret (v := .agg (rowL n f).toArray) (results_cell_row (fr := (0, 0)) rfl _ _ w.heap.size 67 (rowL n f).toArray _ rfl (setRow_heap _ _ _ _ _ _ (heap_alloc_last w _)) Tryd.underlying67 rfl (info58' n f)) rfl ⟨rfl, ?_⟩
  rw [World.setRow_alloc_new]
  exact (Below.refl _ _).alloc (Nat.le_refl _) _

theorem value_nil (w : World) :
    Calls Tryd.prog 38 #[.pointer none] w fun e w' => e = .returned (.agg (rowL 0 (fun _ => 0)).toArray) ∧ Below w.heap.size w w' := by
  have hb : (Tryd.prog.built 67 []).getD #[] = (rowL 0 (fun _ => 0)).toArray := by kernel_rfl
  go_enter Tryd.func38, Tryd.ntmps38
  go_wp2_with (first
    | (refine wpList_store_row rfl 67 _ _ rfl w.heap.size (rowL 0 (fun _ => 0)).toArray rfl rfl 67 _ (heap_alloc_last w _) (info58' 0 _) (by simp [rowL]) (oneCell_rowL 0 _) ?_))
  refine bodyPost_ret (v := .agg (rowL 0 (fun _ => 0)).toArray) (results_cell_row (fr := (0, 0)) rfl _ _ w.heap.size 67 (rowL 0 (fun _ => 0)).toArray _ rfl (setRow_heap _ _ _ _ _ _ (heap_alloc_last w _)) Tryd.underlying67 rfl (info58' 0 _)) rfl ⟨rfl, ?_⟩
  rw [World.setRow_alloc_new]
  exact (Below.refl _ _).alloc (Nat.le_refl _) _

end Go.Proofs.YtjijagnpcmonbaaDoor.B
