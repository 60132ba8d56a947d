import Derived.Laws.Bits64b
import Derived.Test.YtdhojilmgnodeaaDoorProg
import Derived.WalkKit
import Derived.WalkSpells
import Derived.Deep.MidRow
import Derived.Deep.WholeRow
import Derived.Deep.QuietTactic
import Derived.BigQuiet

/-
  Plain numbers: the sixteen words of a number below 2^1024, and what or, and, and a single bit do to them. No program is named here.
-/
namespace Go.Proofs.YtdhojilmgnodeaaDoor.B

/-- Word number i of m. -/
def wd (m i : Nat) : Nat := m / 2 ^ (64 * i) % 2 ^ 64

theorem wd_lt (m i : Nat) : wd m i < 18446744073709551616 := Nat.mod_lt _ (by decide)

theorem testBit_wd (m i j : Nat) : (wd m i).testBit j = (decide (j < 64) && m.testBit (64 * i + j)) := by
  unfold wd
  rw [Nat.testBit_mod_two_pow, Nat.testBit_div_two_pow]
  congr 2
  omega

theorem wd_or (a b i : Nat) : wd (a ||| b) i = wd a i ||| wd b i := by
  apply Nat.eq_of_testBit_eq
  intro j
  simp only [testBit_wd, Nat.testBit_or]
  cases decide (j < 64) <;> simp

theorem wd_and (a b i : Nat) : wd (a &&& b) i = wd a i &&& wd b i := by
  apply Nat.eq_of_testBit_eq
  intro j
  simp only [testBit_wd, Nat.testBit_and]
  cases decide (j < 64) <;> simp

theorem wd_xor (a b i : Nat) : wd (a ^^^ b) i = wd a i ^^^ wd b i := by
  apply Nat.eq_of_testBit_eq
  intro j
  simp only [testBit_wd, Nat.testBit_xor]
  cases decide (j < 64) <;> simp

theorem wd_two_pow (n i : Nat) : wd (2 ^ n) i = if i = n / 64 then 2 ^ (n % 64) else 0 := by
  apply Nat.eq_of_testBit_eq
  intro j
  rw [testBit_wd]
  split
  · rename_i h
    rw [Nat.testBit_two_pow, Nat.testBit_two_pow]
    by_cases hj : j < 64
    · by_cases e : n % 64 = j
      · simp [hj, e]; omega
      · simp [hj, e]; omega
    · have : ¬ n % 64 = j := by omega
      simp [hj, this]
  · rw [Nat.testBit_two_pow]
    by_cases hj : j < 64
    · have : ¬ n = 64 * i + j := by omega
      simp [hj, this]
    · simp [hj]

theorem wd_zero (i : Nat) : wd 0 i = 0 := by simp [wd]

theorem wd_ones (n i : Nat) : wd (2 ^ n - 1) i = if 64 * (i + 1) ≤ n then 18446744073709551615 else 2 ^ (n - 64 * i) - 1 := by
  apply Nat.eq_of_testBit_eq
  intro j
  rw [testBit_wd, Nat.testBit_two_pow_sub_one]
  split
  · rw [show (18446744073709551615 : Nat) = 2 ^ 64 - 1 from rfl, Nat.testBit_two_pow_sub_one]
    by_cases hj : j < 64
    · have : 64 * i + j < n := by omega
      simp [hj, this]
    · simp [hj]
  · rw [Nat.testBit_two_pow_sub_one]
    by_cases hj : j < 64
    · by_cases h2 : j < n - 64 * i
      · have : 64 * i + j < n := by omega
        simp [hj, h2, this]
      · have : ¬ 64 * i + j < n := by omega
        simp [hj, h2, this]
    · have : ¬ j < n - 64 * i := by omega
      simp [hj, this]

/-- Numbers of at most 1024 bits that have the same sixteen words are the same. -/
theorem wd_ext {a b n k : Nat} (hn : n ≤ 1024) (hk : k ≤ 1024) (ha : a < 2 ^ n) (hb : b < 2 ^ k) (h : ∀ i, i < 16 → wd a i = wd b i) : a = b := by
  apply Nat.eq_of_testBit_eq
  intro j
  by_cases hj : j < 1024
  · have h1 := congrArg (fun x => x.testBit (j % 64)) (h (j / 64) (by omega))
    simp only [testBit_wd] at h1
    have e : 64 * (j / 64) + j % 64 = j := by omega
    have e2 : j % 64 < 64 := by omega
    simpa [e, e2] using h1
  · have h1 : n ≤ j := by omega
    have h2 : k ≤ j := by omega
    rw [Nat.testBit_lt_two_pow (Nat.lt_of_lt_of_le ha (Nat.pow_le_pow_right (by decide) h1)),
      Nat.testBit_lt_two_pow (Nat.lt_of_lt_of_le hb (Nat.pow_le_pow_right (by decide) h2))]

/-- Is n a member? -/
theorem wd_test (m n : Nat) : (wd m (n / 64) &&& 2 ^ (n % 64) ≠ 0) ↔ m.testBit n = true := by
  have h2 : n % 64 < 64 := by omega
  have e : 64 * (n / 64) + n % 64 = n := by omega
  have h := testBit_wd m (n / 64) (n % 64)
  rw [e] at h
  simp only [h2, decide_true, Bool.true_and] at h
  rw [← h]
  constructor
  · intro hne
    apply Classical.byContradiction
    intro hf
    apply hne
    apply Nat.eq_of_testBit_eq
    intro j
    rw [Nat.testBit_and, Nat.testBit_two_pow, Nat.zero_testBit]
    by_cases ej : n % 64 = j
    · subst ej; simp at hf; simp [hf]
    · simp [ej]
  · intro ht h0
    have := congrArg (fun x => x.testBit (n % 64)) h0
    simp only [Nat.testBit_and, Nat.testBit_two_pow, Nat.zero_testBit, ht] at this
    simp at this

theorem lt_or {a b n : Nat} (ha : a < 2 ^ n) (hb : b < 2 ^ n) : a ||| b < 2 ^ n := Nat.or_lt_two_pow ha hb
theorem lt_xor {a b n : Nat} (ha : a < 2 ^ n) (hb : b < 2 ^ n) : a ^^^ b < 2 ^ n := Nat.xor_lt_two_pow ha hb
theorem lt_and_left {a b n : Nat} (ha : a < 2 ^ n) : a &&& b < 2 ^ n := Nat.lt_of_le_of_lt Nat.and_le_left ha
theorem lt_and_right {a b n : Nat} (hb : b < 2 ^ n) : a &&& b < 2 ^ n := Nat.lt_of_le_of_lt Nat.and_le_right hb
theorem two_pow_lt {k n : Nat} (h : k < n) : 2 ^ k < 2 ^ n := Nat.pow_lt_pow_right (by decide) h
theorem pow64_lt {k : Nat} (h : k < 64) : 2 ^ k < 18446744073709551616 := by
  have := two_pow_lt h
  have h2 : (2 ^ 64 : Nat) = 18446744073709551616 := rfl
  rwa [h2] at this
/-- The bit of n within its word. -/
def bt (n : Nat) : Nat := 2 ^ (n % 64)
theorem bt_lt (n : Nat) : bt n < 18446744073709551616 := pow64_lt (by omega)
/-- Is n a member? As the program asks it. -/
theorem test_bit (m n : Nat) : (bits BinOp.and IntKind.u64 (wd m (n / 64) : Int) (bt n : Int) != 0) = m.testBit n := by
  rw [bits_and_u64_nat _ _ (wd_lt _ _) (bt_lt _), Bool.eq_iff_iff, ← wd_test, bne_iff_ne]
  unfold bt
  omega
theorem ones_lt (n : Nat) : 2 ^ n - 1 < 2 ^ n := Nat.sub_lt (Nat.two_pow_pos n) (by decide)

end Go.Proofs.YtdhojilmgnodeaaDoor.B

/-
  What a set's memory is, and what the smallest functions of package bits do: Size, value, holds, bit, below, OnesCount64.
-/
namespace Go.Proofs.YtdhojilmgnodeaaDoor.B
open Go.RowKit

/-- The seventeen cells of a set: its size, its words. -/
def rowL (n : Nat) (f : Nat → Nat) : List Value := Value.int .i64 n :: (List.range 16).map (fun i => Value.int .u64 (f i))
def wordsL (f : Nat → Nat) : List Value := (List.range 16).map (fun i => Value.int .u64 (f i))

/-- A set's block. -/
def RowAt (w : World) (b n : Nat) (f : Nat → Nat) : Prop := w.heap[b]? = some (.cells (rowL n f).toArray 83 (0, 0))

/-- Of what was there, block b alone may have turned. -/
structure But (b : Nat) (w w' : World) : Prop where
  os : w'.os = w.os
  tape : w'.tape = w.tape
  output : w'.output = w.output
  size : w.heap.size ≤ w'.heap.size
  block : ∀ k, k < w.heap.size → k ≠ b → w'.heap[k]? = w.heap[k]?

theorem rowL_length (n : Nat) (f : Nat → Nat) : (rowL n f).length = 17 := by simp [rowL]
theorem rowL_zero (n : Nat) (f : Nat → Nat) : (rowL n f)[0]? = some (.int .i64 n) := rfl
theorem rowL_succ (n : Nat) (f : Nat → Nat) (i : Nat) (hi : i < 16) : (rowL n f)[i + 1]? = some (.int .u64 (f i)) := by
  simp [rowL, hi]
theorem wordsL_length (f : Nat → Nat) : (wordsL f).length = 16 := by simp [wordsL]
theorem wordsL_at (f : Nat → Nat) (i : Nat) (hi : i < 16) : (wordsL f)[i]? = some (.int .u64 (f i)) := by
  simp [wordsL, hi]

theorem rowL_congr {n : Nat} {f g : Nat → Nat} (h : ∀ i, i < 16 → f i = g i) : rowL n f = rowL n g := by
  unfold rowL
  congr 1
  exact List.map_congr_left fun i hi => by rw [h i (by simpa using hi)]

theorem RowAt.congr {w : World} {b n : Nat} {f g : Nat → Nat} (hr : RowAt w b n f) (h : ∀ i, i < 16 → f i = g i) : RowAt w b n g := by
  unfold RowAt at *; rw [← rowL_congr h]; exact hr

theorem RowAt.size {w : World} {b n : Nat} {f : Nat → Nat} (h : RowAt w b n f) : w.cell? ⟨b, 0, none⟩ = some (.int .i64 n) := by
  rw [cell_of_row w b 0 _ _ _ h]; simp [rowL]
theorem RowAt.word {w : World} {b n : Nat} {f : Nat → Nat} (h : RowAt w b n f) (i : Nat) (hi : i < 16) : w.cell? ⟨b, 1 + i, none⟩ = some (.int .u64 (f i)) := by
  rw [cell_of_row w b (1 + i) _ _ _ h, Nat.add_comm]; simpa using rowL_succ n f i hi
theorem RowAt.free {w : World} {b n : Nat} {f : Nat → Nat} (h : RowAt w b n f) (j : Nat) : w.frozen? ⟨b, j, none⟩ = false := frozen_of_row w b j _ _ h
theorem RowAt.lt {w : World} {b n : Nat} {f : Nat → Nat} (h : RowAt w b n f) : b < w.heap.size := (Array.getElem?_eq_some_iff.1 h).1

theorem rowL_set (n : Nat) (f : Nat → Nat) (i v : Nat) (hi : i < 16) : (rowL n f).set (1 + i) (.int .u64 v) = rowL n (fun j => if j = i then v else f j) := by
  apply List.ext_getElem?
  intro k
  match k with
  | 0 => rw [Nat.add_comm 1 i]; simp [rowL]
  | k + 1 =>
    rw [Nat.add_comm 1 i, List.getElem?_set]
    by_cases hk : k < 16
    · rw [rowL_succ _ _ _ hk]
      by_cases e : i = k
      · subst e; rw [rowL_succ _ _ _ hk]; simp [rowL_length]; omega
      · rw [if_neg (by omega), rowL_succ _ _ _ hk, if_neg (fun h => e h.symm)]
    · rw [if_neg (by omega)]
      simp [rowL, hk]

/-- A store into word i. -/
theorem RowAt.setWord {w : World} {b n : Nat} {f : Nat → Nat} (h : RowAt w b n f) (i v : Nat) (hi : i < 16) :
    RowAt (w.setCell ⟨b, 1 + i, none⟩ (.int .u64 v)) b n (fun j => if j = i then v else f j) := by
  unfold RowAt
  rw [heap_setCell_same w b (1 + i) _ _ _ h, ← rowL_set n f i v hi]
  simp

theorem RowAt.below {w w' : World} {b n B : Nat} {f : Nat → Nat} (h : RowAt w b n f) (hb : Below B w w') (hlt : b < B) : RowAt w' b n f := (hb.block b hlt).trans h
theorem RowAt.but {w w' : World} {b n c : Nat} {f : Nat → Nat} (h : RowAt w b n f) (hb : But c w w') (hne : b ≠ c) : RowAt w' b n f := (hb.block b h.lt hne).trans h
theorem RowAt.drew {w : World} {b n : Nat} {f : Nat → Nat} (h : RowAt w b n f) : RowAt w.drew b n f := h

theorem But.refl (b : Nat) (w : World) : But b w w := ⟨rfl, rfl, rfl, Nat.le_refl _, fun _ _ _ => rfl⟩
theorem But.trans {b : Nat} {w w1 w2 : World} (h : But b w w1) (k : But b w1 w2) : But b w w2 :=
  ⟨k.os.trans h.os, k.tape.trans h.tape, k.output.trans h.output, Nat.le_trans h.size k.size, fun i hi hne => (k.block i (Nat.lt_of_lt_of_le hi h.size) hne).trans (h.block i hi hne)⟩
theorem But.of_below {b : Nat} {w w' : World} (h : Below w.heap.size w w') : But b w w' := ⟨h.os, h.tape, h.output, h.size, fun k hk _ => h.block k hk⟩
theorem But.drew {b : Nat} {w w' : World} (h : But b w w') : But b w w'.drew := ⟨h.os, h.tape, h.output, h.size, h.block⟩
theorem But.setCell {b : Nat} {w w' : World} (h : But b w w') (o : Nat) (v : Value) : But b w (w'.setCell ⟨b, o, none⟩ v) :=
  h.trans ⟨rfl, rfl, rfl, by simp [World.setCell], fun k _ hne => Below.heap_setCell _ _ _ _ hne⟩
theorem But.below {b B : Nat} {w w' : World} (h : But b w w') (hB : B ≤ w.heap.size) (hb : B ≤ b) : Below B w w' :=
  ⟨h.os, h.tape, h.output, h.size, fun k hk => h.block k (by omega) (by omega)⟩

/-! ### bit, below, Size -/
theorem wrap_pow (k : Nat) (hk : k < 64) : IntKind.u64.wrap (2 ^ k : Int) = ((2 ^ k : Nat) : Int) := by
  rw [IntKind.wrap_u64]
  have h : 2 ^ k < 2 ^ 64 := two_pow_lt hk
  have h2 : (2 ^ 64 : Nat) = 18446744073709551616 := rfl
  have e : ((2 ^ k : Nat) : Int) = (2 : Int) ^ k := by simp
  rw [← e]
  rw [h2] at h
  generalize (2 ^ k : Nat) = x at h
  omega

theorem bit_any (n : Nat) (hn : n < 1024) (w : World) :
    Calls Tryd.prog 49 #[.int .i64 n] w fun e w' => e = .returned (.int .u64 (bt n : Int)) ∧ w' = w := by
  go_enter Tryd.func49, Tryd.ntmps49
  go_wp2
  go_ret
  refine ⟨?_, rfl⟩
  show Ending.returned (Value.int IntKind.u64 (IntKind.u64.wrap (2 ^ (n % 64)))) = _
  rw [wrap_pow _ (by omega)]
  rfl

theorem below_any (n i : Nat) (hn : n ≤ 1024) (hi : i < 16) (w : World) :
    Calls Tryd.prog 71 #[.int .i64 n, .int .i64 i] w fun e w' => e = .returned (.int .u64 ((wd (2 ^ n - 1) i : Nat) : Int)) ∧ w' = w := by
  have key := wd_ones n i
  by_cases h1 : n ≤ 64 * i
  · have e : wd (2 ^ n - 1) i = 0 := by
      rw [key, if_neg (by omega), show n - 64 * i = 0 by omega]
    rw [e]
    clear key e
    go_enter Tryd.func71, Tryd.ntmps71
    go_wp2
    go_ret
    exact ⟨rfl, rfl⟩
  · by_cases h2 : 64 * (i + 1) ≤ n
    · rw [key, if_pos h2]
      clear key
      go_enter Tryd.func71, Tryd.ntmps71
      go_wp2
      go_ret
      exact ⟨rfl, rfl⟩
    · rw [key, if_neg h2]
      clear key
      have hk : n - i * 64 < 64 := by omega
      go_enter Tryd.func71, Tryd.ntmps71
      go_wp2
      go_ret
      refine ⟨?_, rfl⟩
      show Ending.returned (Value.int IntKind.u64 (IntKind.u64.wrap (IntKind.u64.wrap (2 ^ (n - i * 64)) - 1))) = _
      rw [wrap_pow _ hk, show n - 64 * i = n - i * 64 by omega, IntKind.wrap_u64]
      have h3 : 2 ^ (n - i * 64) < 2 ^ 64 := two_pow_lt hk
      have h4 : (2 ^ 64 : Nat) = 18446744073709551616 := rfl
      have h5 : 0 < 2 ^ (n - i * 64) := Nat.two_pow_pos _
      congr 2
      omega

theorem size_nil (w : World) :
    Calls Tryd.prog 66 #[.pointer none] w fun e w' => e = .returned (.int .i64 0) ∧ w' = w := by
  go_enter Tryd.func66, Tryd.ntmps66
  go_wp2
  go_ret
  exact ⟨rfl, rfl⟩

theorem size_some (b n : Nat) (f : Nat → Nat) (w : World) (hr : RowAt w b n f) :
    Calls Tryd.prog 66 #[.pointer (some ⟨b, 0, none⟩)] w fun e w' => e = .returned (.int .i64 n) ∧ w' = w := by
  have h := hr.size
  clear hr
  go_enter Tryd.func66, Tryd.ntmps66
  go_wp2
  go_ret
  exact ⟨rfl, rfl⟩

/-! ### value -/
theorem info58 : (Tryd.prog.info? 83).map (·.size) = some 17 := by kernel_rfl
theorem info56 : (Tryd.prog.info? 81).map (·.size) = some 16 := by kernel_rfl
theorem info58' (n : Nat) (f : Nat → Nat) : (Tryd.prog.info? 83).map (·.size) = some (rowL n f).toArray.size := by rw [info58]; simp [rowL]
theorem oneCell_rowL (n : Nat) (f : Nat → Nat) : (rowL n f).toArray.all (·.oneCell') = true := by
  refine all_oneCell_toArray ?_
  intro v hv
  simp only [rowL, List.mem_cons, List.mem_map] at hv
  rcases hv with rfl | ⟨i, _, rfl⟩ <;> rfl

theorem value_some (b n : Nat) (f : Nat → Nat) (w : World) (hr : RowAt w b n f) :
    Calls Tryd.prog 67 #[.pointer (some ⟨b, 0, none⟩)] w fun e w' => e = .returned (.agg (rowL n f).toArray) ∧ Below w.heap.size w w' := by
  have hlt := hr.lt
  have hg : ∀ o, (w.alloc o).heap[b]? = some (.cells (rowL n f).toArray 83 (0, 0)) := fun o => (Below.heap_alloc w o b hlt).trans hr
  go_enter Tryd.func67, Tryd.ntmps67
  go_wp2_with (first
    | (refine wpList_load_row rfl 83 _ rfl b rfl 83 (rowL n f).toArray (0, 0) _ (hg _) Tryd.underlying83 rfl (info58' n f) ?_)
    | (refine wpList_store_row rfl 83 _ _ rfl w.heap.size (rowL n f).toArray rfl rfl 83 _ (heap_alloc_last w _) (info58' n f) (by simp [rowL]) (oneCell_rowL n f) ?_))
  refine bodyPost_ret (v := .agg (rowL n f).toArray) (results_cell_row (fr := (0, 0)) rfl _ _ w.heap.size 83 (rowL n f).toArray _ rfl (setRow_heap _ _ _ _ _ _ (heap_alloc_last w _)) Tryd.underlying83 rfl (info58' n f)) rfl ⟨rfl, ?_⟩
  rw [World.setRow_alloc_new]
  exact (Below.refl _ _).alloc (Nat.le_refl _) _

theorem zeros58 (w : World) : (Instr.build 83 #[]).run Tryd.prog w = .ok (.agg (rowL 0 (fun _ => 0)).toArray) w := by kernel_rfl

theorem value_nil (w : World) :
    Calls Tryd.prog 67 #[.pointer none] w fun e w' => e = .returned (.agg (rowL 0 (fun _ => 0)).toArray) ∧ Below w.heap.size w w' := by
  have hb : (Tryd.prog.built 83 []).getD #[] = (rowL 0 (fun _ => 0)).toArray := by kernel_rfl
  go_enter Tryd.func67, Tryd.ntmps67
  go_wp2_with (first
    | (refine wpList_store_row rfl 83 _ _ rfl w.heap.size (rowL 0 (fun _ => 0)).toArray rfl rfl 83 _ (heap_alloc_last w _) (info58' 0 _) (by simp [rowL]) (oneCell_rowL 0 _) ?_))
  refine bodyPost_ret (v := .agg (rowL 0 (fun _ => 0)).toArray) (results_cell_row (fr := (0, 0)) rfl _ _ w.heap.size 83 (rowL 0 (fun _ => 0)).toArray _ rfl (setRow_heap _ _ _ _ _ _ (heap_alloc_last w _)) Tryd.underlying83 rfl (info58' 0 _)) rfl ⟨rfl, ?_⟩
  rw [World.setRow_alloc_new]
  exact (Below.refl _ _).alloc (Nat.le_refl _) _

end Go.Proofs.YtdhojilmgnodeaaDoor.B

/-
  What Size, value, holds, Has do, of the nil set and of one in memory.
-/
namespace Go.Proofs.YtdhojilmgnodeaaDoor.B
open Go.RowKit

/-- The pointer p leads to a set of size n whose members are the bits of m; nil: to none. -/
def SetM (w : World) (p : Option Addr) (n m : Nat) : Prop :=
  n ≤ 1024 ∧ m < 2 ^ n ∧ ((p = none ∧ n = 0) ∨ ∃ b, p = some ⟨b, 0, none⟩ ∧ RowAt w b n (wd m))

theorem SetM.zero {w : World} {p : Option Addr} {m : Nat} (h : SetM w p 0 m) : m = 0 := by
  have := h.2.1; simpa using this

theorem wd_zero' : wd 0 = fun _ => 0 := funext wd_zero

theorem SetM.nil (w : World) : SetM w none 0 0 := ⟨by decide, by decide, .inl ⟨rfl, rfl⟩⟩
theorem SetM.of {w : World} {b n m : Nat} (hr : RowAt w b n (wd m)) (hn : n ≤ 1024) (hm : m < 2 ^ n) : SetM w (some ⟨b, 0, none⟩) n m := ⟨hn, hm, .inr ⟨b, rfl, hr⟩⟩

theorem size_any (p : Option Addr) (n m : Nat) (w : World) (h : SetM w p n m) :
    Calls Tryd.prog 66 #[.pointer p] w fun e w' => e = .returned (.int .i64 n) ∧ w' = w := by
  rcases h.2.2 with ⟨rfl, rfl⟩ | ⟨b, rfl, hr⟩
  · exact size_nil w
  · exact size_some b n _ w hr

theorem value_any (p : Option Addr) (n m : Nat) (w : World) (h : SetM w p n m) :
    Calls Tryd.prog 67 #[.pointer p] w fun e w' => e = .returned (.agg (rowL n (wd m)).toArray) ∧ Below w.heap.size w w' := by
  rcases h.2.2 with ⟨rfl, rfl⟩ | ⟨b, rfl, hr⟩
  · rw [h.zero, wd_zero']; exact value_nil w
  · exact value_some b n _ w hr

/-- May x be a member? -/
def inB (n : Nat) (x : Int) : Bool := decide (0 ≤ x) && decide (x < n)
/-- Is x a member? -/
def hasB (m : Nat) (x : Int) : Bool := decide (0 ≤ x) && m.testBit x.toNat

theorem holds_any (p : Option Addr) (n m : Nat) (x : Int) (w : World) (h : SetM w p n m) :
    Calls Tryd.prog 48 #[.pointer p, .int .i64 x] w fun e w' => e = .returned (.bool (inB n x)) ∧ w' = w := by
  by_cases h0 : 0 ≤ x
  · have hd : decide (0 ≤ x) = true := decide_eq_true h0
    have hS := size_any p n m w h
    clear h
    go_enter Tryd.func48, Tryd.ntmps48
    go_wp2_with (go_at_call 66; refine hS.mono ?_; rintro e w' ⟨rfl, rfl⟩)
    go_ret
    exact ⟨by simp [inB, h0], rfl⟩
  · have hd : decide (0 ≤ x) = false := decide_eq_false h0
    go_enter Tryd.func48, Tryd.ntmps48
    go_wp2_with fail
    go_ret
    exact ⟨by simp [inB, hd], rfl⟩

theorem SetM.drewN {w : World} {p : Option Addr} {n m : Nat} (h : SetM w p n m) (k : Nat) : SetM (w.drewN k) p n m := by
  unfold SetM RowAt at *
  simpa using h

theorem holds_no {p : Option Addr} {n m : Nat} {x : Int} {w : World} (h : SetM w p n m) (hx : inB n x = false) :
    Calls Tryd.prog 48 #[.pointer p, .int .i64 x] w fun e w' => e = .returned (.bool false) ∧ w' = w := by
  have := holds_any p n m x w h
  rwa [hx] at this
theorem holds_yes {p : Option Addr} {n m : Nat} {x : Int} {w : World} (h : SetM w p n m) (hx : inB n x = true) :
    Calls Tryd.prog 48 #[.pointer p, .int .i64 x] w fun e w' => e = .returned (.bool true) ∧ w' = w := by
  have := holds_any p n m x w h
  rwa [hx] at this

theorem has_no (p : Option Addr) (n m : Nat) (x : Int) (w : World) (h : SetM w p n m) (hx : inB n x = false) :
    Calls Tryd.prog 29 #[.pointer p, .int .i64 x] w fun e w' => e = .returned (.bool false) ∧ ∃ k, w' = w.drewN k := by
  have H : Hid (SetM w p n m) := h
  have HX : Hid (inB n x = false) := hx
  clear h hx
  go_enter Tryd.func29, Tryd.ntmps29
  go_wp2_with fail
  go_quiet ((go_at_call 48; exact Calls.quiet_of_same (holds_no (SetM.drewN H.out _) HX.out)))
  go_wp2
  go_ret
  exact ⟨rfl, _, rfl⟩

theorem has_yes (b n m k : Nat) (w : World) (hr : RowAt w b n (wd m)) (hn : n ≤ 1024) (hm : m < 2 ^ n) (hk : k < n) :
    Calls Tryd.prog 29 #[.pointer (some ⟨b, 0, none⟩), .int .i64 k] w fun e w' => e = .returned (.bool (m.testBit k)) ∧ ∃ k, w' = w.drewN k := by
  have H : Hid (SetM w (some ⟨b, 0, none⟩) n m) := SetM.of hr hn hm
  have HX : Hid (inB n (k : Int) = true) := by show inB n k = true; simp [inB, hk]
  have hc := hr.word (k / 64) (by omega)
  have hk2 : (k : Int) < 1024 := by omega
  have hk3 : (k : Int) / 64 < 16 := by omega
  have hb := test_bit m k
  clear hr hm
  go_enter Tryd.func29, Tryd.ntmps29
  go_wp2_with fail
  go_quiet (first | (go_at_call 48; exact Calls.quiet_of_same (holds_yes (SetM.drewN H.out _) HX.out)) | (go_at_call 49; exact Calls.quiet_of_same (bit_any k (by omega) _)))
  go_wp2
  go_ret
  exact ⟨rfl, _, rfl⟩

theorem has_any (p : Option Addr) (n m : Nat) (x : Int) (w : World) (h : SetM w p n m) :
    Calls Tryd.prog 29 #[.pointer p, .int .i64 x] w fun e w' => e = .returned (.bool (hasB m x)) ∧ ∃ k, w' = w.drewN k := by
  cases hx : inB n x with
  | false =>
    have e : hasB m x = false := by
      unfold hasB
      by_cases h0 : 0 ≤ x
      · have h1 : n ≤ x.toNat := by simp [inB, h0] at hx; omega
        rw [Nat.testBit_lt_two_pow (Nat.lt_of_lt_of_le h.2.1 (Nat.pow_le_pow_right (by decide) h1)), Bool.and_false]
      · rw [decide_eq_false h0, Bool.false_and]
    rw [e]
    exact has_no p n m x w h hx
  | true =>
    obtain ⟨h0, h1⟩ : 0 ≤ x ∧ x < n := by simpa [inB] using hx
    obtain ⟨k, rfl⟩ := Int.eq_ofNat_of_zero_le h0
    have hk : k < n := by omega
    rcases h.2.2 with ⟨_, rfl⟩ | ⟨b, rfl, hr⟩
    · omega
    · have := has_yes b n m k w hr h.1 h.2.1 hk
      have e : hasB m (k : Int) = m.testBit k := by simp [hasB]
      rw [e]
      exact this

end Go.Proofs.YtdhojilmgnodeaaDoor.B

/-
  Plain numbers: how many bits of a word are set, and that the sums by halves that OnesCount64 makes come to it. No program is named here.
-/
namespace Go.Proofs.YtdhojilmgnodeaaDoor.B

/-- The sum of the last k digits of x to the base B. -/
def ds (B : Nat) : Nat → Nat → Nat
  | 0, _ => 0
  | k + 1, x => x % B + ds B k (x / B)

/-- How many of the last k bits are set. -/
def pc (k x : Nat) : Nat := ds 2 k x

theorem pc_le (k x : Nat) : pc k x ≤ k := by
  unfold pc
  induction k generalizing x with
  | zero => simp [ds]
  | succ k ih => have := ih (x / 2); simp only [ds]; omega

theorem and_split (k x M c : Nat) (hc : c < 2 ^ k) : x &&& (2 ^ k * M + c) = 2 ^ k * (x / 2 ^ k &&& M) + (x % 2 ^ k &&& c) := by
  apply Nat.eq_of_testBit_eq
  intro j
  have h1 : x % 2 ^ k &&& c < 2 ^ k := lt_and_right hc
  rw [Nat.testBit_and, Nat.testBit_two_pow_mul_add M hc, Nat.testBit_two_pow_mul_add _ h1]
  by_cases hj : j < k
  · simp [hj, Nat.testBit_mod_two_pow]
  · simp only [hj, if_false, Nat.testBit_and, Nat.testBit_div_two_pow]
    rw [show j - k + k = j by omega]

def M1 : Nat → Nat | 0 => 0 | k + 1 => 4 * M1 k + 1
def M2 : Nat → Nat | 0 => 0 | k + 1 => 16 * M2 k + 3
def M3 : Nat → Nat | 0 => 0 | k + 1 => 256 * M3 k + 15

def s1 (k x : Nat) : Nat := (x / 2 &&& M1 k) + (x &&& M1 k)
def s2 (k x : Nat) : Nat := (x / 4 &&& M2 k) + (x &&& M2 k)
def s3 (k x : Nat) : Nat := (x / 16 + x) &&& M3 k

theorem and_one (x : Nat) : x &&& 1 = x % 2 := Nat.and_one_is_mod x
theorem and_three (x : Nat) : x &&& 3 = x % 4 := Nat.and_two_pow_sub_one_eq_mod x 2
theorem and_fifteen (x : Nat) : x &&& 15 = x % 16 := Nat.and_two_pow_sub_one_eq_mod x 4

theorem s1_succ (k x : Nat) : s1 (k + 1) x = 4 * s1 k (x / 4) + (x / 2 % 2 + x % 2) := by
  have h1 := and_split 2 x (M1 k) 1 (by decide)
  have h2 := and_split 2 (x / 2) (M1 k) 1 (by decide)
  rw [and_one] at h1 h2
  simp only [show (2 : Nat) ^ 2 = 4 from rfl] at h1 h2
  have e : x / 2 / 4 = x / 4 / 2 := by omega
  rw [e] at h2
  unfold s1
  rw [show M1 (k + 1) = 4 * M1 k + 1 from rfl, h1, h2]
  omega

theorem s2_succ (k x : Nat) : s2 (k + 1) x = 16 * s2 k (x / 16) + (x / 4 % 4 + x % 4) := by
  have h1 := and_split 4 x (M2 k) 3 (by decide)
  have h2 := and_split 4 (x / 4) (M2 k) 3 (by decide)
  rw [and_three] at h1 h2
  simp only [show (2 : Nat) ^ 4 = 16 from rfl] at h1 h2
  have e : x / 4 / 16 = x / 16 / 4 := by omega
  rw [e] at h2
  unfold s2
  rw [show M2 (k + 1) = 16 * M2 k + 3 from rfl, h1, h2]
  omega

/-- Each of the last k digits to the base 16 is at most 6. -/
def six : Nat → Nat → Prop
  | 0, x => x = 0
  | k + 1, x => x % 16 ≤ 6 ∧ six k (x / 16)

theorem six_s2 (k x : Nat) : six k (s2 k x) := by
  induction k generalizing x with
  | zero => simp [six, s2, M2]
  | succ k ih =>
    have h := s2_succ k x
    have h1 : s2 (k + 1) x / 16 = s2 k (x / 16) := by omega
    exact ⟨by omega, by rw [h1]; exact ih _⟩

theorem s3_succ (k x : Nat) (h : six (2 * (k + 1)) x) : s3 (k + 1) x = 256 * s3 k (x / 256) + (x / 16 % 16 + x % 16) := by
  have h0 : x % 16 ≤ 6 := h.1
  have h1 : x / 16 % 16 ≤ 6 := h.2.1
  have h2 : six (2 * k) (x / 16 / 16) := h.2.2
  have h3 : x / 256 % 16 ≤ 6 := by
    have e : x / 256 = x / 16 / 16 := by omega
    rw [e]
    generalize x / 16 / 16 = q at h2
    cases k with
    | zero => have : q = 0 := h2; omega
    | succ k => exact h2.1
  have hs := and_split 8 (x / 16 + x) (M3 k) 15 (by decide)
  rw [and_fifteen] at hs
  simp only [show (2 : Nat) ^ 8 = 256 from rfl] at hs
  have e3 : (x / 16 + x) / 256 = x / 256 / 16 + x / 256 ∧ (x / 16 + x) % 256 % 16 = x / 16 % 16 + x % 16 := by
    have ex : x = 256 * (x / 256) + 16 * (x / 16 % 16) + x % 16 := by omega
    have ex2 : x / 16 = 16 * (x / 256) + x / 16 % 16 := by omega
    have ex3 : x / 256 = 16 * (x / 256 / 16) + x / 256 % 16 := by omega
    generalize x / 16 % 16 = a at *
    generalize x % 16 = b at *
    generalize x / 256 / 16 = q1 at *
    generalize x / 256 % 16 = q0 at *
    generalize x / 256 = q at *
    generalize x / 16 = y at *
    clear hs h h2
    omega
  obtain ⟨e, e4⟩ := e3
  rw [e, e4] at hs
  unfold s3
  rw [show M3 (k + 1) = 256 * M3 k + 15 from rfl, hs]

theorem ds1 (k x : Nat) : ds 4 k (s1 k x) = pc (2 * k) x := by
  induction k generalizing x with
  | zero => rfl
  | succ k ih =>
    have h := s1_succ k x
    have h1 : s1 (k + 1) x / 4 = s1 k (x / 4) := by omega
    have h2 : s1 (k + 1) x % 4 = x / 2 % 2 + x % 2 := by omega
    have e : pc (2 * (k + 1)) x = x % 2 + (x / 2 % 2 + pc (2 * k) (x / 2 / 2)) := rfl
    have e2 : x / 2 / 2 = x / 4 := by omega
    rw [show ds 4 (k + 1) (s1 (k + 1) x) = s1 (k + 1) x % 4 + ds 4 k (s1 (k + 1) x / 4) from rfl, h1, h2, ih, e, e2]
    omega

theorem ds2 (k x : Nat) : ds 16 k (s2 k x) = ds 4 (2 * k) x := by
  induction k generalizing x with
  | zero => rfl
  | succ k ih =>
    have h := s2_succ k x
    have h1 : s2 (k + 1) x / 16 = s2 k (x / 16) := by omega
    have h2 : s2 (k + 1) x % 16 = x / 4 % 4 + x % 4 := by omega
    have e : ds 4 (2 * (k + 1)) x = x % 4 + (x / 4 % 4 + ds 4 (2 * k) (x / 4 / 4)) := rfl
    have e2 : x / 4 / 4 = x / 16 := by omega
    rw [show ds 16 (k + 1) (s2 (k + 1) x) = s2 (k + 1) x % 16 + ds 16 k (s2 (k + 1) x / 16) from rfl, h1, h2, ih, e, e2]
    omega

theorem ds3 (k x : Nat) (hx : six (2 * k) x) : ds 256 k (s3 k x) = ds 16 (2 * k) x := by
  induction k generalizing x with
  | zero => rfl
  | succ k ih =>
    have h0 : x % 16 ≤ 6 := hx.1
    have h1' : x / 16 % 16 ≤ 6 := hx.2.1
    have hq : six (2 * k) (x / 16 / 16) := hx.2.2
    have h := s3_succ k x hx
    have h1 : s3 (k + 1) x / 256 = s3 k (x / 256) := by omega
    have h2 : s3 (k + 1) x % 256 = x / 16 % 16 + x % 16 := by omega
    have e : ds 16 (2 * (k + 1)) x = x % 16 + (x / 16 % 16 + ds 16 (2 * k) (x / 16 / 16)) := rfl
    have e2 : x / 16 / 16 = x / 256 := by omega
    rw [e2] at hq
    rw [show ds 256 (k + 1) (s3 (k + 1) x) = s3 (k + 1) x % 256 + ds 256 k (s3 (k + 1) x / 256) from rfl, h1, h2, ih _ hq, e, e2]
    omega

/-- Each of the last k bytes is at most 12, and there is nothing above. -/
def twelve : Nat → Nat → Prop
  | 0, x => x = 0
  | k + 1, x => x % 256 ≤ 12 ∧ twelve k (x / 256)

theorem twelve_s3 (k x : Nat) (hx : six (2 * k) x) : twelve k (s3 k x) := by
  induction k generalizing x with
  | zero => simp [twelve, s3, M3]
  | succ k ih =>
    have h0 : x % 16 ≤ 6 := hx.1
    have h1' : x / 16 % 16 ≤ 6 := hx.2.1
    have hq : six (2 * k) (x / 16 / 16) := hx.2.2
    have h := s3_succ k x hx
    have h1 : s3 (k + 1) x / 256 = s3 k (x / 256) := by omega
    have e2 : x / 16 / 16 = x / 256 := by omega
    rw [e2] at hq
    exact ⟨by omega, by rw [h1]; exact ih _ hq⟩

theorem div_lo (B L H : Nat) (h : L < B) : (L + B * H) / B = H := by
  rw [Nat.add_mul_div_left _ _ (by omega), Nat.div_eq_of_lt h, Nat.zero_add]

theorem fold_bytes (b0 b1 b2 b3 b4 b5 b6 b7 u R1 R2 R3 R4 R5 R6 : Nat) (h0 : b0 ≤ 12) (h1 : b1 ≤ 12) (h2 : b2 ≤ 12) (h3 : b3 ≤ 12) (h4 : b4 ≤ 12) (h5 : b5 ≤ 12) (h6 : b6 ≤ 12) (h7 : b7 ≤ 12)
    (hu : u = b0 + 256 * R1) (e1 : R1 = b1 + 256 * R2) (e2 : R2 = b2 + 256 * R3) (e3 : R3 = b3 + 256 * R4) (e4 : R4 = b4 + 256 * R5) (e5 : R5 = b5 + 256 * R6) (e6 : R6 = b6 + 256 * b7) :
    ∃ H, u + u / 256 + (u + u / 256) / 65536 + (u + u / 256 + (u + u / 256) / 65536) / 4294967296 = (b0 + b1 + b2 + b3 + b4 + b5 + b6 + b7) + 128 * H ∧ H < 36028797018963968 := by
  have f1 : u / 256 = R1 := by
    rw [hu]; exact div_lo 256 b0 _ (by omega)
  rw [f1]
  have f4 : u + R1 = (b0 + b1 + 256 * (b1 + b2)) + 65536 * (R2 + R3) := by
    clear f1 e3 e4 e5 e6; omega
  have f2 : (u + R1) / 65536 = R2 + R3 := by
    rw [f4]; exact div_lo 65536 _ _ (by omega)
  rw [f2]
  have g : R2 + R3 = (b2 + b3) + 256 * (b3 + b4) + 65536 * (R4 + R5) := by
    clear f1 f2 f4 hu e1 e5 e6; omega
  have g2 : R4 + R5 = (b4 + b5) + 256 * (b5 + b6) + 65536 * (R6 + b7) := by
    clear f1 f2 f4 hu e1 e2 e3 g; omega
  have f5 : u + R1 + (R2 + R3) = ((b0 + b1 + b2 + b3) + 256 * (b1 + b2 + b3 + b4) + 65536 * (b2 + b3 + b4 + b5) + 16777216 * (b3 + b4 + b5 + b6)) + 4294967296 * (R4 + R5 + (R6 + b7)) := by
    rw [f4]
    generalize R4 + R5 = A at *
    generalize R6 + b7 = B at *
    generalize R2 + R3 = C at *
    clear f1 f2 f4 hu e1 e2 e3 e4 e5 e6
    omega
  have f3 : (u + R1 + (R2 + R3)) / 4294967296 = R4 + R5 + (R6 + b7) := by
    rw [f5]; exact div_lo 4294967296 _ _ (by omega)
  rw [f3, f5]
  have g3 : R4 + R5 + (R6 + b7) = (b4 + b5 + b6 + b7) + 256 * (R5 + R6 + b7) := by
    clear f1 f2 f3 f4 f5 g g2 hu e1 e2 e3; omega
  have bd : R5 + R6 + b7 < 1048576 := by clear f1 f2 f3 f4 f5 g g2 g3 hu e1 e2 e3 e4; omega
  refine ⟨2 * (b1 + b2 + b3 + b4) + 512 * (b2 + b3 + b4 + b5) + 131072 * (b3 + b4 + b5 + b6) + 33554432 * (R4 + R5 + (R6 + b7)) + 2 * (R5 + R6 + b7), ?_, ?_⟩
  · clear f1 f2 f3 f4 f5 g g2 hu e1 e2 e3 e4 e5 e6 bd
    generalize R4 + R5 + (R6 + b7) = T at *
    generalize R5 + R6 + b7 = U at *
    omega
  · clear f1 f2 f3 f4 f5 g g2 hu e1 e2 e3 e4 e5 e6
    generalize R4 + R5 + (R6 + b7) = T at *
    generalize R5 + R6 + b7 = U at *
    omega

/-- The last steps: the bytes are added up. -/
theorem fold_ds (u : Nat) (h : twelve 8 u) (hs : ds 256 8 u ≤ 64) :
    (u + u / 256 + (u + u / 256) / 65536 + (u + u / 256 + (u + u / 256) / 65536) / 4294967296) % 128 = ds 256 8 u ∧
    u + u / 256 + (u + u / 256) / 65536 + (u + u / 256 + (u + u / 256) / 65536) / 4294967296 < 9223372036854775808 := by
  obtain ⟨t0, t1, t2, t3, t4, t5, t6, t7, t8⟩ := h
  have t8' : u / 256 / 256 / 256 / 256 / 256 / 256 / 256 / 256 = 0 := t8
  have e : ds 256 8 u = u % 256 + (u / 256 % 256 + (u / 256 / 256 % 256 + (u / 256 / 256 / 256 % 256 + (u / 256 / 256 / 256 / 256 % 256 + (u / 256 / 256 / 256 / 256 / 256 % 256 + (u / 256 / 256 / 256 / 256 / 256 / 256 % 256 + (u / 256 / 256 / 256 / 256 / 256 / 256 / 256 % 256 + 0))))))) := rfl
  have split : ∀ y : Nat, y = y % 256 + 256 * (y / 256) := fun y => by omega
  have g7 : u / 256 / 256 / 256 / 256 / 256 / 256 / 256 = u / 256 / 256 / 256 / 256 / 256 / 256 / 256 % 256 := by have := split (u / 256 / 256 / 256 / 256 / 256 / 256 / 256); rw [t8'] at this; simpa using this
  have g6 := split (u / 256 / 256 / 256 / 256 / 256 / 256)
  rw [g7] at g6
  obtain ⟨H, hy, hlt⟩ := fold_bytes _ _ _ _ _ _ _ _ u _ _ _ _ _ _ t0 t1 t2 t3 t4 t5 t6 t7 (split u) (split (u / 256)) (split (u / 256 / 256)) (split (u / 256 / 256 / 256)) (split (u / 256 / 256 / 256 / 256)) (split (u / 256 / 256 / 256 / 256 / 256)) g6
  rw [hy]
  have hd : u % 256 + u / 256 % 256 + u / 256 / 256 % 256 + u / 256 / 256 / 256 % 256 + u / 256 / 256 / 256 / 256 % 256 + u / 256 / 256 / 256 / 256 / 256 % 256 + u / 256 / 256 / 256 / 256 / 256 / 256 % 256 + u / 256 / 256 / 256 / 256 / 256 / 256 / 256 % 256 = ds 256 8 u := by
    rw [e]; simp only [Nat.add_zero, Nat.add_assoc]
  rw [hd]
  generalize ds 256 8 u = d at hs
  clear hy e hd t0 t1 t2 t3 t4 t5 t6 t7 t8 t8' g6 g7 split
  omega

theorem ones_pc (x : Nat) : twelve 8 (s3 8 (s2 16 (s1 32 x))) ∧ ds 256 8 (s3 8 (s2 16 (s1 32 x))) = pc 64 x :=
  ⟨twelve_s3 8 _ (six_s2 16 _), by rw [ds3 8 _ (six_s2 16 _), ds2 16, ds1 32]⟩

theorem pc_add (a b x : Nat) : pc (a + b) x = pc a x + pc b (x / 2 ^ a) := by
  induction a generalizing x with
  | zero => simp [pc, ds]
  | succ a ih =>
    rw [show a + 1 + b = (a + b) + 1 by omega]
    have h1 : pc (a + b + 1) x = x % 2 + pc (a + b) (x / 2) := rfl
    have h2 : pc (a + 1) x = x % 2 + pc a (x / 2) := rfl
    rw [h1, h2, ih, Nat.pow_succ, Nat.mul_comm, ← Nat.div_div_eq_div_mul]
    omega

theorem pc_mod (k x : Nat) : pc k (x % 2 ^ k) = pc k x := by
  induction k generalizing x with
  | zero => rfl
  | succ k ih =>
    have h1 : ∀ y, pc (k + 1) y = y % 2 + pc k (y / 2) := fun _ => rfl
    rw [h1, h1]
    have e1 : x % 2 ^ (k + 1) % 2 = x % 2 := Nat.mod_mod_of_dvd _ ⟨2 ^ k, by rw [Nat.pow_succ, Nat.mul_comm]⟩
    have e2 : x % 2 ^ (k + 1) / 2 = x / 2 % 2 ^ k := by rw [Nat.pow_succ, Nat.mul_comm, Nat.mod_mul_right_div_self]
    rw [e1, e2, ih]

/-- How many of the first k words' bits are set. -/
theorem pc_words (k m : Nat) : pc (64 * (k + 1)) m = pc (64 * k) m + pc 64 (wd m k) := by
  rw [show 64 * (k + 1) = 64 * k + 64 by omega, pc_add]
  unfold wd
  rw [pc_mod]

end Go.Proofs.YtdhojilmgnodeaaDoor.B

/-
  What OnesCount64 and Count do.
-/
namespace Go.Proofs.YtdhojilmgnodeaaDoor.B
open Go.RowKit

theorem ones_core (x y1 y2 y3 y4 y5 y6 y7 : Nat) (w : World)
    (k1 : IntKind.u64.wrap (bits BinOp.and IntKind.u64 (↑x / 2) 6148914691236517205 + bits BinOp.and IntKind.u64 (↑x) 6148914691236517205) = (y1 : Int))
    (k2 : IntKind.u64.wrap (bits BinOp.and IntKind.u64 (↑y1 / 4) 3689348814741910323 + bits BinOp.and IntKind.u64 (↑y1) 3689348814741910323) = (y2 : Int))
    (k3 : bits BinOp.and IntKind.u64 (IntKind.u64.wrap (↑y2 / 16 + ↑y2)) 1085102592571150095 = (y3 : Int))
    (k4 : IntKind.u64.wrap (↑y3 + ↑y3 / 256) = (y4 : Int))
    (k5 : IntKind.u64.wrap (↑y4 + ↑y4 / 65536) = (y5 : Int))
    (k6 : IntKind.u64.wrap (↑y5 + ↑y5 / 4294967296) = (y6 : Int))
    (k7 : bits BinOp.and IntKind.i64 (wrap64 ↑y6) 127 = (y7 : Int)) :
    Calls Tryd.prog 68 #[.int .u64 x] w fun e w' => e = .returned (.int .i64 y7) ∧ w' = w := by
  go_enter Tryd.func68, Tryd.ntmps68
  go_wp2
  go_ret
  exact ⟨rfl, rfl⟩

theorem and_cast (a c : Nat) (z : Int) (ha : a < 18446744073709551616) (hc : c < 18446744073709551616) (hz : z = (a : Int)) : bits BinOp.and IntKind.u64 z (c : Int) = ((a &&& c : Nat) : Int) := by
  rw [hz]; exact bits_and_u64_nat a c ha hc

theorem wrap_cast (a : Nat) (z : Int) (ha : a < 18446744073709551616) (hz : z = (a : Int)) : IntKind.u64.wrap z = (a : Int) := by
  rw [hz, IntKind.wrap_u64]; omega

theorem m1 : M1 32 = 6148914691236517205 := by decide +kernel
theorem m2 : M2 16 = 3689348814741910323 := by decide +kernel
theorem m3 : M3 8 = 1085102592571150095 := by decide +kernel

theorem key1 (x : Nat) (hx : x < 18446744073709551616) :
    IntKind.u64.wrap (bits BinOp.and IntKind.u64 (↑x / 2) 6148914691236517205 + bits BinOp.and IntKind.u64 (↑x) 6148914691236517205) = (s1 32 x : Int) ∧ s1 32 x < 18446744073709551616 := by
  have b1 : s1 32 x = (x / 2 &&& 6148914691236517205) + (x &&& 6148914691236517205) := by unfold s1; rw [m1]
  have l1 : x / 2 &&& 6148914691236517205 ≤ 6148914691236517205 := Nat.and_le_right
  have l2 : x &&& 6148914691236517205 ≤ 6148914691236517205 := Nat.and_le_right
  have c1 := and_cast (x / 2) 6148914691236517205 (↑x / 2) (by omega) (by omega) (by omega)
  have c2 := and_cast x 6148914691236517205 x hx (by omega) rfl
  have e1 : ((6148914691236517205 : Nat) : Int) = 6148914691236517205 := rfl
  rw [e1] at c1 c2
  rw [c1, c2, b1]
  generalize x / 2 &&& 6148914691236517205 = p at *
  generalize x &&& 6148914691236517205 = q at *
  exact ⟨wrap_cast _ _ (by omega) (by omega), by omega⟩

theorem key2 (x : Nat) (hx : x < 18446744073709551616) :
    IntKind.u64.wrap (bits BinOp.and IntKind.u64 (↑x / 4) 3689348814741910323 + bits BinOp.and IntKind.u64 (↑x) 3689348814741910323) = (s2 16 x : Int) ∧ s2 16 x ≤ 7378697629483820646 := by
  have b1 : s2 16 x = (x / 4 &&& 3689348814741910323) + (x &&& 3689348814741910323) := by unfold s2; rw [m2]
  have l1 : x / 4 &&& 3689348814741910323 ≤ 3689348814741910323 := Nat.and_le_right
  have l2 : x &&& 3689348814741910323 ≤ 3689348814741910323 := Nat.and_le_right
  have c1 := and_cast (x / 4) 3689348814741910323 (↑x / 4) (by omega) (by omega) (by omega)
  have c2 := and_cast x 3689348814741910323 x hx (by omega) rfl
  have e1 : ((3689348814741910323 : Nat) : Int) = 3689348814741910323 := rfl
  rw [e1] at c1 c2
  rw [c1, c2, b1]
  generalize x / 4 &&& 3689348814741910323 = p at *
  generalize x &&& 3689348814741910323 = q at *
  exact ⟨wrap_cast _ _ (by omega) (by omega), by omega⟩

theorem key3 (y : Nat) (hy : y ≤ 7378697629483820646) : bits BinOp.and IntKind.u64 (IntKind.u64.wrap (↑y / 16 + ↑y)) 1085102592571150095 = (s3 8 y : Int) := by
  have b3 : s3 8 y = (y / 16 + y) &&& 1085102592571150095 := by unfold s3; rw [m3]
  rw [wrap_cast (y / 16 + y) _ (by omega) (by omega), b3]
  exact and_cast (y / 16 + y) 1085102592571150095 _ (by omega) (by omega) rfl

theorem key4 (y B : Nat) (Bi : Int) (hB : Bi = (B : Int)) (hy : y + y / B < 9223372036854775808) : IntKind.u64.wrap (↑y + ↑y / Bi) = ((y + y / B : Nat) : Int) := by
  refine wrap_cast _ _ (by omega) ?_
  rw [hB]
  simp

theorem key7 (y : Nat) (hy : y < 9223372036854775808) : bits BinOp.and IntKind.i64 (wrap64 ↑y) 127 = ((y % 128 : Nat) : Int) := by
  have e : wrap64 (y : Int) = (y : Int) := IntWalk.wrap64_in _ ⟨by omega, by omega⟩
  rw [e]
  have := bits_mask .i64 63 (by decide) (fun n h0 h1 => by rw [IntKind.wrap_i64]; omega) 7 (by decide) (y : Int) (by omega) (by omega)
  have e2 : ((2 : Int) ^ 7 - 1) = 127 := by decide
  rw [e2] at this
  rw [this]
  simp

theorem ones_any (x : Nat) (hx : x < 18446744073709551616) (w : World) :
    Calls Tryd.prog 68 #[.int .u64 x] w fun e w' => e = .returned (.int .i64 (pc 64 x : Nat)) ∧ w' = w := by
  obtain ⟨ht, hd⟩ := ones_pc x
  have hle := pc_le 64 x
  have hf := fold_ds _ ht (by rw [hd]; exact hle)
  rw [hd] at hf
  obtain ⟨k1, h1⟩ := key1 x hx
  obtain ⟨k2, h2⟩ := key2 _ h1
  have k3 := key3 _ h2
  generalize s1 32 x = y1 at *
  generalize s2 16 y1 = y2 at *
  generalize s3 8 y2 = y3 at *
  generalize pc 64 x = r at *
  clear ht hd h1 h2 hle hx
  obtain ⟨hf1, hf2⟩ := hf
  have q5 := Nat.lt_of_le_of_lt (Nat.le_add_right _ _) hf2
  have q4 := Nat.lt_of_le_of_lt (Nat.le_add_right _ _) q5
  have k4 := key4 y3 256 256 rfl q4
  generalize y3 + y3 / 256 = y4 at *
  have k5 := key4 y4 65536 65536 rfl q5
  generalize y4 + y4 / 65536 = y5 at *
  have k6 := key4 y5 4294967296 4294967296 rfl hf2
  generalize y5 + y5 / 4294967296 = y6 at *
  have k7 := key7 y6 hf2
  rw [hf1] at k7
  exact ones_core x y1 y2 y3 y4 y5 y6 r w k1 k2 k3 k4 k5 k6 k7

theorem run_words (n : Nat) (f : Nat → Nat) (w : World) : (Instr.field 83 (.agg (rowL n f).toArray) 1).run Tryd.prog w = .ok (.agg (wordsL f).toArray) w := by kernel_rfl
theorem run_word_0 (f : Nat → Nat) (w : World) : (Instr.index 81 (.agg (wordsL f).toArray) (.int .i64 0)).run Tryd.prog w = .ok (.int .u64 (f 0)) w := by kernel_rfl
theorem run_word_1 (f : Nat → Nat) (w : World) : (Instr.index 81 (.agg (wordsL f).toArray) (.int .i64 1)).run Tryd.prog w = .ok (.int .u64 (f 1)) w := by kernel_rfl
theorem run_word_2 (f : Nat → Nat) (w : World) : (Instr.index 81 (.agg (wordsL f).toArray) (.int .i64 2)).run Tryd.prog w = .ok (.int .u64 (f 2)) w := by kernel_rfl
theorem run_word_3 (f : Nat → Nat) (w : World) : (Instr.index 81 (.agg (wordsL f).toArray) (.int .i64 3)).run Tryd.prog w = .ok (.int .u64 (f 3)) w := by kernel_rfl
theorem run_word_4 (f : Nat → Nat) (w : World) : (Instr.index 81 (.agg (wordsL f).toArray) (.int .i64 4)).run Tryd.prog w = .ok (.int .u64 (f 4)) w := by kernel_rfl
theorem run_word_5 (f : Nat → Nat) (w : World) : (Instr.index 81 (.agg (wordsL f).toArray) (.int .i64 5)).run Tryd.prog w = .ok (.int .u64 (f 5)) w := by kernel_rfl
theorem run_word_6 (f : Nat → Nat) (w : World) : (Instr.index 81 (.agg (wordsL f).toArray) (.int .i64 6)).run Tryd.prog w = .ok (.int .u64 (f 6)) w := by kernel_rfl
theorem run_word_7 (f : Nat → Nat) (w : World) : (Instr.index 81 (.agg (wordsL f).toArray) (.int .i64 7)).run Tryd.prog w = .ok (.int .u64 (f 7)) w := by kernel_rfl
theorem run_word_8 (f : Nat → Nat) (w : World) : (Instr.index 81 (.agg (wordsL f).toArray) (.int .i64 8)).run Tryd.prog w = .ok (.int .u64 (f 8)) w := by kernel_rfl
theorem run_word_9 (f : Nat → Nat) (w : World) : (Instr.index 81 (.agg (wordsL f).toArray) (.int .i64 9)).run Tryd.prog w = .ok (.int .u64 (f 9)) w := by kernel_rfl
theorem run_word_10 (f : Nat → Nat) (w : World) : (Instr.index 81 (.agg (wordsL f).toArray) (.int .i64 10)).run Tryd.prog w = .ok (.int .u64 (f 10)) w := by kernel_rfl
theorem run_word_11 (f : Nat → Nat) (w : World) : (Instr.index 81 (.agg (wordsL f).toArray) (.int .i64 11)).run Tryd.prog w = .ok (.int .u64 (f 11)) w := by kernel_rfl
theorem run_word_12 (f : Nat → Nat) (w : World) : (Instr.index 81 (.agg (wordsL f).toArray) (.int .i64 12)).run Tryd.prog w = .ok (.int .u64 (f 12)) w := by kernel_rfl
theorem run_word_13 (f : Nat → Nat) (w : World) : (Instr.index 81 (.agg (wordsL f).toArray) (.int .i64 13)).run Tryd.prog w = .ok (.int .u64 (f 13)) w := by kernel_rfl
theorem run_word_14 (f : Nat → Nat) (w : World) : (Instr.index 81 (.agg (wordsL f).toArray) (.int .i64 14)).run Tryd.prog w = .ok (.int .u64 (f 14)) w := by kernel_rfl
theorem run_word_15 (f : Nat → Nat) (w : World) : (Instr.index 81 (.agg (wordsL f).toArray) (.int .i64 15)).run Tryd.prog w = .ok (.int .u64 (f 15)) w := by kernel_rfl
theorem run_word (f : Nat → Nat) (k : Nat) (hk : k < 16) (w : World) : (Instr.index 81 (.agg (wordsL f).toArray) (.int .i64 k)).run Tryd.prog w = .ok (.int .u64 (f k)) w := by
  have h : k = 0 ∨ k = 1 ∨ k = 2 ∨ k = 3 ∨ k = 4 ∨ k = 5 ∨ k = 6 ∨ k = 7 ∨ k = 8 ∨ k = 9 ∨ k = 10 ∨ k = 11 ∨ k = 12 ∨ k = 13 ∨ k = 14 ∨ k = 15 := by omega
  rcases h with rfl | rfl | rfl | rfl | rfl | rfl | rfl | rfl | rfl | rfl | rfl | rfl | rfl | rfl | rfl | rfl
  · exact run_word_0 f w
  · exact run_word_1 f w
  · exact run_word_2 f w
  · exact run_word_3 f w
  · exact run_word_4 f w
  · exact run_word_5 f w
  · exact run_word_6 f w
  · exact run_word_7 f w
  · exact run_word_8 f w
  · exact run_word_9 f w
  · exact run_word_10 f w
  · exact run_word_11 f w
  · exact run_word_12 f w
  · exact run_word_13 f w
  · exact run_word_14 f w
  · exact run_word_15 f w

/-- How many members. -/
def cnt (m : Nat) : Nat := pc 1024 m

set_option maxHeartbeats 400000 in
theorem count_core (p : Option Addr) (n : Nat) (f c o : Nat → Nat) (w : World)
    (hV : Calls Tryd.prog 67 #[.pointer p] w fun e w' => e = .returned (.agg (rowL n f).toArray) ∧ Below w.heap.size w w')
    (hO : Hid (∀ k w, Calls Tryd.prog 68 #[.int .u64 (f k)] w fun e w' => e = .returned (.int .i64 (o k)) ∧ w' = w))
    (c0 : c 0 = 0) (cs : Hid (∀ k, c (k + 1) = c k + o k)) (cle : Hid (∀ k, c k ≤ 64 * k ∧ o k ≤ 64)) :
    Calls Tryd.prog 51 #[.pointer p] w fun e w' => e = .returned (.int .i64 (c 16)) ∧ Below w.heap.size w w' := by
  have hf := fun w' => run_words n f w'
  go_enter Tryd.func51, Tryd.ntmps51
  go_wp2_with (go_at_call 67; refine hV.mono ?_; clear hV; rintro e w1 ⟨rfl, hb⟩)
  go_loop [3, 9] (fun v i => ∃ k : Nat, k ≤ 16 ∧ i = .int .i64 k ∧ v = .int .i64 (c k)) (fun _ i => 16 - (intOf i).toNat)
  case atStart => exact ⟨0, by omega, rfl, by rw [c0]; rfl⟩
  case round =>
    obtain ⟨k, hk, rfl, rfl⟩ := hrel
    have hle := (cle.out k).1
    have hle2 := (cle.out k).2
    clear c0 hf
    by_cases hlt : k < 16
    · have hi := fun w' => run_word f k hlt w'
      go_wp2_with (go_at_call 68; refine (hO.out k _).mono ?_; rintro e w2 ⟨rfl, rfl⟩)
      go_round
      case rel => exact ⟨k + 1, by omega, by go_num, by rw [cs.out]; go_num⟩
      case measure => simp [intOf]; omega
    · go_wp2
      go_ret
      have : k = 16 := by omega
      subst this
      exact ⟨rfl, hb⟩

theorem count_any (p : Option Addr) (n m : Nat) (w : World) (h : SetM w p n m) :
    Calls Tryd.prog 51 #[.pointer p] w fun e w' => e = .returned (.int .i64 (cnt m : Nat)) ∧ Below w.heap.size w w' :=
  count_core p n (wd m) (fun k => pc (64 * k) m) (fun k => pc 64 (wd m k)) w (value_any p n m w h) (fun k w => ones_any _ (wd_lt m k) w) rfl (fun k => pc_words k m) (fun _ => ⟨pc_le _ _, pc_le _ _⟩)

end Go.Proofs.YtdhojilmgnodeaaDoor.B
