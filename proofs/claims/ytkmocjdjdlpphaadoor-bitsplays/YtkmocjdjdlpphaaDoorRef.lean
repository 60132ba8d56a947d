/-
  The document's own sets (package presageref01) in memory: Has, Count, Add, Drop.
-/
import Derived.Test.YtkmocjdjdlpphaaDoorUnionsMath
namespace Go.Proofs.YtkmocjdjdlpphaaDoor
open Go.RowKit

/-- Of each number below n whether it is a member. -/
def boolL (n m : Nat) : List Value := (List.range n).map (fun i => Value.bool (m.testBit i))

/-- The document's set in block br, its list in block bi. -/
structure RefAt (w : World) (br bi n m : Nat) : Prop where
  head : w.heap[br]? = some (.cells #[.slice (some ⟨bi, 0, none⟩) n n] 70 (0, 0))
  row : w.heap[bi]? = some (.cells (boolL n m).toArray 4 (0, 0))
  ne : br ≠ bi
  le : n ≤ 1024
  lt : m < 2 ^ n

theorem boolL_length (n m : Nat) : (boolL n m).length = n := by simp [boolL]
theorem boolL_at (n m i : Nat) (hi : i < n) : (boolL n m)[i]? = some (.bool (m.testBit i)) := by simp [boolL, hi]
theorem boolL_congr {n m m' : Nat} (h : ∀ i, i < n → m.testBit i = m'.testBit i) : boolL n m = boolL n m' :=
  List.map_congr_left fun i hi => by rw [h i (by simpa using hi)]
theorem boolL_set (n m m' i : Nat) (hi : i < n) (h : ∀ j, j ≠ i → m'.testBit j = m.testBit j) : (boolL n m).set i (.bool (m'.testBit i)) = boolL n m' := by
  apply List.ext_getElem?
  intro k
  rw [List.getElem?_set]
  by_cases hk : k < n
  · rw [boolL_at n m' k hk]
    by_cases e : i = k
    · subst e; simp [boolL_length, hi]
    · rw [if_neg e, boolL_at n m k hk, h k (fun h => e h.symm)]
  · rw [List.getElem?_eq_none (by rw [boolL_length]; omega)]
    rw [if_neg (by omega), List.getElem?_eq_none (by rw [boolL_length]; omega)]

theorem RefAt.hcell {w : World} {br bi n m : Nat} (h : RefAt w br bi n m) : w.cell? ⟨br, 0, none⟩ = some (.slice (some ⟨bi, 0, none⟩) n n) := cell_of_row w br 0 _ _ _ h.head
theorem RefAt.cell {w : World} {br bi n m : Nat} (h : RefAt w br bi n m) (i : Nat) (hi : i < n) : w.cell? ⟨bi, i, none⟩ = some (.bool (m.testBit i)) := by
  rw [cell_of_row w bi i _ _ _ h.row]; simpa using boolL_at n m i hi
theorem RefAt.free {w : World} {br bi n m : Nat} (h : RefAt w br bi n m) (i : Nat) : w.frozen? ⟨bi, i, none⟩ = false := frozen_of_row w bi i _ _ h.row
theorem RefAt.ltr {w : World} {br bi n m : Nat} (h : RefAt w br bi n m) : br < w.heap.size := (Array.getElem?_eq_some_iff.1 h.head).1
theorem RefAt.lti {w : World} {br bi n m : Nat} (h : RefAt w br bi n m) : bi < w.heap.size := (Array.getElem?_eq_some_iff.1 h.row).1
theorem RefAt.keep {w w' : World} {br bi n m : Nat} (h : RefAt w br bi n m) (hb : Below w.heap.size w w') : RefAt w' br bi n m :=
  ⟨(hb.block br h.ltr).trans h.head, (hb.block bi h.lti).trans h.row, h.ne, h.le, h.lt⟩
theorem RefAt.but {w w' : World} {br bi n m b : Nat} (h : RefAt w br bi n m) (hb : But b w w') (h1 : br ≠ b) (h2 : bi ≠ b) : RefAt w' br bi n m :=
  ⟨(hb.block br h.ltr h1).trans h.head, (hb.block bi h.lti h2).trans h.row, h.ne, h.le, h.lt⟩
theorem RefAt.drewN {w : World} {br bi n m : Nat} (h : RefAt w br bi n m) (k : Nat) : RefAt (w.drewN k) br bi n m := ⟨h.head, h.row, h.ne, h.le, h.lt⟩

theorem RefAt.store {w : World} {br bi n m m' : Nat} (h : RefAt w br bi n m) (i : Nat) (hi : i < n) (hj : ∀ j, j ≠ i → m'.testBit j = m.testBit j) (hlt : m' < 2 ^ n) :
    RefAt (w.setCell ⟨bi, i, none⟩ (.bool (m'.testBit i))) br bi n m' := by
  refine ⟨(Below.heap_setCell _ _ _ _ h.ne).trans h.head, ?_, h.ne, h.le, hlt⟩
  rw [heap_setCell_same w bi i _ _ _ h.row, ← boolL_set n m m' i hi hj]
  simp

theorem ref_has (br bi n m : Nat) (x : Int) (w : World) (h : RefAt w br bi n m) :
    Calls Tryd.prog 35 #[.pointer (some ⟨br, 0, none⟩), .int .i64 x] w fun e w' => e = .returned (.bool (hasB m x)) ∧ w' = w := by
  have hh := h.hcell
  have hle := h.le
  by_cases h0 : 0 ≤ x
  · have hd : decide (0 ≤ x) = true := decide_eq_true h0
    by_cases h1 : x < n
    · obtain ⟨k, rfl⟩ := Int.eq_ofNat_of_zero_le h0
      have hk : k < n := by omega
      have hc := h.cell k hk
      have e : hasB m (k : Int) = m.testBit k := by simp [hasB]
      rw [e]
      clear h e
      go_enter Tryd.func35, Tryd.ntmps35
      go_wp2
      go_ret
      exact ⟨rfl, rfl⟩
    · have e : hasB m x = false := by
        have h2 : n ≤ x.toNat := by omega
        unfold hasB
        rw [Nat.testBit_lt_two_pow (Nat.lt_of_lt_of_le h.lt (Nat.pow_le_pow_right (by decide) h2)), Bool.and_false]
      rw [e]
      clear h e
      have hd2 : decide (x < (n : Int)) = false := decide_eq_false h1
      go_enter Tryd.func35, Tryd.ntmps35
      go_wp2
      go_ret
      exact ⟨rfl, rfl⟩
  · have hd : decide (0 ≤ x) = false := decide_eq_false h0
    have e : hasB m x = false := by unfold hasB; rw [hd, Bool.false_and]
    rw [e]
    clear h e
    go_enter Tryd.func35, Tryd.ntmps35
    go_wp2
    go_ret
    exact ⟨rfl, rfl⟩

theorem ref_count_core (br bi n m : Nat) (c : Nat → Nat) (w : World) (h : RefAt w br bi n m) (c0 : c 0 = 0) (cs : Hid (∀ k, c (k + 1) = c k + (if m.testBit k then 1 else 0))) (cle : Hid (∀ k, c k ≤ k)) :
    Calls Tryd.prog 36 #[.pointer (some ⟨br, 0, none⟩)] w fun e w' => e = .returned (.int .i64 (c n)) ∧ w' = w := by
  have hh := h.hcell
  have hle := h.le
  have HC : Hid (∀ i, i < n → w.cell? ⟨bi, i, none⟩ = some (.bool (m.testBit i))) := h.cell
  clear h
  go_enter Tryd.func36, Tryd.ntmps36
  go_wp2
  go_loop [3, 4] (fun v i => ∃ k : Nat, k ≤ n ∧ i = .int .i64 k ∧ v = .int .i64 (c k)) (fun _ i => n - (intOf i).toNat)
  case atStart => exact ⟨0, by omega, rfl, by rw [c0]; rfl⟩
  case round =>
    obtain ⟨k, hk, rfl, rfl⟩ := hrel
    have hck := cle.out k
    clear c0
    by_cases hlt : k < n
    · have hc := HC.out k hlt
      have HS : Hid (c (k + 1) = c k + (if m.testBit k then 1 else 0)) := cs.out k
      cases hb : m.testBit k with
      | true =>
        rw [hb] at hc HS
        clear hb
        go_wp2
        go_round
        case rel => exact ⟨k + 1, by omega, by go_num, by rw [HS.out]; go_num⟩
        case measure => simp [intOf]; omega
      | false =>
        rw [hb] at hc HS
        clear hb
        go_wp2
        go_round
        case rel => exact ⟨k + 1, by omega, by go_num, by rw [HS.out]; simp⟩
        case measure => simp [intOf]; omega
    · have : k = n := by omega
      subst this
      go_wp2
      go_ret
      exact ⟨rfl, rfl⟩

theorem pc_full {n m : Nat} (hn : n ≤ 1024) (hm : m < 2 ^ n) : pc n m = cnt m := by
  unfold cnt
  rw [← mems_length, ← mems_length]
  obtain ⟨d, hd⟩ : ∃ d, 1024 = n + d := ⟨1024 - n, by omega⟩
  rw [hd, mems_skip m n d (fun s h1 _ => Nat.testBit_lt_two_pow (Nat.lt_of_lt_of_le hm (Nat.pow_le_pow_right (by decide) h1)))]
theorem mems_full {n m : Nat} (hn : n ≤ 1024) (hm : m < 2 ^ n) : mems n m = mems 1024 m := by
  obtain ⟨d, hd⟩ : ∃ d, 1024 = n + d := ⟨1024 - n, by omega⟩
  rw [hd, mems_skip m n d (fun s h1 _ => Nat.testBit_lt_two_pow (Nat.lt_of_lt_of_le hm (Nat.pow_le_pow_right (by decide) h1)))]

theorem ref_count (br bi n m : Nat) (w : World) (h : RefAt w br bi n m) :
    Calls Tryd.prog 36 #[.pointer (some ⟨br, 0, none⟩)] w fun e w' => e = .returned (.int .i64 (cnt m : Nat)) ∧ w' = w := by
  have := ref_count_core br bi n m (fun k => pc k m) w h rfl (fun k => pc_succ k m) (fun k => pc_le k m)
  rw [← pc_full h.le h.lt]
  exact this

theorem add_bits (m i : Nat) : ∀ j, j ≠ i → (m ||| 2 ^ i).testBit j = m.testBit j := fun j hj => by
  rw [Nat.testBit_or, Nat.testBit_two_pow, decide_eq_false (fun h => hj h.symm), Bool.or_false]
theorem add_bit (m i : Nat) : (m ||| 2 ^ i).testBit i = true := by
  rw [Nat.testBit_or, Nat.testBit_two_pow, decide_eq_true rfl, Bool.or_true]
theorem drop_bits (m i : Nat) : ∀ j, j ≠ i → (m ^^^ 2 ^ i).testBit j = m.testBit j := fun j hj => by
  rw [Nat.testBit_xor, Nat.testBit_two_pow, decide_eq_false (fun h => hj h.symm), Bool.xor_false]
theorem drop_bit (m i : Nat) (h : m.testBit i = true) : (m ^^^ 2 ^ i).testBit i = false := by
  rw [Nat.testBit_xor, Nat.testBit_two_pow, decide_eq_true rfl, h]; rfl

theorem radd_none (br : Nat) (a : Option Addr) (cap : Nat) (w : World) :
    Calls Tryd.prog 18 #[.pointer (some ⟨br, 0, none⟩), .slice a 0 cap] w fun e w' => e = .returned (.int .i64 0) ∧ w' = w := by
  go_enter Tryd.func18, Tryd.ntmps18
  go_wp2
  go_loop [5, 6] (fun a i => a = .int .i64 0 ∧ i = .int .i64 0) (fun _ _ => 0)
  case atStart => exact ⟨rfl, rfl⟩
  case round =>
    obtain ⟨rfl, rfl⟩ := hrel
    go_wp2
    go_ret
    exact ⟨rfl, rfl⟩
theorem rdrop_none (br : Nat) (a : Option Addr) (cap : Nat) (w : World) :
    Calls Tryd.prog 19 #[.pointer (some ⟨br, 0, none⟩), .slice a 0 cap] w fun e w' => e = .returned (.int .i64 0) ∧ w' = w := by
  go_enter Tryd.func19, Tryd.ntmps19
  go_wp2
  go_loop [5, 6] (fun a i => a = .int .i64 0 ∧ i = .int .i64 0) (fun _ _ => 0)
  case atStart => exact ⟨rfl, rfl⟩
  case round =>
    obtain ⟨rfl, rfl⟩ := hrel
    go_wp2
    go_ret
    exact ⟨rfl, rfl⟩

end Go.Proofs.YtkmocjdjdlpphaaDoor
