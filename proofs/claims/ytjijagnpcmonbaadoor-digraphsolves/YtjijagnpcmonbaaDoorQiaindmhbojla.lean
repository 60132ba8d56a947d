/-
  TrailingZeros64; the members of a set in rising order; what going over them does with a word's rest. 
-/
import Derived.Test.YtjijagnpcmonbaaDoorQppijnenhdkii
import Derived.Lib.TrailingZeros
namespace Go.Proofs.YtjijagnpcmonbaaDoor.B
open Go.RowKit

/-- The library's table lies in its variable. -/
def Tab (w : World) : Prop := ∀ j, j < 64 → w.cell? ⟨0, j, none⟩ = some (.int .u8 (Lib.deBruijn64tab.getD j 0 : Nat))

theorem Tab.below {w w' : World} {B : Nat} (h : Tab w) (hb : Below B w w') (hB : 0 < B) : Tab w' := fun j hj => (hb.cell (p := ⟨0, j, none⟩) hB).trans (h j hj)

theorem tz_core (x k idx : Nat) (w : World) (hx0 : ((x : Int) == 0) = false)
    (key : IntKind.u64.wrap (bits BinOp.and IntKind.u64 (x : Int) (IntKind.u64.wrap (-(x : Int))) * 285870213051353865) / 288230376151711744 = (idx : Int))
    (hi : idx < 64) (hk : k < 64) (hcell : w.cell? ⟨0, idx, none⟩ = some (.int .u8 k)) :
    Calls Tryd.prog 45 #[.int .u64 x] w fun e w' => e = .returned (.int .i64 k) ∧ w' = w := by
  go_enter Tryd.func45, Tryd.ntmps45
  go_wp2_with (simp only [key])
  go_ret
  exact ⟨rfl, rfl⟩

theorem tz_key (x a : Nat) (hx : x < 18446744073709551616) (hx0 : x ≠ 0) (hlow : x &&& (18446744073709551616 - x) = a) :
    IntKind.u64.wrap (bits BinOp.and IntKind.u64 (x : Int) (IntKind.u64.wrap (-(x : Int))) * 285870213051353865) / 288230376151711744 = ((a * 285870213051353865 % 18446744073709551616 / 288230376151711744 : Nat) : Int) := by
  have e1 : IntKind.u64.wrap (-(x : Int)) = ((18446744073709551616 - x : Nat) : Int) := by rw [IntKind.wrap_u64]; omega
  rw [e1, bits_and_u64_nat x _ hx (by omega), hlow, IntKind.wrap_u64]
  omega

/-- The lowest set bit. -/
theorem tz_any (x : Nat) (hx : x < 18446744073709551616) (hx0 : x ≠ 0) (w : World) (hT : Tab w) :
    ∃ t, t < 64 ∧ x.testBit t = true ∧ (∀ s, s < t → x.testBit s = false) ∧ Calls Tryd.prog 45 #[.int .u64 x] w fun e w' => e = .returned (.int .i64 t) ∧ w' = w := by
  have hx' : x < 2 ^ 64 := hx
  obtain ⟨hlow, hk⟩ := Lib.lowest_bit 64 x hx0 hx'
  obtain ⟨m, hm, _⟩ := Lib.ctzFrom_spec 64 x (by omega) hx'
  have ec : Lib.ctz 64 x = Lib.ctzFrom 64 x := by simp [Lib.ctz, hx0]
  rw [← ec] at hm
  generalize Lib.ctz 64 x = t at *
  obtain ⟨hi, htab⟩ := Lib.deBruijn64_at t hk
  have hcell := hT _ hi
  rw [htab] at hcell
  refine ⟨t, hk, ?_, ?_, tz_core x t _ w (by simp; omega) (tz_key x _ hx hx0 hlow) hi hk hcell⟩
  · rw [hm, Nat.mul_comm, Nat.testBit_mul_two_pow]
    simp
  · intro s hs
    rw [hm, Nat.mul_comm, Nat.testBit_mul_two_pow]
    have : ¬ t ≤ s := by omega
    simp [this]

/-- The members below k, rising. -/
def mems (k m : Nat) : List Int := ((List.range k).filter (fun i => m.testBit i)).map (fun i : Nat => (i : Int))

theorem mems_succ (k m : Nat) : mems (k + 1) m = mems k m ++ (if m.testBit k then [(k : Int)] else []) := by
  unfold mems
  rw [List.range_succ, List.filter_append, List.map_append]
  cases h : m.testBit k <;> simp [h]

theorem mems_skip (m k j : Nat) (h : ∀ s, k ≤ s → s < k + j → m.testBit s = false) : mems (k + j) m = mems k m := by
  induction j with
  | zero => rfl
  | succ j ih =>
    rw [← Nat.add_assoc, mems_succ, h (k + j) (by omega) (by omega), ih (fun s h1 h2 => h s h1 (by omega))]
    simp

theorem mems_hit (m k j : Nat) (h : ∀ s, k ≤ s → s < k + j → m.testBit s = false) (ht : m.testBit (k + j) = true) : mems (k + j + 1) m = mems k m ++ [((k + j : Nat) : Int)] := by
  rw [mems_succ, mems_skip m k j h, ht]
  rfl

theorem mems_length (k m : Nat) : (mems k m).length = pc k m := by
  have h : ∀ k m : Nat, pc (k + 1) m = pc k m + (if m.testBit k then 1 else 0) := by
    intro k m
    rw [pc_add k 1 m]
    have e : pc 1 (m / 2 ^ k) = m / 2 ^ k % 2 := by simp [pc, ds]
    rw [e]
    congr 1
    rw [Nat.testBit_eq_decide_div_mod_eq]
    have : m / 2 ^ k % 2 < 2 := Nat.mod_lt _ (by decide)
    by_cases h : m / 2 ^ k % 2 = 1
    · simp [h]
    · simp [h]; omega
  induction k with
  | zero => rfl
  | succ k ih => rw [mems_succ, List.length_append, ih, h]; cases m.testBit k <;> simp

/-- The rest of a word from bit j on. -/
def RestOf (x j r : Nat) : Prop := ∀ s, r.testBit s = (decide (j ≤ s) && x.testBit s)

theorem RestOf.start (x : Nat) : RestOf x 0 x := fun s => by simp

theorem RestOf.zero {x j : Nat} (h : RestOf x j 0) : ∀ s, j ≤ s → x.testBit s = false := fun s hs => by
  have := h s
  simp [hs] at this
  exact this

/-- The lowest bit is taken away. -/
theorem rest_next {x j r t : Nat} (h : RestOf x j r) (ht : r.testBit t = true) (hlow : ∀ s, s < t → r.testBit s = false) : RestOf x (t + 1) (r &&& (r - 1)) := by
  have hr : r ≠ 0 := by intro e; rw [e] at ht; simp at ht
  -- r = 2^t (2 q + 1)
  have hdiv : r % 2 ^ t = 0 := by
    apply Nat.eq_of_testBit_eq
    intro s
    rw [Nat.testBit_mod_two_pow, Nat.zero_testBit]
    by_cases hs : s < t
    · simp [hlow s hs]
    · simp [hs]
  have hq : r / 2 ^ t % 2 = 1 := by
    rw [Nat.testBit_eq_decide_div_mod_eq] at ht
    simpa using ht
  have hpos : 0 < 2 ^ t := Nat.two_pow_pos t
  have e1 : r = 2 ^ t * (r / 2 ^ t) := by have := Nat.div_add_mod r (2 ^ t); omega
  obtain ⟨q, hq2⟩ : ∃ q, r / 2 ^ t = 2 * q + 1 := ⟨r / 2 ^ t / 2, by omega⟩
  have e2 : r = 2 ^ (t + 1) * q + 2 ^ t := by rw [hq2] at e1; rw [e1, Nat.pow_succ, Nat.mul_add, Nat.mul_one, Nat.mul_assoc]
  have e3 : r - 1 = 2 ^ (t + 1) * q + (2 ^ t - 1) := by omega
  have l1 : 2 ^ t < 2 ^ (t + 1) := two_pow_lt (by omega)
  have l2 : 2 ^ t - 1 < 2 ^ (t + 1) := by omega
  intro s
  rw [Nat.testBit_and]
  have hs := h s
  have hj : j ≤ t := by
    apply Classical.byContradiction
    intro hc
    have := h t
    rw [ht] at this
    simp [show ¬ j ≤ t by omega] at this
  by_cases h1 : s < t + 1
  · have hz : (r - 1).testBit s = (2 ^ t - 1).testBit s := by rw [e3, Nat.testBit_two_pow_mul_add _ l2, if_pos h1]
    have : ¬ t + 1 ≤ s := by omega
    by_cases h2 : s = t
    · subst h2
      rw [hz, Nat.testBit_two_pow_sub_one]
      simp
      omega
    · rw [hlow s (by omega)]
      simp [this]
  · have hz : (r - 1).testBit s = r.testBit s := by
      rw [e3, Nat.testBit_two_pow_mul_add _ l2, if_neg h1, e2, Nat.testBit_two_pow_mul_add _ l1, if_neg h1]
    rw [hz, Bool.and_self, hs]
    have a1 : j ≤ s := by omega
    have a2 : t + 1 ≤ s := by omega
    simp [a1, a2]

theorem rest_lt {r : Nat} (h : r ≠ 0) : r &&& (r - 1) < r := by
  have : r &&& (r - 1) ≤ r - 1 := Nat.and_le_right
  omega

end Go.Proofs.YtjijagnpcmonbaaDoor.B
