/-
  Plain numbers: the sixteen words of a number below 2^1024, and what or, and, and a single bit do to them. No program is named here.
-/
import Derived.Laws.Bits64b
namespace Go.Proofs.YthoamlahbnphkaaGreat.B

/-- Word number i of m. -/
def wd (m i : Nat) : Nat := m / 2 ^ (64 * i) % 2 ^ 64

theorem wd_lt (m i : Nat) : wd m i < 18446744073709551616 := Nat.mod_lt _ (by decide)

theorem testBit_wd (m i j : Nat) : (wd m i).testBit j = (decide (j < 64) && m.testBit (64 * i + j)) := by
  unfold wd
  rw [Nat.testBit_mod_two_pow, Nat.testBit_div_two_pow]
  congr 2
  omega

theorem wd_or (a b i : Nat) : wd (a ||| b) i = wd a i ||| wd b i := by
  apply Nat.eq_of_testBit_eq
  intro j
  simp only [testBit_wd, Nat.testBit_or]
  cases decide (j < 64) <;> simp

theorem wd_and (a b i : Nat) : wd (a &&& b) i = wd a i &&& wd b i := by
  apply Nat.eq_of_testBit_eq
  intro j
  simp only [testBit_wd, Nat.testBit_and]
  cases decide (j < 64) <;> simp

theorem wd_two_pow (n i : Nat) : wd (2 ^ n) i = if i = n / 64 then 2 ^ (n % 64) else 0 := by
  apply Nat.eq_of_testBit_eq
  intro j
  rw [testBit_wd]
  split
  · rename_i h
    rw [Nat.testBit_two_pow, Nat.testBit_two_pow]
    by_cases hj : j < 64
    · by_cases e : n % 64 = j
      · simp [hj, e]; omega
      · simp [hj, e]; omega
    · have : ¬ n % 64 = j := by omega
      simp [hj, this]
  · rw [Nat.testBit_two_pow]
    by_cases hj : j < 64
    · have : ¬ n = 64 * i + j := by omega
      simp [hj, this]
    · simp [hj]

theorem wd_zero (i : Nat) : wd 0 i = 0 := by simp [wd]

theorem wd_ones (n i : Nat) : wd (2 ^ n - 1) i = if 64 * (i + 1) ≤ n then 18446744073709551615 else 2 ^ (n - 64 * i) - 1 := by
  apply Nat.eq_of_testBit_eq
  intro j
  rw [testBit_wd, Nat.testBit_two_pow_sub_one]
  split
  · rw [show (18446744073709551615 : Nat) = 2 ^ 64 - 1 from rfl, Nat.testBit_two_pow_sub_one]
    by_cases hj : j < 64
    · have : 64 * i + j < n := by omega
      simp [hj, this]
    · simp [hj]
  · rw [Nat.testBit_two_pow_sub_one]
    by_cases hj : j < 64
    · by_cases h2 : j < n - 64 * i
      · have : 64 * i + j < n := by omega
        simp [hj, h2, this]
      · have : ¬ 64 * i + j < n := by omega
        simp [hj, h2, this]
    · have : ¬ j < n - 64 * i := by omega
      simp [hj, this]

/-- Is n a member? -/
theorem wd_test (m n : Nat) : (wd m (n / 64) &&& 2 ^ (n % 64) ≠ 0) ↔ m.testBit n = true := by
  have h2 : n % 64 < 64 := by omega
  have e : 64 * (n / 64) + n % 64 = n := by omega
  have h := testBit_wd m (n / 64) (n % 64)
  rw [e] at h
  simp only [h2, decide_true, Bool.true_and] at h
  rw [← h]
  constructor
  · intro hne
    apply Classical.byContradiction
    intro hf
    apply hne
    apply Nat.eq_of_testBit_eq
    intro j
    rw [Nat.testBit_and, Nat.testBit_two_pow, Nat.zero_testBit]
    by_cases ej : n % 64 = j
    · subst ej; simp at hf; simp [hf]
    · simp [ej]
  · intro ht h0
    have := congrArg (fun x => x.testBit (n % 64)) h0
    simp only [Nat.testBit_and, Nat.testBit_two_pow, Nat.zero_testBit, ht] at this
    simp at this

theorem lt_or {a b n : Nat} (ha : a < 2 ^ n) (hb : b < 2 ^ n) : a ||| b < 2 ^ n := Nat.or_lt_two_pow ha hb
theorem lt_and_right {a b n : Nat} (hb : b < 2 ^ n) : a &&& b < 2 ^ n := Nat.lt_of_le_of_lt Nat.and_le_right hb
theorem two_pow_lt {k n : Nat} (h : k < n) : 2 ^ k < 2 ^ n := Nat.pow_lt_pow_right (by decide) h
theorem pow64_lt {k : Nat} (h : k < 64) : 2 ^ k < 18446744073709551616 := by
  have := two_pow_lt h
  have h2 : (2 ^ 64 : Nat) = 18446744073709551616 := rfl
  rwa [h2] at this
/-- The bit of n within its word. -/
def bt (n : Nat) : Nat := 2 ^ (n % 64)
theorem bt_lt (n : Nat) : bt n < 18446744073709551616 := pow64_lt (by omega)
/-- Is n a member? As the program asks it. -/
theorem test_bit (m n : Nat) : (bits BinOp.and IntKind.u64 (wd m (n / 64) : Int) (bt n : Int) != 0) = m.testBit n := by
  rw [bits_and_u64_nat _ _ (wd_lt _ _) (bt_lt _), Bool.eq_iff_iff, ← wd_test, bne_iff_ne]
  unfold bt
  omega
theorem ones_lt (n : Nat) : 2 ^ n - 1 < 2 ^ n := Nat.sub_lt (Nat.two_pow_pos n) (by decide)

end Go.Proofs.YthoamlahbnphkaaGreat.B
