import Derived.Laws.Bits64b

/-
  Plain numbers: the sixteen words of a number below 2^1024, and what or, and, and a single bit do to them. No program is named here.
-/
namespace Go.Proofs.YtjijagnpcmonbaaDoor.B

/-- Word number i of m. -/
def wd (m i : Nat) : Nat := m / 2 ^ (64 * i) % 2 ^ 64

theorem wd_lt (m i : Nat) : wd m i < 18446744073709551616 := Nat.mod_lt _ (by decide)

theorem testBit_wd (m i j : Nat) : (wd m i).testBit j = (decide (j < 64) && m.testBit (64 * i + j)) := by
  unfold wd
  rw [Nat.testBit_mod_two_pow, Nat.testBit_div_two_pow]
  congr 2
  omega

theorem wd_or (a b i : Nat) : wd (a ||| b) i = wd a i ||| wd b i := by
  apply Nat.eq_of_testBit_eq
  intro j
  simp only [testBit_wd, Nat.testBit_or]
  cases decide (j < 64) <;> simp

theorem wd_and (a b i : Nat) : wd (a &&& b) i = wd a i &&& wd b i := by
  apply Nat.eq_of_testBit_eq
  intro j
  simp only [testBit_wd, Nat.testBit_and]
  cases decide (j < 64) <;> simp

theorem wd_two_pow (n i : Nat) : wd (2 ^ n) i = if i = n / 64 then 2 ^ (n % 64) else 0 := by
  apply Nat.eq_of_testBit_eq
  intro j
  rw [testBit_wd]
  split
  · rename_i h
    rw [Nat.testBit_two_pow, Nat.testBit_two_pow]
    by_cases hj : j < 64
    · by_cases e : n % 64 = j
      · simp [hj, e]; omega
      · simp [hj, e]; omega
    · have : ¬ n % 64 = j := by omega
      simp [hj, this]
  · rw [Nat.testBit_two_pow]
    by_cases hj : j < 64
    · have : ¬ n = 64 * i + j := by omega
      simp [hj, this]
    · simp [hj]

theorem wd_zero (i : Nat) : wd 0 i = 0 := by simp [wd]

theorem wd_ones (n i : Nat) : wd (2 ^ n - 1) i = if 64 * (i + 1) ≤ n then 18446744073709551615 else 2 ^ (n - 64 * i) - 1 := by
  apply Nat.eq_of_testBit_eq
  intro j
  rw [testBit_wd, Nat.testBit_two_pow_sub_one]
  split
  · rw [show (18446744073709551615 : Nat) = 2 ^ 64 - 1 from rfl, Nat.testBit_two_pow_sub_one]
    by_cases hj : j < 64
    · have : 64 * i + j < n := by omega
      simp [hj, this]
    · simp [hj]
  · rw [Nat.testBit_two_pow_sub_one]
    by_cases hj : j < 64
    · by_cases h2 : j < n - 64 * i
      · have : 64 * i + j < n := by omega
        simp [hj, h2, this]
      · have : ¬ 64 * i + j < n := by omega
        simp [hj, h2, this]
    · have : ¬ j < n - 64 * i := by omega
      simp [hj, this]

/-- Is n a member? -/
theorem wd_test (m n : Nat) : (wd m (n / 64) &&& 2 ^ (n % 64) ≠ 0) ↔ m.testBit n = true := by
  have h2 : n % 64 < 64 := by omega
  have e : 64 * (n / 64) + n % 64 = n := by omega
  have h := testBit_wd m (n / 64) (n % 64)
  rw [e] at h
  simp only [h2, decide_true, Bool.true_and] at h
  rw [← h]
  constructor
  · intro hne
    apply Classical.byContradiction
    intro hf
    apply hne
    apply Nat.eq_of_testBit_eq
    intro j
    rw [Nat.testBit_and, Nat.testBit_two_pow, Nat.zero_testBit]
    by_cases ej : n % 64 = j
    · subst ej; simp at hf; simp [hf]
    · simp [ej]
  · intro ht h0
    have := congrArg (fun x => x.testBit (n % 64)) h0
    simp only [Nat.testBit_and, Nat.testBit_two_pow, Nat.zero_testBit, ht] at this
    simp at this

theorem lt_or {a b n : Nat} (ha : a < 2 ^ n) (hb : b < 2 ^ n) : a ||| b < 2 ^ n := Nat.or_lt_two_pow ha hb
theorem lt_and_right {a b n : Nat} (hb : b < 2 ^ n) : a &&& b < 2 ^ n := Nat.lt_of_le_of_lt Nat.and_le_right hb
theorem two_pow_lt {k n : Nat} (h : k < n) : 2 ^ k < 2 ^ n := Nat.pow_lt_pow_right (by decide) h
theorem pow64_lt {k : Nat} (h : k < 64) : 2 ^ k < 18446744073709551616 := by
  have := two_pow_lt h
  have h2 : (2 ^ 64 : Nat) = 18446744073709551616 := rfl
  rwa [h2] at this
/-- The bit of n within its word. -/
def bt (n : Nat) : Nat := 2 ^ (n % 64)
theorem bt_lt (n : Nat) : bt n < 18446744073709551616 := pow64_lt (by omega)
/-- Is n a member? As the program asks it. -/
theorem test_bit (m n : Nat) : (bits BinOp.and IntKind.u64 (wd m (n / 64) : Int) (bt n : Int) != 0) = m.testBit n := by
  rw [bits_and_u64_nat _ _ (wd_lt _ _) (bt_lt _), Bool.eq_iff_iff, ← wd_test, bne_iff_ne]
  unfold bt
  omega
theorem ones_lt (n : Nat) : 2 ^ n - 1 < 2 ^ n := Nat.sub_lt (Nat.two_pow_pos n) (by decide)

end Go.Proofs.YtjijagnpcmonbaaDoor.B

/-
  Plain numbers: how many bits of a word are set, and that the sums by halves that OnesCount64 makes come to it. No program is named here.
-/
namespace Go.Proofs.YtjijagnpcmonbaaDoor.B

/-- The sum of the last k digits of x to the base B. -/
def ds (B : Nat) : Nat → Nat → Nat
  | 0, _ => 0
  | k + 1, x => x % B + ds B k (x / B)

/-- How many of the last k bits are set. -/
def pc (k x : Nat) : Nat := ds 2 k x

theorem pc_le (k x : Nat) : pc k x ≤ k := by
  unfold pc
  induction k generalizing x with
  | zero => simp [ds]
  | succ k ih => have := ih (x / 2); simp only [ds]; omega

theorem and_split (k x M c : Nat) (hc : c < 2 ^ k) : x &&& (2 ^ k * M + c) = 2 ^ k * (x / 2 ^ k &&& M) + (x % 2 ^ k &&& c) := by
  apply Nat.eq_of_testBit_eq
  intro j
  have h1 : x % 2 ^ k &&& c < 2 ^ k := lt_and_right hc
  rw [Nat.testBit_and, Nat.testBit_two_pow_mul_add M hc, Nat.testBit_two_pow_mul_add _ h1]
  by_cases hj : j < k
  · simp [hj, Nat.testBit_mod_two_pow]
  · simp only [hj, if_false, Nat.testBit_and, Nat.testBit_div_two_pow]
    rw [show j - k + k = j by omega]

def M1 : Nat → Nat | 0 => 0 | k + 1 => 4 * M1 k + 1
def M2 : Nat → Nat | 0 => 0 | k + 1 => 16 * M2 k + 3
def M3 : Nat → Nat | 0 => 0 | k + 1 => 256 * M3 k + 15

def s1 (k x : Nat) : Nat := (x / 2 &&& M1 k) + (x &&& M1 k)
def s2 (k x : Nat) : Nat := (x / 4 &&& M2 k) + (x &&& M2 k)
def s3 (k x : Nat) : Nat := (x / 16 + x) &&& M3 k

theorem and_one (x : Nat) : x &&& 1 = x % 2 := Nat.and_one_is_mod x
theorem and_three (x : Nat) : x &&& 3 = x % 4 := Nat.and_two_pow_sub_one_eq_mod x 2
theorem and_fifteen (x : Nat) : x &&& 15 = x % 16 := Nat.and_two_pow_sub_one_eq_mod x 4

theorem s1_succ (k x : Nat) : s1 (k + 1) x = 4 * s1 k (x / 4) + (x / 2 % 2 + x % 2) := by
  have h1 := and_split 2 x (M1 k) 1 (by decide)
  have h2 := and_split 2 (x / 2) (M1 k) 1 (by decide)
  rw [and_one] at h1 h2
  simp only [show (2 : Nat) ^ 2 = 4 from rfl] at h1 h2
  have e : x / 2 / 4 = x / 4 / 2 := by omega
  rw [e] at h2
  unfold s1
  rw [show M1 (k + 1) = 4 * M1 k + 1 from rfl, h1, h2]
  omega

theorem s2_succ (k x : Nat) : s2 (k + 1) x = 16 * s2 k (x / 16) + (x / 4 % 4 + x % 4) := by
  have h1 := and_split 4 x (M2 k) 3 (by decide)
  have h2 := and_split 4 (x / 4) (M2 k) 3 (by decide)
  rw [and_three] at h1 h2
  simp only [show (2 : Nat) ^ 4 = 16 from rfl] at h1 h2
  have e : x / 4 / 16 = x / 16 / 4 := by omega
  rw [e] at h2
  unfold s2
  rw [show M2 (k + 1) = 16 * M2 k + 3 from rfl, h1, h2]
  omega

/-- Each of the last k digits to the base 16 is at most 6. -/
def six : Nat → Nat → Prop
  | 0, x => x = 0
  | k + 1, x => x % 16 ≤ 6 ∧ six k (x / 16)

theorem six_s2 (k x : Nat) : six k (s2 k x) := by
  induction k generalizing x with
  | zero => simp [six, s2, M2]
  | succ k ih =>
    have h := s2_succ k x
    have h1 : s2 (k + 1) x / 16 = s2 k (x / 16) := by omega
    exact ⟨by omega, by rw [h1]; exact ih _⟩

theorem s3_succ (k x : Nat) (h : six (2 * (k + 1)) x) : s3 (k + 1) x = 256 * s3 k (x / 256) + (x / 16 % 16 + x % 16) := by
  have h0 : x % 16 ≤ 6 := h.1
  have h1 : x / 16 % 16 ≤ 6 := h.2.1
  have h2 : six (2 * k) (x / 16 / 16) := h.2.2
  have h3 : x / 256 % 16 ≤ 6 := by
    have e : x / 256 = x / 16 / 16 := by omega
    rw [e]
    generalize x / 16 / 16 = q at h2
    cases k with
    | zero => have : q = 0 := h2; omega
    | succ k => exact h2.1
  have hs := and_split 8 (x / 16 + x) (M3 k) 15 (by decide)
  rw [and_fifteen] at hs
  simp only [show (2 : Nat) ^ 8 = 256 from rfl] at hs
  have e3 : (x / 16 + x) / 256 = x / 256 / 16 + x / 256 ∧ (x / 16 + x) % 256 % 16 = x / 16 % 16 + x % 16 := by
    have ex : x = 256 * (x / 256) + 16 * (x / 16 % 16) + x % 16 := by omega
    have ex2 : x / 16 = 16 * (x / 256) + x / 16 % 16 := by omega
    have ex3 : x / 256 = 16 * (x / 256 / 16) + x / 256 % 16 := by omega
    generalize x / 16 % 16 = a at *
    generalize x % 16 = b at *
    generalize x / 256 / 16 = q1 at *
    generalize x / 256 % 16 = q0 at *
    generalize x / 256 = q at *
    generalize x / 16 = y at *
    clear hs h h2
    omega
  obtain ⟨e, e4⟩ := e3
  rw [e, e4] at hs
  unfold s3
  rw [show M3 (k + 1) = 256 * M3 k + 15 from rfl, hs]

theorem ds1 (k x : Nat) : ds 4 k (s1 k x) = pc (2 * k) x := by
  induction k generalizing x with
  | zero => rfl
  | succ k ih =>
    have h := s1_succ k x
    have h1 : s1 (k + 1) x / 4 = s1 k (x / 4) := by omega
    have h2 : s1 (k + 1) x % 4 = x / 2 % 2 + x % 2 := by omega
    have e : pc (2 * (k + 1)) x = x % 2 + (x / 2 % 2 + pc (2 * k) (x / 2 / 2)) := rfl
    have e2 : x / 2 / 2 = x / 4 := by omega
    rw [show ds 4 (k + 1) (s1 (k + 1) x) = s1 (k + 1) x % 4 + ds 4 k (s1 (k + 1) x / 4) from rfl, h1, h2, ih, e, e2]
    omega

theorem ds2 (k x : Nat) : ds 16 k (s2 k x) = ds 4 (2 * k) x := by
  induction k generalizing x with
  | zero => rfl
  | succ k ih =>
    have h := s2_succ k x
    have h1 : s2 (k + 1) x / 16 = s2 k (x / 16) := by omega
    have h2 : s2 (k + 1) x % 16 = x / 4 % 4 + x % 4 := by omega
    have e : ds 4 (2 * (k + 1)) x = x % 4 + (x / 4 % 4 + ds 4 (2 * k) (x / 4 / 4)) := rfl
    have e2 : x / 4 / 4 = x / 16 := by omega
    rw [show ds 16 (k + 1) (s2 (k + 1) x) = s2 (k + 1) x % 16 + ds 16 k (s2 (k + 1) x / 16) from rfl, h1, h2, ih, e, e2]
    omega

theorem ds3 (k x : Nat) (hx : six (2 * k) x) : ds 256 k (s3 k x) = ds 16 (2 * k) x := by
  induction k generalizing x with
  | zero => rfl
  | succ k ih =>
    have h0 : x % 16 ≤ 6 := hx.1
    have h1' : x / 16 % 16 ≤ 6 := hx.2.1
    have hq : six (2 * k) (x / 16 / 16) := hx.2.2
    have h := s3_succ k x hx
    have h1 : s3 (k + 1) x / 256 = s3 k (x / 256) := by omega
    have h2 : s3 (k + 1) x % 256 = x / 16 % 16 + x % 16 := by omega
    have e : ds 16 (2 * (k + 1)) x = x % 16 + (x / 16 % 16 + ds 16 (2 * k) (x / 16 / 16)) := rfl
    have e2 : x / 16 / 16 = x / 256 := by omega
    rw [e2] at hq
    rw [show ds 256 (k + 1) (s3 (k + 1) x) = s3 (k + 1) x % 256 + ds 256 k (s3 (k + 1) x / 256) from rfl, h1, h2, ih _ hq, e, e2]
    omega

/-- Each of the last k bytes is at most 12, and there is nothing above. -/
def twelve : Nat → Nat → Prop
  | 0, x => x = 0
  | k + 1, x => x % 256 ≤ 12 ∧ twelve k (x / 256)

theorem twelve_s3 (k x : Nat) (hx : six (2 * k) x) : twelve k (s3 k x) := by
  induction k generalizing x with
  | zero => simp [twelve, s3, M3]
  | succ k ih =>
    have h0 : x % 16 ≤ 6 := hx.1
    have h1' : x / 16 % 16 ≤ 6 := hx.2.1
    have hq : six (2 * k) (x / 16 / 16) := hx.2.2
    have h := s3_succ k x hx
    have h1 : s3 (k + 1) x / 256 = s3 k (x / 256) := by omega
    have e2 : x / 16 / 16 = x / 256 := by omega
    rw [e2] at hq
    exact ⟨by omega, by rw [h1]; exact ih _ hq⟩

theorem div_lo (B L H : Nat) (h : L < B) : (L + B * H) / B = H := by
  rw [Nat.add_mul_div_left _ _ (by omega), Nat.div_eq_of_lt h, Nat.zero_add]

theorem fold_bytes (b0 b1 b2 b3 b4 b5 b6 b7 u R1 R2 R3 R4 R5 R6 : Nat) (h0 : b0 ≤ 12) (h1 : b1 ≤ 12) (h2 : b2 ≤ 12) (h3 : b3 ≤ 12) (h4 : b4 ≤ 12) (h5 : b5 ≤ 12) (h6 : b6 ≤ 12) (h7 : b7 ≤ 12)
    (hu : u = b0 + 256 * R1) (e1 : R1 = b1 + 256 * R2) (e2 : R2 = b2 + 256 * R3) (e3 : R3 = b3 + 256 * R4) (e4 : R4 = b4 + 256 * R5) (e5 : R5 = b5 + 256 * R6) (e6 : R6 = b6 + 256 * b7) :
    ∃ H, u + u / 256 + (u + u / 256) / 65536 + (u + u / 256 + (u + u / 256) / 65536) / 4294967296 = (b0 + b1 + b2 + b3 + b4 + b5 + b6 + b7) + 128 * H ∧ H < 36028797018963968 := by
  have f1 : u / 256 = R1 := by
    rw [hu]; exact div_lo 256 b0 _ (by omega)
  rw [f1]
  have f4 : u + R1 = (b0 + b1 + 256 * (b1 + b2)) + 65536 * (R2 + R3) := by
    clear f1 e3 e4 e5 e6; omega
  have f2 : (u + R1) / 65536 = R2 + R3 := by
    rw [f4]; exact div_lo 65536 _ _ (by omega)
  rw [f2]
  have g : R2 + R3 = (b2 + b3) + 256 * (b3 + b4) + 65536 * (R4 + R5) := by
    clear f1 f2 f4 hu e1 e5 e6; omega
  have g2 : R4 + R5 = (b4 + b5) + 256 * (b5 + b6) + 65536 * (R6 + b7) := by
    clear f1 f2 f4 hu e1 e2 e3 g; omega
  have f5 : u + R1 + (R2 + R3) = ((b0 + b1 + b2 + b3) + 256 * (b1 + b2 + b3 + b4) + 65536 * (b2 + b3 + b4 + b5) + 16777216 * (b3 + b4 + b5 + b6)) + 4294967296 * (R4 + R5 + (R6 + b7)) := by
    rw [f4]
    generalize R4 + R5 = A at *
    generalize R6 + b7 = B at *
    generalize R2 + R3 = C at *
    clear f1 f2 f4 hu e1 e2 e3 e4 e5 e6
    omega
  have f3 : (u + R1 + (R2 + R3)) / 4294967296 = R4 + R5 + (R6 + b7) := by
    rw [f5]; exact div_lo 4294967296 _ _ (by omega)
  rw [f3, f5]
  have g3 : R4 + R5 + (R6 + b7) = (b4 + b5 + b6 + b7) + 256 * (R5 + R6 + b7) := by
    clear f1 f2 f3 f4 f5 g g2 hu e1 e2 e3; omega
  have bd : R5 + R6 + b7 < 1048576 := by clear f1 f2 f3 f4 f5 g g2 g3 hu e1 e2 e3 e4; omega
  refine ⟨2 * (b1 + b2 + b3 + b4) + 512 * (b2 + b3 + b4 + b5) + 131072 * (b3 + b4 + b5 + b6) + 33554432 * (R4 + R5 + (R6 + b7)) + 2 * (R5 + R6 + b7), ?_, ?_⟩
  · clear f1 f2 f3 f4 f5 g g2 hu e1 e2 e3 e4 e5 e6 bd
    generalize R4 + R5 + (R6 + b7) = T at *
    generalize R5 + R6 + b7 = U at *
    omega
  · clear f1 f2 f3 f4 f5 g g2 hu e1 e2 e3 e4 e5 e6
    generalize R4 + R5 + (R6 + b7) = T at *
    generalize R5 + R6 + b7 = U at *
    omega

/-- The last steps: the bytes are added up. -/
theorem fold_ds (u : Nat) (h : twelve 8 u) (hs : ds 256 8 u ≤ 64) :
    (u + u / 256 + (u + u / 256) / 65536 + (u + u / 256 + (u + u / 256) / 65536) / 4294967296) % 128 = ds 256 8 u ∧
    u + u / 256 + (u + u / 256) / 65536 + (u + u / 256 + (u + u / 256) / 65536) / 4294967296 < 9223372036854775808 := by
  obtain ⟨t0, t1, t2, t3, t4, t5, t6, t7, t8⟩ := h
  have t8' : u / 256 / 256 / 256 / 256 / 256 / 256 / 256 / 256 = 0 := t8
  have e : ds 256 8 u = u % 256 + (u / 256 % 256 + (u / 256 / 256 % 256 + (u / 256 / 256 / 256 % 256 + (u / 256 / 256 / 256 / 256 % 256 + (u / 256 / 256 / 256 / 256 / 256 % 256 + (u / 256 / 256 / 256 / 256 / 256 / 256 % 256 + (u / 256 / 256 / 256 / 256 / 256 / 256 / 256 % 256 + 0))))))) := rfl
  have split : ∀ y : Nat, y = y % 256 + 256 * (y / 256) := fun y => by omega
  have g7 : u / 256 / 256 / 256 / 256 / 256 / 256 / 256 = u / 256 / 256 / 256 / 256 / 256 / 256 / 256 % 256 := by have := split (u / 256 / 256 / 256 / 256 / 256 / 256 / 256); rw [t8'] at this; simpa using this
  have g6 := split (u / 256 / 256 / 256 / 256 / 256 / 256)
  rw [g7] at g6
  obtain ⟨H, hy, hlt⟩ := fold_bytes _ _ _ _ _ _ _ _ u _ _ _ _ _ _ t0 t1 t2 t3 t4 t5 t6 t7 (split u) (split (u / 256)) (split (u / 256 / 256)) (split (u / 256 / 256 / 256)) (split (u / 256 / 256 / 256 / 256)) (split (u / 256 / 256 / 256 / 256 / 256)) g6
  rw [hy]
  have hd : u % 256 + u / 256 % 256 + u / 256 / 256 % 256 + u / 256 / 256 / 256 % 256 + u / 256 / 256 / 256 / 256 % 256 + u / 256 / 256 / 256 / 256 / 256 % 256 + u / 256 / 256 / 256 / 256 / 256 / 256 % 256 + u / 256 / 256 / 256 / 256 / 256 / 256 / 256 % 256 = ds 256 8 u := by
    rw [e]; simp only [Nat.add_zero, Nat.add_assoc]
  rw [hd]
  generalize ds 256 8 u = d at hs
  clear hy e hd t0 t1 t2 t3 t4 t5 t6 t7 t8 t8' g6 g7 split
  omega

theorem ones_pc (x : Nat) : twelve 8 (s3 8 (s2 16 (s1 32 x))) ∧ ds 256 8 (s3 8 (s2 16 (s1 32 x))) = pc 64 x :=
  ⟨twelve_s3 8 _ (six_s2 16 _), by rw [ds3 8 _ (six_s2 16 _), ds2 16, ds1 32]⟩

theorem pc_add (a b x : Nat) : pc (a + b) x = pc a x + pc b (x / 2 ^ a) := by
  induction a generalizing x with
  | zero => simp [pc, ds]
  | succ a ih =>
    rw [show a + 1 + b = (a + b) + 1 by omega]
    have h1 : pc (a + b + 1) x = x % 2 + pc (a + b) (x / 2) := rfl
    have h2 : pc (a + 1) x = x % 2 + pc a (x / 2) := rfl
    rw [h1, h2, ih, Nat.pow_succ, Nat.mul_comm, ← Nat.div_div_eq_div_mul]
    omega

theorem pc_mod (k x : Nat) : pc k (x % 2 ^ k) = pc k x := by
  induction k generalizing x with
  | zero => rfl
  | succ k ih =>
    have h1 : ∀ y, pc (k + 1) y = y % 2 + pc k (y / 2) := fun _ => rfl
    rw [h1, h1]
    have e1 : x % 2 ^ (k + 1) % 2 = x % 2 := Nat.mod_mod_of_dvd _ ⟨2 ^ k, by rw [Nat.pow_succ, Nat.mul_comm]⟩
    have e2 : x % 2 ^ (k + 1) / 2 = x / 2 % 2 ^ k := by rw [Nat.pow_succ, Nat.mul_comm, Nat.mod_mul_right_div_self]
    rw [e1, e2, ih]

/-- How many of the first k words' bits are set. -/
theorem pc_words (k m : Nat) : pc (64 * (k + 1)) m = pc (64 * k) m + pc 64 (wd m k) := by
  rw [show 64 * (k + 1) = 64 * k + 64 by omega, pc_add]
  unfold wd
  rw [pc_mod]

end Go.Proofs.YtjijagnpcmonbaaDoor.B
