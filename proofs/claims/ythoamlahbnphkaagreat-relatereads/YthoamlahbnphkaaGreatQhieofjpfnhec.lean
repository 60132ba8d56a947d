import Derived.Test.YthoamlahbnphkaaGreatQdiacnmnpkljc
import Derived.Deep.RegionWith
import Derived.Deep.RegionHeld3
import Derived.Deep.DrawnRows
import Derived.DeepKeys

/-
  What Add and Drop do.
-/
namespace Go.Proofs.YthoamlahbnphkaaGreat.B
open Go.RowKit

/-- One member more: the set, and how many were new. -/
def addStep (n : Nat) (s : Nat × Nat) (x : Int) : Nat × Nat := if inB n x && !hasB s.1 x then (s.1 ||| 2 ^ x.toNat, s.2 + 1) else s
def addS (n m : Nat) (l : List Int) : Nat × Nat := l.foldl (addStep n) (m, 0)
/-- One member less: the set, and how many were there. -/
def dropStep (s : Nat × Nat) (x : Int) : Nat × Nat := if hasB s.1 x then (s.1 ^^^ 2 ^ x.toNat, s.2 + 1) else s
def dropS (m : Nat) (l : List Int) : Nat × Nat := l.foldl dropStep (m, 0)

theorem addS_snoc (n m : Nat) (l : List Int) (k : Nat) (hk : k < l.length) : addS n m (l.take (k + 1)) = addStep n (addS n m (l.take k)) (l.getD k 0) := by
  unfold addS
  rw [List.take_succ_eq_append_getElem hk, List.foldl_append]
  simp [List.getD, hk]
/-- What is stored when n is added. -/
theorem or_bit (m n : Nat) : bits BinOp.or IntKind.u64 (wd m (n / 64) : Int) (bt n : Int) = (wd (m ||| 2 ^ n) (n / 64) : Nat) := by
  rw [bits_or_u64_nat _ _ (wd_lt _ _) (bt_lt _), wd_or, wd_two_pow, if_pos rfl]; rfl
theorem or_other (m n i : Nat) (h : i ≠ n / 64) : wd (m ||| 2 ^ n) i = wd m i := by rw [wd_or, wd_two_pow, if_neg h]; simp
theorem RowAt.added {w : World} {b n m : Nat} (h : RowAt w b n (wd m)) (k : Nat) (hk : k < 1024) : RowAt (w.setCell ⟨b, 1 + k / 64, none⟩ (.int .u64 (wd (m ||| 2 ^ k) (k / 64) : Nat))) b n (wd (m ||| 2 ^ k)) :=
  (h.setWord (k / 64) _ (by omega)).congr fun i _ => by
    by_cases e : i = k / 64
    · subst e; simp
    · simp only [e, if_false]; exact (or_other m k i e).symm

/-- The numbers of a slice lie where it leads to. -/
def IntsAt (w : World) (a : Option Addr) (l : List Int) : Prop :=
  l = [] ∨ ∃ b off, a = some ⟨b, off, none⟩ ∧ ∀ i, i < l.length → w.cell? ⟨b, off + i, none⟩ = some (.int .i64 (l.getD i 0))

theorem But.drewN {b : Nat} {w w' : World} (h : But b w w') (k : Nat) : But b w (w'.drewN k) := ⟨h.os, h.tape, h.output, h.size, h.block⟩
theorem RowAt.drewN {w : World} {b n : Nat} {f : Nat → Nat} (h : RowAt w b n f) (k : Nat) : RowAt (w.drewN k) b n f := h

theorem has_is {p : Option Addr} {n m : Nat} {x : Int} {w : World} (h : SetM w p n m) (hx : hasB m x = true) :
    Calls Tryz.prog 68 #[.pointer p, .int .i64 x] w fun e w' => e = .returned (.bool true) ∧ ∃ k, w' = w.drewN k := by
  have := has_any p n m x w h
  rwa [hx] at this
theorem has_isnt {p : Option Addr} {n m : Nat} {x : Int} {w : World} (h : SetM w p n m) (hx : hasB m x = false) :
    Calls Tryz.prog 68 #[.pointer p, .int .i64 x] w fun e w' => e = .returned (.bool false) ∧ ∃ k, w' = w.drewN k := by
  have := has_any p n m x w h
  rwa [hx] at this

theorem add_none (a : Option Addr) (cap : Nat) (p : Option Addr) (w : World) :
    Calls Tryz.prog 125 #[.pointer p, .slice a 0 cap] w fun e w' => e = .returned (.int .i64 0) ∧ w' = w := by
  go_enter Tryz.func125, Tryz.ntmps125
  go_wp2
  go_loop [5, 10] (fun a i => a = .int .i64 0 ∧ i = .int .i64 0) (fun _ _ => 0)
  case atStart => exact ⟨rfl, rfl⟩
  case round =>
    obtain ⟨rfl, rfl⟩ := hrel
    go_wp2
    go_ret
    exact ⟨rfl, rfl⟩

attribute [local go_sem ↓] Go.wp_at_zero Go.wp_at_succ

set_option maxHeartbeats 1000000 in
theorem add_row (b n m bl off cap : Nat) (l : List Int) (w : World) (hn : n ≤ 1024) (hm : m < 2 ^ n) (hr : RowAt w b n (wd m)) (hne : bl ≠ b) (hlen : l.length < 1152921504606846976)
    (hc : ∀ i, i < l.length → w.cell? ⟨bl, off + i, none⟩ = some (.int .i64 (l.getD i 0))) :
    Calls Tryz.prog 125 #[.pointer (some ⟨b, 0, none⟩), .slice (some ⟨bl, off, none⟩) l.length cap] w fun e w' =>
      e = .returned (.int .i64 ((addS n m l).2 : Nat)) ∧ RowAt w' b n (wd (addS n m l).1) ∧ (addS n m l).1 < 2 ^ n ∧ But b w w' := by
  have HC : Hid (∀ i, i < l.length → w.cell? ⟨bl, off + i, none⟩ = some (.int .i64 (l.getD i 0))) := hc
  have HR : Hid (RowAt w b n (wd m)) := hr
  have HM : Hid (m < 2 ^ n) := hm
  clear hc hr hm
  go_enter Tryz.func125, Tryz.ntmps125
  go_wp2
  go_loopw [5, 10] (fun a i wr => ∃ k : Nat, k ≤ l.length ∧ i = .int .i64 k ∧ a = .int .i64 ((addS n m (l.take k)).2 : Nat) ∧ (addS n m (l.take k)).2 ≤ k ∧ (addS n m (l.take k)).1 < 2 ^ n ∧ RowAt wr b n (wd (addS n m (l.take k)).1) ∧ But b w wr)
    (fun _ i _ => l.length - (intOf i).toNat)
  case atStart => exact ⟨0, Nat.zero_le _, rfl, rfl, Nat.zero_le _, HM.out, HR.out, But.refl _ _⟩
  case round =>
    obtain ⟨k, hk, rfl, rfl, hle, hlt2, hrow, hbut⟩ := hrel
    by_cases hlt : k < l.length
    · have hsn := addS_snoc n m l k hlt
      have hcell : wr.cell? ⟨bl, off + k, none⟩ = some (.int .i64 (l.getD k 0)) := by
        have h1 := HC.out k hlt
        have h2 : bl < w.heap.size := World.block_lt_of_cell? w _ h1
        rw [World.cell?_of_block (w := w) (hbut.block bl h2 hne)]; exact h1
      generalize l.getD k 0 = x at hsn hcell
      generalize addS n m (l.take k) = s at *
      obtain ⟨sm, sk⟩ := s
      have HSN : Hid (addS n m (l.take (k + 1)) = addStep n (sm, sk) x) := hsn
      have HS : Hid (SetM wr (some ⟨b, 0, none⟩) n sm) := SetM.of hrow hn hlt2
      have HROW : Hid (RowAt wr b n (wd sm)) := hrow
      have HLT2 : Hid (sm < 2 ^ n) := hlt2
      have HBUT : Hid (But b w wr) := hbut
      clear hsn hrow hlt2 hbut
      cases hin : inB n x with
      | false =>
        have HIN : Hid (inB n x = false) := hin
        clear hin
        go_wp2_with (go_at_call 103; refine (holds_no HS.out HIN.out).mono ?_; rintro e w2 ⟨rfl, rfl⟩)
        go_roundw
        case rel =>
          have e : addS n m (l.take (k + 1)) = (sm, sk) := by rw [HSN.out]; simp [addStep, HIN.out]
          exact ⟨k + 1, by omega, by go_num, by rw [e], by rw [e]; simp; omega, by rw [e]; exact HLT2.out, by rw [e]; exact HROW.out, HBUT.out⟩
        case measure => simp [intOf]; omega
      | true =>
        have HIN : Hid (inB n x = true) := hin
        obtain ⟨h0, h1⟩ : 0 ≤ x ∧ x < n := by simpa [inB] using hin
        clear hin
        cases hh : hasB sm x with
        | true =>
          have HH : Hid (hasB sm x = true) := hh
          clear hh
          go_wp2_with (first | (go_at_call 103; refine (holds_yes HS.out HIN.out).mono ?_; rintro e w2 ⟨rfl, rfl⟩) | (go_at_call 68; refine (has_is HS.out HH.out).mono ?_; rintro e w2 ⟨rfl, j, rfl⟩))
          go_roundw
          case rel =>
            have e : addS n m (l.take (k + 1)) = (sm, sk) := by rw [HSN.out]; simp [addStep, HH.out]
            exact ⟨k + 1, by omega, by go_num, by rw [e], by rw [e]; simp; omega, by rw [e]; exact HLT2.out, by rw [e]; exact HROW.out, HBUT.out.drewN _⟩
          case measure => simp [intOf]; omega
        | false =>
          have HH : Hid (hasB sm x = false) := hh
          clear hh
          obtain ⟨y, rfl⟩ := Int.eq_ofNat_of_zero_le h0
          have hy : y < 1024 := by omega
          have hyi : (y : Int) / 64 < 16 := by omega
          have hyi0 : (0 : Int) ≤ (y : Int) / 64 := by omega
          have hq1 : (y : Int).tdiv 64 = (y : Int) / 64 := Int.tdiv_eq_ediv_of_nonneg (by omega)
          have hq2 : IntKind.i64.wrap ((y : Int) / 64) = (y : Int) / 64 := by rw [IntKind.wrap_i64]; omega
          have hq3 : ((y : Int) / 64).toNat = y / 64 := by omega
          have hw := HROW.out.word (y / 64) (by omega)
          have hfz := HROW.out.free (1 + y / 64)
          have ho := or_bit sm y
          go_wp2_with (first | (go_at_call 103; refine (holds_yes HS.out HIN.out).mono ?_; rintro e w2 ⟨rfl, rfl⟩) | (go_at_call 68; refine (has_isnt HS.out HH.out).mono ?_; rintro e w2 ⟨rfl, j, rfl⟩))
          go_region_with (go_at_call 104; refine (bit_any y hy _).mono ?_; rintro e w' ⟨rfl, rfl⟩)
          all_goals go_wp2
          all_goals go_roundw
          case' rel =>
            have e : addS n m (l.take (k + 1)) = (sm ||| 2 ^ y, sk + 1) := by rw [HSN.out]; simp [addStep, HH.out, HIN.out]
            exact ⟨k + 1, by omega, by go_num, by rw [e]; go_num, by rw [e]; simp; omega, by rw [e]; exact lt_or HLT2.out (two_pow_lt (by omega)), by rw [e]; exact RowAt.added (RowAt.drewN HROW.out _) y hy, (But.drewN HBUT.out _).setCell _ _⟩
          case' measure => simp [intOf]; omega
          case' rel =>
            have e : addS n m (l.take (k + 1)) = (sm ||| 2 ^ y, sk + 1) := by rw [HSN.out]; simp [addStep, HH.out, HIN.out]
            exact ⟨k + 1, by omega, by go_num, by rw [e]; go_num, by rw [e]; simp; omega, by rw [e]; exact lt_or HLT2.out (two_pow_lt (by omega)), by rw [e]; exact RowAt.added (RowAt.drewN HROW.out _) y hy, (But.drewN HBUT.out _).setCell _ _⟩
          case' measure => simp [intOf]; omega
    · have : k = l.length := by omega
      subst this
      rw [List.take_length] at *
      go_wp2
      go_ret
      exact ⟨rfl, hrow, hlt2, hbut⟩

end Go.Proofs.YthoamlahbnphkaaGreat.B

/-
  What Drop does; Add and Drop of sets without room.
-/
namespace Go.Proofs.YthoamlahbnphkaaGreat.B
open Go.RowKit

/-! ### A set without room (nil among them): nothing is taken, nothing is there. -/
theorem inB_zero (x : Int) : inB 0 x = false := by
  unfold inB
  by_cases h : 0 ≤ x
  · have : ¬ x < ((0 : Nat) : Int) := by omega
    rw [decide_eq_false this, Bool.and_false]
  · simp [h]
theorem add_zero (p : Option Addr) (bl off cap : Nat) (l : List Int) (w : World) (h : SetM w p 0 0) (hlen : l.length < 1152921504606846976)
    (hc : ∀ i, i < l.length → w.cell? ⟨bl, off + i, none⟩ = some (.int .i64 (l.getD i 0))) :
    Calls Tryz.prog 125 #[.pointer p, .slice (some ⟨bl, off, none⟩) l.length cap] w fun e w' => e = .returned (.int .i64 0) ∧ w' = w := by
  have H : Hid (SetM w p 0 0) := h
  have HC : Hid (∀ i, i < l.length → w.cell? ⟨bl, off + i, none⟩ = some (.int .i64 (l.getD i 0))) := hc
  clear hc h
  go_enter Tryz.func125, Tryz.ntmps125
  go_wp2
  go_loop [5, 10] (fun a i => ∃ k : Nat, k ≤ l.length ∧ i = .int .i64 k ∧ a = .int .i64 0) (fun _ i => l.length - (intOf i).toNat)
  case atStart => exact ⟨0, Nat.zero_le _, rfl, rfl⟩
  case round =>
    obtain ⟨k, hk, rfl, rfl⟩ := hrel
    by_cases hlt : k < l.length
    · have hcell := HC.out k hlt
      generalize l.getD k 0 = x at hcell
      go_wp2_with (go_at_call 103; refine (holds_no H.out (inB_zero _)).mono ?_; rintro e w2 ⟨rfl, rfl⟩)
      go_round
      case rel => exact ⟨k + 1, by omega, by go_num, rfl⟩
      case measure => simp [intOf]; omega
    · go_wp2
      go_ret
      exact ⟨rfl, rfl⟩

end Go.Proofs.YthoamlahbnphkaaGreat.B

/-
  Plain numbers: how many bits of a word are set, and that the sums by halves that OnesCount64 makes come to it. No program is named here.
-/
namespace Go.Proofs.YthoamlahbnphkaaGreat.B

/-- The sum of the last k digits of x to the base B. -/
def ds (B : Nat) : Nat → Nat → Nat
  | 0, _ => 0
  | k + 1, x => x % B + ds B k (x / B)

/-- How many of the last k bits are set. -/
def pc (k x : Nat) : Nat := ds 2 k x

theorem pc_le (k x : Nat) : pc k x ≤ k := by
  unfold pc
  induction k generalizing x with
  | zero => simp [ds]
  | succ k ih => have := ih (x / 2); simp only [ds]; omega

theorem and_split (k x M c : Nat) (hc : c < 2 ^ k) : x &&& (2 ^ k * M + c) = 2 ^ k * (x / 2 ^ k &&& M) + (x % 2 ^ k &&& c) := by
  apply Nat.eq_of_testBit_eq
  intro j
  have h1 : x % 2 ^ k &&& c < 2 ^ k := lt_and_right hc
  rw [Nat.testBit_and, Nat.testBit_two_pow_mul_add M hc, Nat.testBit_two_pow_mul_add _ h1]
  by_cases hj : j < k
  · simp [hj, Nat.testBit_mod_two_pow]
  · simp only [hj, if_false, Nat.testBit_and, Nat.testBit_div_two_pow]
    rw [show j - k + k = j by omega]

def M1 : Nat → Nat | 0 => 0 | k + 1 => 4 * M1 k + 1
def M2 : Nat → Nat | 0 => 0 | k + 1 => 16 * M2 k + 3
def M3 : Nat → Nat | 0 => 0 | k + 1 => 256 * M3 k + 15

def s1 (k x : Nat) : Nat := (x / 2 &&& M1 k) + (x &&& M1 k)
def s2 (k x : Nat) : Nat := (x / 4 &&& M2 k) + (x &&& M2 k)
def s3 (k x : Nat) : Nat := (x / 16 + x) &&& M3 k

theorem and_one (x : Nat) : x &&& 1 = x % 2 := Nat.and_one_is_mod x
theorem and_three (x : Nat) : x &&& 3 = x % 4 := Nat.and_two_pow_sub_one_eq_mod x 2
theorem and_fifteen (x : Nat) : x &&& 15 = x % 16 := Nat.and_two_pow_sub_one_eq_mod x 4

theorem s1_succ (k x : Nat) : s1 (k + 1) x = 4 * s1 k (x / 4) + (x / 2 % 2 + x % 2) := by
  have h1 := and_split 2 x (M1 k) 1 (by decide)
  have h2 := and_split 2 (x / 2) (M1 k) 1 (by decide)
  rw [and_one] at h1 h2
  simp only [show (2 : Nat) ^ 2 = 4 from rfl] at h1 h2
  have e : x / 2 / 4 = x / 4 / 2 := by omega
  rw [e] at h2
  unfold s1
  rw [show M1 (k + 1) = 4 * M1 k + 1 from rfl, h1, h2]
  omega

theorem s2_succ (k x : Nat) : s2 (k + 1) x = 16 * s2 k (x / 16) + (x / 4 % 4 + x % 4) := by
  have h1 := and_split 4 x (M2 k) 3 (by decide)
  have h2 := and_split 4 (x / 4) (M2 k) 3 (by decide)
  rw [and_three] at h1 h2
  simp only [show (2 : Nat) ^ 4 = 16 from rfl] at h1 h2
  have e : x / 4 / 16 = x / 16 / 4 := by omega
  rw [e] at h2
  unfold s2
  rw [show M2 (k + 1) = 16 * M2 k + 3 from rfl, h1, h2]
  omega

/-- Each of the last k digits to the base 16 is at most 6. -/
def six : Nat → Nat → Prop
  | 0, x => x = 0
  | k + 1, x => x % 16 ≤ 6 ∧ six k (x / 16)

theorem six_s2 (k x : Nat) : six k (s2 k x) := by
  induction k generalizing x with
  | zero => simp [six, s2, M2]
  | succ k ih =>
    have h := s2_succ k x
    have h1 : s2 (k + 1) x / 16 = s2 k (x / 16) := by omega
    exact ⟨by omega, by rw [h1]; exact ih _⟩

theorem s3_succ (k x : Nat) (h : six (2 * (k + 1)) x) : s3 (k + 1) x = 256 * s3 k (x / 256) + (x / 16 % 16 + x % 16) := by
  have h0 : x % 16 ≤ 6 := h.1
  have h1 : x / 16 % 16 ≤ 6 := h.2.1
  have h2 : six (2 * k) (x / 16 / 16) := h.2.2
  have h3 : x / 256 % 16 ≤ 6 := by
    have e : x / 256 = x / 16 / 16 := by omega
    rw [e]
    generalize x / 16 / 16 = q at h2
    cases k with
    | zero => have : q = 0 := h2; omega
    | succ k => exact h2.1
  have hs := and_split 8 (x / 16 + x) (M3 k) 15 (by decide)
  rw [and_fifteen] at hs
  simp only [show (2 : Nat) ^ 8 = 256 from rfl] at hs
  have e3 : (x / 16 + x) / 256 = x / 256 / 16 + x / 256 ∧ (x / 16 + x) % 256 % 16 = x / 16 % 16 + x % 16 := by
    have ex : x = 256 * (x / 256) + 16 * (x / 16 % 16) + x % 16 := by omega
    have ex2 : x / 16 = 16 * (x / 256) + x / 16 % 16 := by omega
    have ex3 : x / 256 = 16 * (x / 256 / 16) + x / 256 % 16 := by omega
    generalize x / 16 % 16 = a at *
    generalize x % 16 = b at *
    generalize x / 256 / 16 = q1 at *
    generalize x / 256 % 16 = q0 at *
    generalize x / 256 = q at *
    generalize x / 16 = y at *
    clear hs h h2
    omega
  obtain ⟨e, e4⟩ := e3
  rw [e, e4] at hs
  unfold s3
  rw [show M3 (k + 1) = 256 * M3 k + 15 from rfl, hs]

theorem ds1 (k x : Nat) : ds 4 k (s1 k x) = pc (2 * k) x := by
  induction k generalizing x with
  | zero => rfl
  | succ k ih =>
    have h := s1_succ k x
    have h1 : s1 (k + 1) x / 4 = s1 k (x / 4) := by omega
    have h2 : s1 (k + 1) x % 4 = x / 2 % 2 + x % 2 := by omega
    have e : pc (2 * (k + 1)) x = x % 2 + (x / 2 % 2 + pc (2 * k) (x / 2 / 2)) := rfl
    have e2 : x / 2 / 2 = x / 4 := by omega
    rw [show ds 4 (k + 1) (s1 (k + 1) x) = s1 (k + 1) x % 4 + ds 4 k (s1 (k + 1) x / 4) from rfl, h1, h2, ih, e, e2]
    omega

theorem ds2 (k x : Nat) : ds 16 k (s2 k x) = ds 4 (2 * k) x := by
  induction k generalizing x with
  | zero => rfl
  | succ k ih =>
    have h := s2_succ k x
    have h1 : s2 (k + 1) x / 16 = s2 k (x / 16) := by omega
    have h2 : s2 (k + 1) x % 16 = x / 4 % 4 + x % 4 := by omega
    have e : ds 4 (2 * (k + 1)) x = x % 4 + (x / 4 % 4 + ds 4 (2 * k) (x / 4 / 4)) := rfl
    have e2 : x / 4 / 4 = x / 16 := by omega
    rw [show ds 16 (k + 1) (s2 (k + 1) x) = s2 (k + 1) x % 16 + ds 16 k (s2 (k + 1) x / 16) from rfl, h1, h2, ih, e, e2]
    omega

theorem ds3 (k x : Nat) (hx : six (2 * k) x) : ds 256 k (s3 k x) = ds 16 (2 * k) x := by
  induction k generalizing x with
  | zero => rfl
  | succ k ih =>
    have h0 : x % 16 ≤ 6 := hx.1
    have h1' : x / 16 % 16 ≤ 6 := hx.2.1
    have hq : six (2 * k) (x / 16 / 16) := hx.2.2
    have h := s3_succ k x hx
    have h1 : s3 (k + 1) x / 256 = s3 k (x / 256) := by omega
    have h2 : s3 (k + 1) x % 256 = x / 16 % 16 + x % 16 := by omega
    have e : ds 16 (2 * (k + 1)) x = x % 16 + (x / 16 % 16 + ds 16 (2 * k) (x / 16 / 16)) := rfl
    have e2 : x / 16 / 16 = x / 256 := by omega
    rw [e2] at hq
    rw [show ds 256 (k + 1) (s3 (k + 1) x) = s3 (k + 1) x % 256 + ds 256 k (s3 (k + 1) x / 256) from rfl, h1, h2, ih _ hq, e, e2]
    omega

/-- Each of the last k bytes is at most 12, and there is nothing above. -/
def twelve : Nat → Nat → Prop
  | 0, x => x = 0
  | k + 1, x => x % 256 ≤ 12 ∧ twelve k (x / 256)

theorem twelve_s3 (k x : Nat) (hx : six (2 * k) x) : twelve k (s3 k x) := by
  induction k generalizing x with
  | zero => simp [twelve, s3, M3]
  | succ k ih =>
    have h0 : x % 16 ≤ 6 := hx.1
    have h1' : x / 16 % 16 ≤ 6 := hx.2.1
    have hq : six (2 * k) (x / 16 / 16) := hx.2.2
    have h := s3_succ k x hx
    have h1 : s3 (k + 1) x / 256 = s3 k (x / 256) := by omega
    have e2 : x / 16 / 16 = x / 256 := by omega
    rw [e2] at hq
    exact ⟨by omega, by rw [h1]; exact ih _ hq⟩

theorem div_lo (B L H : Nat) (h : L < B) : (L + B * H) / B = H := by
  rw [Nat.add_mul_div_left _ _ (by omega), Nat.div_eq_of_lt h, Nat.zero_add]

theorem fold_bytes (b0 b1 b2 b3 b4 b5 b6 b7 u R1 R2 R3 R4 R5 R6 : Nat) (h0 : b0 ≤ 12) (h1 : b1 ≤ 12) (h2 : b2 ≤ 12) (h3 : b3 ≤ 12) (h4 : b4 ≤ 12) (h5 : b5 ≤ 12) (h6 : b6 ≤ 12) (h7 : b7 ≤ 12)
    (hu : u = b0 + 256 * R1) (e1 : R1 = b1 + 256 * R2) (e2 : R2 = b2 + 256 * R3) (e3 : R3 = b3 + 256 * R4) (e4 : R4 = b4 + 256 * R5) (e5 : R5 = b5 + 256 * R6) (e6 : R6 = b6 + 256 * b7) :
    ∃ H, u + u / 256 + (u + u / 256) / 65536 + (u + u / 256 + (u + u / 256) / 65536) / 4294967296 = (b0 + b1 + b2 + b3 + b4 + b5 + b6 + b7) + 128 * H ∧ H < 36028797018963968 := by
  have f1 : u / 256 = R1 := by
    rw [hu]; exact div_lo 256 b0 _ (by omega)
  rw [f1]
  have f4 : u + R1 = (b0 + b1 + 256 * (b1 + b2)) + 65536 * (R2 + R3) := by
    clear f1 e3 e4 e5 e6; omega
  have f2 : (u + R1) / 65536 = R2 + R3 := by
    rw [f4]; exact div_lo 65536 _ _ (by omega)
  rw [f2]
  have g : R2 + R3 = (b2 + b3) + 256 * (b3 + b4) + 65536 * (R4 + R5) := by
    clear f1 f2 f4 hu e1 e5 e6; omega
  have g2 : R4 + R5 = (b4 + b5) + 256 * (b5 + b6) + 65536 * (R6 + b7) := by
    clear f1 f2 f4 hu e1 e2 e3 g; omega
  have f5 : u + R1 + (R2 + R3) = ((b0 + b1 + b2 + b3) + 256 * (b1 + b2 + b3 + b4) + 65536 * (b2 + b3 + b4 + b5) + 16777216 * (b3 + b4 + b5 + b6)) + 4294967296 * (R4 + R5 + (R6 + b7)) := by
    rw [f4]
    generalize R4 + R5 = A at *
    generalize R6 + b7 = B at *
    generalize R2 + R3 = C at *
    clear f1 f2 f4 hu e1 e2 e3 e4 e5 e6
    omega
  have f3 : (u + R1 + (R2 + R3)) / 4294967296 = R4 + R5 + (R6 + b7) := by
    rw [f5]; exact div_lo 4294967296 _ _ (by omega)
  rw [f3, f5]
  have g3 : R4 + R5 + (R6 + b7) = (b4 + b5 + b6 + b7) + 256 * (R5 + R6 + b7) := by
    clear f1 f2 f3 f4 f5 g g2 hu e1 e2 e3; omega
  have bd : R5 + R6 + b7 < 1048576 := by clear f1 f2 f3 f4 f5 g g2 g3 hu e1 e2 e3 e4; omega
  refine ⟨2 * (b1 + b2 + b3 + b4) + 512 * (b2 + b3 + b4 + b5) + 131072 * (b3 + b4 + b5 + b6) + 33554432 * (R4 + R5 + (R6 + b7)) + 2 * (R5 + R6 + b7), ?_, ?_⟩
  · clear f1 f2 f3 f4 f5 g g2 hu e1 e2 e3 e4 e5 e6 bd
    generalize R4 + R5 + (R6 + b7) = T at *
    generalize R5 + R6 + b7 = U at *
    omega
  · clear f1 f2 f3 f4 f5 g g2 hu e1 e2 e3 e4 e5 e6
    generalize R4 + R5 + (R6 + b7) = T at *
    generalize R5 + R6 + b7 = U at *
    omega

/-- The last steps: the bytes are added up. -/
theorem fold_ds (u : Nat) (h : twelve 8 u) (hs : ds 256 8 u ≤ 64) :
    (u + u / 256 + (u + u / 256) / 65536 + (u + u / 256 + (u + u / 256) / 65536) / 4294967296) % 128 = ds 256 8 u ∧
    u + u / 256 + (u + u / 256) / 65536 + (u + u / 256 + (u + u / 256) / 65536) / 4294967296 < 9223372036854775808 := by
  obtain ⟨t0, t1, t2, t3, t4, t5, t6, t7, t8⟩ := h
  have t8' : u / 256 / 256 / 256 / 256 / 256 / 256 / 256 / 256 = 0 := t8
  have e : ds 256 8 u = u % 256 + (u / 256 % 256 + (u / 256 / 256 % 256 + (u / 256 / 256 / 256 % 256 + (u / 256 / 256 / 256 / 256 % 256 + (u / 256 / 256 / 256 / 256 / 256 % 256 + (u / 256 / 256 / 256 / 256 / 256 / 256 % 256 + (u / 256 / 256 / 256 / 256 / 256 / 256 / 256 % 256 + 0))))))) := rfl
  have split : ∀ y : Nat, y = y % 256 + 256 * (y / 256) := fun y => by omega
  have g7 : u / 256 / 256 / 256 / 256 / 256 / 256 / 256 = u / 256 / 256 / 256 / 256 / 256 / 256 / 256 % 256 := by have := split (u / 256 / 256 / 256 / 256 / 256 / 256 / 256); rw [t8'] at this; simpa using this
  have g6 := split (u / 256 / 256 / 256 / 256 / 256 / 256)
  rw [g7] at g6
  obtain ⟨H, hy, hlt⟩ := fold_bytes _ _ _ _ _ _ _ _ u _ _ _ _ _ _ t0 t1 t2 t3 t4 t5 t6 t7 (split u) (split (u / 256)) (split (u / 256 / 256)) (split (u / 256 / 256 / 256)) (split (u / 256 / 256 / 256 / 256)) (split (u / 256 / 256 / 256 / 256 / 256)) g6
  rw [hy]
  have hd : u % 256 + u / 256 % 256 + u / 256 / 256 % 256 + u / 256 / 256 / 256 % 256 + u / 256 / 256 / 256 / 256 % 256 + u / 256 / 256 / 256 / 256 / 256 % 256 + u / 256 / 256 / 256 / 256 / 256 / 256 % 256 + u / 256 / 256 / 256 / 256 / 256 / 256 / 256 % 256 = ds 256 8 u := by
    rw [e]; simp only [Nat.add_zero, Nat.add_assoc]
  rw [hd]
  generalize ds 256 8 u = d at hs
  clear hy e hd t0 t1 t2 t3 t4 t5 t6 t7 t8 t8' g6 g7 split
  omega

theorem ones_pc (x : Nat) : twelve 8 (s3 8 (s2 16 (s1 32 x))) ∧ ds 256 8 (s3 8 (s2 16 (s1 32 x))) = pc 64 x :=
  ⟨twelve_s3 8 _ (six_s2 16 _), by rw [ds3 8 _ (six_s2 16 _), ds2 16, ds1 32]⟩

theorem pc_add (a b x : Nat) : pc (a + b) x = pc a x + pc b (x / 2 ^ a) := by
  induction a generalizing x with
  | zero => simp [pc, ds]
  | succ a ih =>
    rw [show a + 1 + b = (a + b) + 1 by omega]
    have h1 : pc (a + b + 1) x = x % 2 + pc (a + b) (x / 2) := rfl
    have h2 : pc (a + 1) x = x % 2 + pc a (x / 2) := rfl
    rw [h1, h2, ih, Nat.pow_succ, Nat.mul_comm, ← Nat.div_div_eq_div_mul]
    omega

theorem pc_mod (k x : Nat) : pc k (x % 2 ^ k) = pc k x := by
  induction k generalizing x with
  | zero => rfl
  | succ k ih =>
    have h1 : ∀ y, pc (k + 1) y = y % 2 + pc k (y / 2) := fun _ => rfl
    rw [h1, h1]
    have e1 : x % 2 ^ (k + 1) % 2 = x % 2 := Nat.mod_mod_of_dvd _ ⟨2 ^ k, by rw [Nat.pow_succ, Nat.mul_comm]⟩
    have e2 : x % 2 ^ (k + 1) / 2 = x / 2 % 2 ^ k := by rw [Nat.pow_succ, Nat.mul_comm, Nat.mod_mul_right_div_self]
    rw [e1, e2, ih]

/-- How many of the first k words' bits are set. -/
theorem pc_words (k m : Nat) : pc (64 * (k + 1)) m = pc (64 * k) m + pc 64 (wd m k) := by
  rw [show 64 * (k + 1) = 64 * k + 64 by omega, pc_add]
  unfold wd
  rw [pc_mod]

end Go.Proofs.YthoamlahbnphkaaGreat.B

/-
  What OnesCount64 and Count do.
-/
namespace Go.Proofs.YthoamlahbnphkaaGreat.B
open Go.RowKit

theorem ones_core (x y1 y2 y3 y4 y5 y6 y7 : Nat) (w : World)
    (k1 : IntKind.u64.wrap (bits BinOp.and IntKind.u64 (↑x / 2) 6148914691236517205 + bits BinOp.and IntKind.u64 (↑x) 6148914691236517205) = (y1 : Int))
    (k2 : IntKind.u64.wrap (bits BinOp.and IntKind.u64 (↑y1 / 4) 3689348814741910323 + bits BinOp.and IntKind.u64 (↑y1) 3689348814741910323) = (y2 : Int))
    (k3 : bits BinOp.and IntKind.u64 (IntKind.u64.wrap (↑y2 / 16 + ↑y2)) 1085102592571150095 = (y3 : Int))
    (k4 : IntKind.u64.wrap (↑y3 + ↑y3 / 256) = (y4 : Int))
    (k5 : IntKind.u64.wrap (↑y4 + ↑y4 / 65536) = (y5 : Int))
    (k6 : IntKind.u64.wrap (↑y5 + ↑y5 / 4294967296) = (y6 : Int))
    (k7 : bits BinOp.and IntKind.i64 (wrap64 ↑y6) 127 = (y7 : Int)) :
    Calls Tryz.prog 165 #[.int .u64 x] w fun e w' => e = .returned (.int .i64 y7) ∧ w' = w := by
  go_enter Tryz.func165, Tryz.ntmps165
  go_wp2
  go_ret
  exact ⟨rfl, rfl⟩

theorem and_cast (a c : Nat) (z : Int) (ha : a < 18446744073709551616) (hc : c < 18446744073709551616) (hz : z = (a : Int)) : bits BinOp.and IntKind.u64 z (c : Int) = ((a &&& c : Nat) : Int) := by
  rw [hz]; exact bits_and_u64_nat a c ha hc

theorem wrap_cast (a : Nat) (z : Int) (ha : a < 18446744073709551616) (hz : z = (a : Int)) : IntKind.u64.wrap z = (a : Int) := by
  rw [hz, IntKind.wrap_u64]; omega

theorem m1 : M1 32 = 6148914691236517205 := by decide +kernel
theorem m2 : M2 16 = 3689348814741910323 := by decide +kernel
theorem m3 : M3 8 = 1085102592571150095 := by decide +kernel

theorem key1 (x : Nat) (hx : x < 18446744073709551616) :
    IntKind.u64.wrap (bits BinOp.and IntKind.u64 (↑x / 2) 6148914691236517205 + bits BinOp.and IntKind.u64 (↑x) 6148914691236517205) = (s1 32 x : Int) ∧ s1 32 x < 18446744073709551616 := by
  have b1 : s1 32 x = (x / 2 &&& 6148914691236517205) + (x &&& 6148914691236517205) := by unfold s1; rw [m1]
  have l1 : x / 2 &&& 6148914691236517205 ≤ 6148914691236517205 := Nat.and_le_right
  have l2 : x &&& 6148914691236517205 ≤ 6148914691236517205 := Nat.and_le_right
  have c1 := and_cast (x / 2) 6148914691236517205 (↑x / 2) (by omega) (by omega) (by omega)
  have c2 := and_cast x 6148914691236517205 x hx (by omega) rfl
  have e1 : ((6148914691236517205 : Nat) : Int) = 6148914691236517205 := rfl
  rw [e1] at c1 c2
  rw [c1, c2, b1]
  generalize x / 2 &&& 6148914691236517205 = p at *
  generalize x &&& 6148914691236517205 = q at *
  exact ⟨wrap_cast _ _ (by omega) (by omega), by omega⟩

theorem key2 (x : Nat) (hx : x < 18446744073709551616) :
    IntKind.u64.wrap (bits BinOp.and IntKind.u64 (↑x / 4) 3689348814741910323 + bits BinOp.and IntKind.u64 (↑x) 3689348814741910323) = (s2 16 x : Int) ∧ s2 16 x ≤ 7378697629483820646 := by
  have b1 : s2 16 x = (x / 4 &&& 3689348814741910323) + (x &&& 3689348814741910323) := by unfold s2; rw [m2]
  have l1 : x / 4 &&& 3689348814741910323 ≤ 3689348814741910323 := Nat.and_le_right
  have l2 : x &&& 3689348814741910323 ≤ 3689348814741910323 := Nat.and_le_right
  have c1 := and_cast (x / 4) 3689348814741910323 (↑x / 4) (by omega) (by omega) (by omega)
  have c2 := and_cast x 3689348814741910323 x hx (by omega) rfl
  have e1 : ((3689348814741910323 : Nat) : Int) = 3689348814741910323 := rfl
  rw [e1] at c1 c2
  rw [c1, c2, b1]
  generalize x / 4 &&& 3689348814741910323 = p at *
  generalize x &&& 3689348814741910323 = q at *
  exact ⟨wrap_cast _ _ (by omega) (by omega), by omega⟩

theorem key3 (y : Nat) (hy : y ≤ 7378697629483820646) : bits BinOp.and IntKind.u64 (IntKind.u64.wrap (↑y / 16 + ↑y)) 1085102592571150095 = (s3 8 y : Int) := by
  have b3 : s3 8 y = (y / 16 + y) &&& 1085102592571150095 := by unfold s3; rw [m3]
  rw [wrap_cast (y / 16 + y) _ (by omega) (by omega), b3]
  exact and_cast (y / 16 + y) 1085102592571150095 _ (by omega) (by omega) rfl

theorem key4 (y B : Nat) (Bi : Int) (hB : Bi = (B : Int)) (hy : y + y / B < 9223372036854775808) : IntKind.u64.wrap (↑y + ↑y / Bi) = ((y + y / B : Nat) : Int) := by
  refine wrap_cast _ _ (by omega) ?_
  rw [hB]
  simp

theorem key7 (y : Nat) (hy : y < 9223372036854775808) : bits BinOp.and IntKind.i64 (wrap64 ↑y) 127 = ((y % 128 : Nat) : Int) := by
  have e : wrap64 (y : Int) = (y : Int) := IntWalk.wrap64_in _ ⟨by omega, by omega⟩
  rw [e]
  have := bits_mask .i64 63 (by decide) (fun n h0 h1 => by rw [IntKind.wrap_i64]; omega) 7 (by decide) (y : Int) (by omega) (by omega)
  have e2 : ((2 : Int) ^ 7 - 1) = 127 := by decide
  rw [e2] at this
  rw [this]
  simp

theorem ones_any (x : Nat) (hx : x < 18446744073709551616) (w : World) :
    Calls Tryz.prog 165 #[.int .u64 x] w fun e w' => e = .returned (.int .i64 (pc 64 x : Nat)) ∧ w' = w := by
  obtain ⟨ht, hd⟩ := ones_pc x
  have hle := pc_le 64 x
  have hf := fold_ds _ ht (by rw [hd]; exact hle)
  rw [hd] at hf
  obtain ⟨k1, h1⟩ := key1 x hx
  obtain ⟨k2, h2⟩ := key2 _ h1
  have k3 := key3 _ h2
  generalize s1 32 x = y1 at *
  generalize s2 16 y1 = y2 at *
  generalize s3 8 y2 = y3 at *
  generalize pc 64 x = r at *
  clear ht hd h1 h2 hle hx
  obtain ⟨hf1, hf2⟩ := hf
  have q5 := Nat.lt_of_le_of_lt (Nat.le_add_right _ _) hf2
  have q4 := Nat.lt_of_le_of_lt (Nat.le_add_right _ _) q5
  have k4 := key4 y3 256 256 rfl q4
  generalize y3 + y3 / 256 = y4 at *
  have k5 := key4 y4 65536 65536 rfl q5
  generalize y4 + y4 / 65536 = y5 at *
  have k6 := key4 y5 4294967296 4294967296 rfl hf2
  generalize y5 + y5 / 4294967296 = y6 at *
  have k7 := key7 y6 hf2
  rw [hf1] at k7
  exact ones_core x y1 y2 y3 y4 y5 y6 r w k1 k2 k3 k4 k5 k6 k7

theorem run_words (n : Nat) (f : Nat → Nat) (w : World) : (Instr.field 156 (.agg (rowL n f).toArray) 1).run Tryz.prog w = .ok (.agg (wordsL f).toArray) w := by kernel_rfl
theorem run_word_0 (f : Nat → Nat) (w : World) : (Instr.index 154 (.agg (wordsL f).toArray) (.int .i64 0)).run Tryz.prog w = .ok (.int .u64 (f 0)) w := by kernel_rfl
theorem run_word_1 (f : Nat → Nat) (w : World) : (Instr.index 154 (.agg (wordsL f).toArray) (.int .i64 1)).run Tryz.prog w = .ok (.int .u64 (f 1)) w := by kernel_rfl
theorem run_word_2 (f : Nat → Nat) (w : World) : (Instr.index 154 (.agg (wordsL f).toArray) (.int .i64 2)).run Tryz.prog w = .ok (.int .u64 (f 2)) w := by kernel_rfl
theorem run_word_3 (f : Nat → Nat) (w : World) : (Instr.index 154 (.agg (wordsL f).toArray) (.int .i64 3)).run Tryz.prog w = .ok (.int .u64 (f 3)) w := by kernel_rfl
theorem run_word_4 (f : Nat → Nat) (w : World) : (Instr.index 154 (.agg (wordsL f).toArray) (.int .i64 4)).run Tryz.prog w = .ok (.int .u64 (f 4)) w := by kernel_rfl
theorem run_word_5 (f : Nat → Nat) (w : World) : (Instr.index 154 (.agg (wordsL f).toArray) (.int .i64 5)).run Tryz.prog w = .ok (.int .u64 (f 5)) w := by kernel_rfl
theorem run_word_6 (f : Nat → Nat) (w : World) : (Instr.index 154 (.agg (wordsL f).toArray) (.int .i64 6)).run Tryz.prog w = .ok (.int .u64 (f 6)) w := by kernel_rfl
theorem run_word_7 (f : Nat → Nat) (w : World) : (Instr.index 154 (.agg (wordsL f).toArray) (.int .i64 7)).run Tryz.prog w = .ok (.int .u64 (f 7)) w := by kernel_rfl
theorem run_word_8 (f : Nat → Nat) (w : World) : (Instr.index 154 (.agg (wordsL f).toArray) (.int .i64 8)).run Tryz.prog w = .ok (.int .u64 (f 8)) w := by kernel_rfl
theorem run_word_9 (f : Nat → Nat) (w : World) : (Instr.index 154 (.agg (wordsL f).toArray) (.int .i64 9)).run Tryz.prog w = .ok (.int .u64 (f 9)) w := by kernel_rfl
theorem run_word_10 (f : Nat → Nat) (w : World) : (Instr.index 154 (.agg (wordsL f).toArray) (.int .i64 10)).run Tryz.prog w = .ok (.int .u64 (f 10)) w := by kernel_rfl
theorem run_word_11 (f : Nat → Nat) (w : World) : (Instr.index 154 (.agg (wordsL f).toArray) (.int .i64 11)).run Tryz.prog w = .ok (.int .u64 (f 11)) w := by kernel_rfl
theorem run_word_12 (f : Nat → Nat) (w : World) : (Instr.index 154 (.agg (wordsL f).toArray) (.int .i64 12)).run Tryz.prog w = .ok (.int .u64 (f 12)) w := by kernel_rfl
theorem run_word_13 (f : Nat → Nat) (w : World) : (Instr.index 154 (.agg (wordsL f).toArray) (.int .i64 13)).run Tryz.prog w = .ok (.int .u64 (f 13)) w := by kernel_rfl
theorem run_word_14 (f : Nat → Nat) (w : World) : (Instr.index 154 (.agg (wordsL f).toArray) (.int .i64 14)).run Tryz.prog w = .ok (.int .u64 (f 14)) w := by kernel_rfl
theorem run_word_15 (f : Nat → Nat) (w : World) : (Instr.index 154 (.agg (wordsL f).toArray) (.int .i64 15)).run Tryz.prog w = .ok (.int .u64 (f 15)) w := by kernel_rfl
theorem run_word (f : Nat → Nat) (k : Nat) (hk : k < 16) (w : World) : (Instr.index 154 (.agg (wordsL f).toArray) (.int .i64 k)).run Tryz.prog w = .ok (.int .u64 (f k)) w := by
  have h : k = 0 ∨ k = 1 ∨ k = 2 ∨ k = 3 ∨ k = 4 ∨ k = 5 ∨ k = 6 ∨ k = 7 ∨ k = 8 ∨ k = 9 ∨ k = 10 ∨ k = 11 ∨ k = 12 ∨ k = 13 ∨ k = 14 ∨ k = 15 := by omega
  rcases h with rfl | rfl | rfl | rfl | rfl | rfl | rfl | rfl | rfl | rfl | rfl | rfl | rfl | rfl | rfl | rfl
  · exact run_word_0 f w
  · exact run_word_1 f w
  · exact run_word_2 f w
  · exact run_word_3 f w
  · exact run_word_4 f w
  · exact run_word_5 f w
  · exact run_word_6 f w
  · exact run_word_7 f w
  · exact run_word_8 f w
  · exact run_word_9 f w
  · exact run_word_10 f w
  · exact run_word_11 f w
  · exact run_word_12 f w
  · exact run_word_13 f w
  · exact run_word_14 f w
  · exact run_word_15 f w

/-- How many members. -/
def cnt (m : Nat) : Nat := pc 1024 m

set_option maxHeartbeats 400000 in
theorem count_core (p : Option Addr) (n : Nat) (f c o : Nat → Nat) (w : World)
    (hV : Calls Tryz.prog 152 #[.pointer p] w fun e w' => e = .returned (.agg (rowL n f).toArray) ∧ Below w.heap.size w w')
    (hO : Hid (∀ k w, Calls Tryz.prog 165 #[.int .u64 (f k)] w fun e w' => e = .returned (.int .i64 (o k)) ∧ w' = w))
    (c0 : c 0 = 0) (cs : Hid (∀ k, c (k + 1) = c k + o k)) (cle : Hid (∀ k, c k ≤ 64 * k ∧ o k ≤ 64)) :
    Calls Tryz.prog 151 #[.pointer p] w fun e w' => e = .returned (.int .i64 (c 16)) ∧ Below w.heap.size w w' := by
  have hf := fun w' => run_words n f w'
  go_enter Tryz.func151, Tryz.ntmps151
  go_wp2_with (go_at_call 152; refine hV.mono ?_; clear hV; rintro e w1 ⟨rfl, hb⟩)
  go_loop [3, 9] (fun v i => ∃ k : Nat, k ≤ 16 ∧ i = .int .i64 k ∧ v = .int .i64 (c k)) (fun _ i => 16 - (intOf i).toNat)
  case atStart => exact ⟨0, by omega, rfl, by rw [c0]; rfl⟩
  case round =>
    obtain ⟨k, hk, rfl, rfl⟩ := hrel
    have hle := (cle.out k).1
    have hle2 := (cle.out k).2
    clear c0 hf
    by_cases hlt : k < 16
    · have hi := fun w' => run_word f k hlt w'
      go_wp2_with (go_at_call 165; refine (hO.out k _).mono ?_; rintro e w2 ⟨rfl, rfl⟩)
      go_round
      case rel => exact ⟨k + 1, by omega, by go_num, by rw [cs.out]; go_num⟩
      case measure => simp [intOf]; omega
    · go_wp2
      go_ret
      have : k = 16 := by omega
      subst this
      exact ⟨rfl, hb⟩

theorem count_any (p : Option Addr) (n m : Nat) (w : World) (h : SetM w p n m) :
    Calls Tryz.prog 151 #[.pointer p] w fun e w' => e = .returned (.int .i64 (cnt m : Nat)) ∧ Below w.heap.size w w' :=
  count_core p n (wd m) (fun k => pc (64 * k) m) (fun k => pc 64 (wd m k)) w (value_any p n m w h) (fun k w => ones_any _ (wd_lt m k) w) rfl (fun k => pc_words k m) (fun _ => ⟨pc_le _ _, pc_le _ _⟩)

end Go.Proofs.YthoamlahbnphkaaGreat.B

/-
  What Of, Copy and Equal do.
-/
namespace Go.Proofs.YthoamlahbnphkaaGreat.B
open Go.RowKit

theorem SetM.keep {w w' : World} {p : Option Addr} {n m : Nat} (h : SetM w p n m) (hb : Below w.heap.size w w') : SetM w' p n m := by
  refine ⟨h.1, h.2.1, ?_⟩
  rcases h.2.2 with h3 | ⟨b, rfl, hr⟩
  · exact .inl h3
  · exact .inr ⟨b, rfl, hr.below hb hr.lt⟩
theorem SetM.but {w w' : World} {p : Option Addr} {n m c : Nat} (h : SetM w p n m) (hb : But c w w') (hne : ∀ b, p = some ⟨b, 0, none⟩ → b ≠ c) : SetM w' p n m := by
  refine ⟨h.1, h.2.1, ?_⟩
  rcases h.2.2 with h3 | ⟨b, rfl, hr⟩
  · exact .inl h3
  · exact .inr ⟨b, rfl, hr.but hb (hne b rfl)⟩

/-- Have two sets the same size and members? -/
def eqB (n m n' m' : Nat) : Bool := decide (n = n' ∧ m = m')

/-- A size as Of takes it. -/
def clampN (z : Int) : Nat := (min (max z 0) 1024).toNat
theorem clampN_le (z : Int) : clampN z ≤ 1024 := by unfold clampN; omega

theorem zero_row (n : Nat) : (#[Value.int IntKind.i64 n, Value.int IntKind.u64 0, Value.int IntKind.u64 0, Value.int IntKind.u64 0,
    Value.int IntKind.u64 0, Value.int IntKind.u64 0, Value.int IntKind.u64 0, Value.int IntKind.u64 0,
    Value.int IntKind.u64 0, Value.int IntKind.u64 0, Value.int IntKind.u64 0, Value.int IntKind.u64 0,
    Value.int IntKind.u64 0, Value.int IntKind.u64 0, Value.int IntKind.u64 0, Value.int IntKind.u64 0,
    Value.int IntKind.u64 0] : Array Value) = (rowL n (fun _ => 0)).toArray := rfl

/-- What Of leaves, whatever Add does to the new set. -/
theorem of_core (z : Int) (n k : Nat) (f : Nat → Nat) (v : Value) (w : World) (hn : clampN z = n)
    (hA : Calls Tryz.prog 125 #[.pointer (some ⟨w.heap.size, 0, none⟩), v] (w.alloc (.cells (rowL n (fun _ => 0)).toArray 156)) fun e w' =>
      e = .returned (.int .i64 k) ∧ RowAt w' w.heap.size n f ∧ But w.heap.size (w.alloc (.cells (rowL n (fun _ => 0)).toArray 156)) w') :
    Calls Tryz.prog 123 #[.int .i64 z, v] w fun e w' => e = .returned (.pointer (some ⟨w.heap.size, 0, none⟩)) ∧ RowAt w' w.heap.size n f ∧ Below w.heap.size w w' := by
  have HA := hA
  rw [← zero_row] at hA
  have fin : ∀ w', But w.heap.size (w.alloc (.cells (rowL n (fun _ => 0)).toArray 156)) w' → Below w.heap.size w w' := fun w' hb =>
    ((Below.refl _ w).alloc (Nat.le_refl _) _).trans (hb.below (by simp) (Nat.le_refl _))
  have FIN : Hid (∀ w', But w.heap.size (w.alloc (.cells (rowL n (fun _ => 0)).toArray 156)) w' → Below w.heap.size w w') := fin
  clear fin HA
  have HN : Hid (clampN z = n) := hn
  clear hn
  by_cases h1 : z ≤ 0
  · obtain rfl : n = 0 := by rw [← HN.out]; unfold clampN; omega
    by_cases h2 : z = 0
    · subst h2
      go_enter Tryz.func123, Tryz.ntmps123
      go_wp2_with fail
      refine hA.mono ?_
      rintro e w' ⟨rfl, hr, hb⟩
      go_wp2
      go_ret
      exact ⟨rfl, hr, FIN.out _ hb⟩
    · have h3 : z < 0 := by omega
      clear h1
      go_enter Tryz.func123, Tryz.ntmps123
      go_wp2_with fail
      refine hA.mono ?_
      rintro e w' ⟨rfl, hr, hb⟩
      go_wp2
      go_ret
      exact ⟨rfl, hr, FIN.out _ hb⟩
  · by_cases h2 : z ≤ 1024
    · obtain ⟨y, rfl⟩ := Int.eq_ofNat_of_zero_le (by omega : 0 ≤ z)
      obtain rfl : n = y := by rw [← HN.out]; unfold clampN; omega
      go_enter Tryz.func123, Tryz.ntmps123
      go_wp2_with fail
      refine hA.mono ?_
      rintro e w' ⟨rfl, hr, hb⟩
      go_wp2
      go_ret
      exact ⟨rfl, hr, FIN.out _ hb⟩
    · obtain rfl : n = 1024 := by rw [← HN.out]; unfold clampN; omega
      go_enter Tryz.func123, Tryz.ntmps123
      go_wp2_with fail
      refine hA.mono ?_
      rintro e w' ⟨rfl, hr, hb⟩
      go_wp2
      go_ret
      exact ⟨rfl, hr, FIN.out _ hb⟩

theorem IntsAt.below {w w' : World} {a : Option Addr} {l : List Int} (h : IntsAt w a l) (hb : Below w.heap.size w w') : IntsAt w' a l := by
  rcases h with h | ⟨b, off, rfl, hc⟩
  · exact .inl h
  · refine .inr ⟨b, off, rfl, fun i hi => ?_⟩
    have h1 := hc i hi
    rw [hb.cell (World.block_lt_of_cell? w _ h1)]; exact h1

theorem addS_lt (n m : Nat) (l : List Int) (hm : m < 2 ^ n) : (addS n m l).1 < 2 ^ n := by
  unfold addS
  generalize 0 = k
  induction l generalizing m k with
  | nil => exact hm
  | cons x l ih =>
    rw [List.foldl_cons]
    unfold addStep
    split
    · rename_i h
      have h1 : 0 ≤ x ∧ x < n := by simp [inB] at h; exact h.1
      exact ih (m ||| 2 ^ x.toNat) (lt_or hm (two_pow_lt (by omega))) (k + 1)
    · exact ih m hm k

theorem of_any (z : Int) (a : Option Addr) (cap : Nat) (l : List Int) (w : World) (hl : IntsAt w a l) (hlen : l.length < 1152921504606846976) :
    Calls Tryz.prog 123 #[.int .i64 z, .slice a l.length cap] w fun e w' =>
      e = .returned (.pointer (some ⟨w.heap.size, 0, none⟩)) ∧ SetM w' (some ⟨w.heap.size, 0, none⟩) (clampN z) (addS (clampN z) 0 l).1 ∧ Below w.heap.size w w' := by
  have hrow : RowAt (w.alloc (.cells (rowL (clampN z) (fun _ => 0)).toArray 156)) w.heap.size (clampN z) (wd 0) := by
    rw [wd_zero']; exact heap_alloc_last w _
  have hle := clampN_le z
  rcases hl with rfl | ⟨bl, off, rfl, hc⟩
  · refine (of_core z _ 0 (wd 0) _ w rfl ((add_none a cap _ _).mono ?_)).mono ?_
    · rintro e w' ⟨rfl, rfl⟩
      exact ⟨rfl, hrow, But.refl _ _⟩
    · rintro e w' ⟨rfl, hr, hb⟩
      exact ⟨rfl, SetM.of hr hle (Nat.two_pow_pos _), hb⟩
  · by_cases hne : l = []
    · subst hne
      refine (of_core z _ 0 (wd 0) _ w rfl ((add_none _ cap _ _).mono ?_)).mono ?_
      · rintro e w' ⟨rfl, rfl⟩
        exact ⟨rfl, hrow, But.refl _ _⟩
      · rintro e w' ⟨rfl, hr, hb⟩
        exact ⟨rfl, SetM.of hr hle (Nat.two_pow_pos _), hb⟩
    · have hlt : bl < w.heap.size := World.block_lt_of_cell? w _ (hc 0 (List.length_pos_iff.2 hne))
      have hc' : ∀ i, i < l.length → (w.alloc (.cells (rowL (clampN z) (fun _ => 0)).toArray 156)).cell? ⟨bl, off + i, none⟩ = some (.int .i64 (l.getD i 0)) := fun i hi => by
        rw [World.cell?_alloc_lt _ _ _ hlt]; exact hc i hi
      have hA := add_row w.heap.size (clampN z) 0 bl off cap l _ hle (Nat.two_pow_pos _) hrow (by omega) hlen hc'
      have hlt2 : (addS (clampN z) 0 l).1 < 2 ^ clampN z := addS_lt _ _ _ (Nat.two_pow_pos _)
      refine (of_core z _ (addS (clampN z) 0 l).2 (wd (addS (clampN z) 0 l).1) _ w rfl (hA.mono ?_)).mono ?_
      · rintro e w' ⟨rfl, hr, _, hb⟩
        exact ⟨rfl, hr, hb⟩
      · rintro e w' ⟨rfl, hr, hb⟩
        exact ⟨rfl, SetM.of hr hle hlt2, hb⟩

end Go.Proofs.YthoamlahbnphkaaGreat.B
