import Derived.Test.YtjijagnpcmonbaaDoorQfcllafefabcl
import Derived.Deep.QuietTactic
import Derived.BigQuiet
import Derived.Test.YtjijagnpcmonbaaDoorQfcloanpnjoea
import Derived.Test.YtjijagnpcmonbaaDoorQmacpjmjaffce
import Derived.Deep.MidRow
import Derived.Deep.WholeRow
import Derived.Maps.OwnSet
import Derived.ArgAppend
import Derived.Below

/-
  What Size, value, holds, Has do, of the nil set and of one in memory.
-/
namespace Go.Proofs.YtjijagnpcmonbaaDoor.B
open Go.RowKit

/-- The pointer p leads to a set of size n whose members are the bits of m; nil: to none. -/
def SetM (w : World) (p : Option Addr) (n m : Nat) : Prop :=
  n ≤ 1024 ∧ m < 2 ^ n ∧ ((p = none ∧ n = 0) ∨ ∃ b, p = some ⟨b, 0, none⟩ ∧ RowAt w b n (wd m))

theorem SetM.zero {w : World} {p : Option Addr} {m : Nat} (h : SetM w p 0 m) : m = 0 := by
  have := h.2.1; simpa using this

theorem wd_zero' : wd 0 = fun _ => 0 := funext wd_zero

theorem SetM.nil (w : World) : SetM w none 0 0 := ⟨by decide, by decide, .inl ⟨rfl, rfl⟩⟩
theorem SetM.of {w : World} {b n m : Nat} (hr : RowAt w b n (wd m)) (hn : n ≤ 1024) (hm : m < 2 ^ n) : SetM w (some ⟨b, 0, none⟩) n m := ⟨hn, hm, .inr ⟨b, rfl, hr⟩⟩

theorem size_any (p : Option Addr) (n m : Nat) (w : World) (h : SetM w p n m) :
    Calls Tryd.prog 42 #[.pointer p] w fun e w' => e = .returned (.int .i64 n) ∧ w' = w := by
  rcases h.2.2 with ⟨rfl, rfl⟩ | ⟨b, rfl, hr⟩
  · exact size_nil w
  · exact size_some b n _ w hr

theorem value_any (p : Option Addr) (n m : Nat) (w : World) (h : SetM w p n m) :
    Calls Tryd.prog 38 #[.pointer p] w fun e w' => e = .returned (.agg (rowL n (wd m)).toArray) ∧ Below w.heap.size w w' := by
  rcases h.2.2 with ⟨rfl, rfl⟩ | ⟨b, rfl, hr⟩
  · rw [h.zero, wd_zero']; exact value_nil w
  · exact value_some b n _ w hr

/-- May x be a member? -/
def inB (n : Nat) (x : Int) : Bool := decide (0 ≤ x) && decide (x < n)
/-- Is x a member? -/
def hasB (m : Nat) (x : Int) : Bool := decide (0 ≤ x) && m.testBit x.toNat

theorem holds_any (p : Option Addr) (n m : Nat) (x : Int) (w : World) (h : SetM w p n m) :
    Calls Tryd.prog 34 #[.pointer p, .int .i64 x] w fun e w' => e = .returned (.bool (inB n x)) ∧ w' = w := by
  by_cases h0 : 0 ≤ x
  · have hd : decide (0 ≤ x) = true := decide_eq_true h0
    have hS := size_any p n m w h
    clear h
    go_enter Tryd.func34, Tryd.ntmps34
    go_wp2_with (go_at_call 42; refine hS.mono ?_; rintro e w' ⟨rfl, rfl⟩)
    go_ret
    exact ⟨by simp [inB, h0], rfl⟩
  · have hd : decide (0 ≤ x) = false := decide_eq_false h0
    go_enter Tryd.func34, Tryd.ntmps34
    go_wp2_with fail
    go_ret
    exact ⟨by simp [inB, hd], rfl⟩

theorem SetM.drewN {w : World} {p : Option Addr} {n m : Nat} (h : SetM w p n m) (k : Nat) : SetM (w.drewN k) p n m := by
  unfold SetM RowAt at *
  simpa using h

theorem holds_no {p : Option Addr} {n m : Nat} {x : Int} {w : World} (h : SetM w p n m) (hx : inB n x = false) :
    Calls Tryd.prog 34 #[.pointer p, .int .i64 x] w fun e w' => e = .returned (.bool false) ∧ w' = w := by
  have := holds_any p n m x w h
  rwa [hx] at this
theorem holds_yes {p : Option Addr} {n m : Nat} {x : Int} {w : World} (h : SetM w p n m) (hx : inB n x = true) :
    Calls Tryd.prog 34 #[.pointer p, .int .i64 x] w fun e w' => e = .returned (.bool true) ∧ w' = w := by
  have := holds_any p n m x w h
  rwa [hx] at this

theorem has_no (p : Option Addr) (n m : Nat) (x : Int) (w : World) (h : SetM w p n m) (hx : inB n x = false) :
    Calls Tryd.prog 35 #[.pointer p, .int .i64 x] w fun e w' => e = .returned (.bool false) ∧ ∃ k, w' = w.drewN k := by
  have H : Hid (SetM w p n m) := h
  have HX : Hid (inB n x = false) := hx
  clear h hx
  go_enter Tryd.func35, Tryd.ntmps35
  go_wp2_with fail
  go_quiet ((go_at_call 34; exact Calls.quiet_of_same (holds_no (SetM.drewN H.out _) HX.out)))
  go_wp2
  go_ret
  exact ⟨rfl, _, rfl⟩

theorem has_yes (b n m k : Nat) (w : World) (hr : RowAt w b n (wd m)) (hn : n ≤ 1024) (hm : m < 2 ^ n) (hk : k < n) :
    Calls Tryd.prog 35 #[.pointer (some ⟨b, 0, none⟩), .int .i64 k] w fun e w' => e = .returned (.bool (m.testBit k)) ∧ ∃ k, w' = w.drewN k := by
  have H : Hid (SetM w (some ⟨b, 0, none⟩) n m) := SetM.of hr hn hm
  have HX : Hid (inB n (k : Int) = true) := by show inB n k = true; simp [inB, hk]
  have hc := hr.word (k / 64) (by omega)
  have hk2 : (k : Int) < 1024 := by omega
  have hk3 : (k : Int) / 64 < 16 := by omega
  have hb := test_bit m k
  clear hr hm
  go_enter Tryd.func35, Tryd.ntmps35
  go_wp2_with fail
  go_quiet (first | (go_at_call 34; exact Calls.quiet_of_same (holds_yes (SetM.drewN H.out _) HX.out)) | (go_at_call 36; exact Calls.quiet_of_same (bit_any k (by omega) _)))
  go_wp2
  go_ret
  exact ⟨rfl, _, rfl⟩

theorem has_any (p : Option Addr) (n m : Nat) (x : Int) (w : World) (h : SetM w p n m) :
    Calls Tryd.prog 35 #[.pointer p, .int .i64 x] w fun e w' => e = .returned (.bool (hasB m x)) ∧ ∃ k, w' = w.drewN k := by
  cases hx : inB n x with
  | false =>
    have e : hasB m x = false := by
      unfold hasB
      by_cases h0 : 0 ≤ x
      · have h1 : n ≤ x.toNat := by simp [inB, h0] at hx; omega
        rw [Nat.testBit_lt_two_pow (Nat.lt_of_lt_of_le h.2.1 (Nat.pow_le_pow_right (by decide) h1)), Bool.and_false]
      · rw [decide_eq_false h0, Bool.false_and]
    rw [e]
    exact has_no p n m x w h hx
  | true =>
    obtain ⟨h0, h1⟩ : 0 ≤ x ∧ x < n := by simpa [inB] using hx
    obtain ⟨k, rfl⟩ := Int.eq_ofNat_of_zero_le h0
    have hk : k < n := by omega
    rcases h.2.2 with ⟨_, rfl⟩ | ⟨b, rfl, hr⟩
    · omega
    · have := has_yes b n m k w hr h.1 h.2.1 hk
      have e : hasB m (k : Int) = m.testBit k := by simp [hasB]
      rw [e]
      exact this

end Go.Proofs.YtjijagnpcmonbaaDoor.B

/-
  What OnesCount64 and Count do.
-/
namespace Go.Proofs.YtjijagnpcmonbaaDoor.B
open Go.RowKit

theorem ones_core (x y1 y2 y3 y4 y5 y6 y7 : Nat) (w : World)
    (k1 : IntKind.u64.wrap (bits BinOp.and IntKind.u64 (↑x / 2) 6148914691236517205 + bits BinOp.and IntKind.u64 (↑x) 6148914691236517205) = (y1 : Int))
    (k2 : IntKind.u64.wrap (bits BinOp.and IntKind.u64 (↑y1 / 4) 3689348814741910323 + bits BinOp.and IntKind.u64 (↑y1) 3689348814741910323) = (y2 : Int))
    (k3 : bits BinOp.and IntKind.u64 (IntKind.u64.wrap (↑y2 / 16 + ↑y2)) 1085102592571150095 = (y3 : Int))
    (k4 : IntKind.u64.wrap (↑y3 + ↑y3 / 256) = (y4 : Int))
    (k5 : IntKind.u64.wrap (↑y4 + ↑y4 / 65536) = (y5 : Int))
    (k6 : IntKind.u64.wrap (↑y5 + ↑y5 / 4294967296) = (y6 : Int))
    (k7 : bits BinOp.and IntKind.i64 (wrap64 ↑y6) 127 = (y7 : Int)) :
    Calls Tryd.prog 43 #[.int .u64 x] w fun e w' => e = .returned (.int .i64 y7) ∧ w' = w := by
  go_enter Tryd.func43, Tryd.ntmps43
  go_wp2
  go_ret
  exact ⟨rfl, rfl⟩

theorem and_cast (a c : Nat) (z : Int) (ha : a < 18446744073709551616) (hc : c < 18446744073709551616) (hz : z = (a : Int)) : bits BinOp.and IntKind.u64 z (c : Int) = ((a &&& c : Nat) : Int) := by
  rw [hz]; exact bits_and_u64_nat a c ha hc

theorem wrap_cast (a : Nat) (z : Int) (ha : a < 18446744073709551616) (hz : z = (a : Int)) : IntKind.u64.wrap z = (a : Int) := by
  rw [hz, IntKind.wrap_u64]; omega

theorem m1 : M1 32 = 6148914691236517205 := by decide +kernel
theorem m2 : M2 16 = 3689348814741910323 := by decide +kernel
theorem m3 : M3 8 = 1085102592571150095 := by decide +kernel

theorem key1 (x : Nat) (hx : x < 18446744073709551616) :
    IntKind.u64.wrap (bits BinOp.and IntKind.u64 (↑x / 2) 6148914691236517205 + bits BinOp.and IntKind.u64 (↑x) 6148914691236517205) = (s1 32 x : Int) ∧ s1 32 x < 18446744073709551616 := by
  have b1 : s1 32 x = (x / 2 &&& 6148914691236517205) + (x &&& 6148914691236517205) := by unfold s1; rw [m1]
  have l1 : x / 2 &&& 6148914691236517205 ≤ 6148914691236517205 := Nat.and_le_right
  have l2 : x &&& 6148914691236517205 ≤ 6148914691236517205 := Nat.and_le_right
  have c1 := and_cast (x / 2) 6148914691236517205 (↑x / 2) (by omega) (by omega) (by omega)
  have c2 := and_cast x 6148914691236517205 x hx (by omega) rfl
  have e1 : ((6148914691236517205 : Nat) : Int) = 6148914691236517205 := rfl
  rw [e1] at c1 c2
  rw [c1, c2, b1]
  generalize x / 2 &&& 6148914691236517205 = p at *
  generalize x &&& 6148914691236517205 = q at *
  exact ⟨wrap_cast _ _ (by omega) (by omega), by omega⟩

theorem key2 (x : Nat) (hx : x < 18446744073709551616) :
    IntKind.u64.wrap (bits BinOp.and IntKind.u64 (↑x / 4) 3689348814741910323 + bits BinOp.and IntKind.u64 (↑x) 3689348814741910323) = (s2 16 x : Int) ∧ s2 16 x ≤ 7378697629483820646 := by
  have b1 : s2 16 x = (x / 4 &&& 3689348814741910323) + (x &&& 3689348814741910323) := by unfold s2; rw [m2]
  have l1 : x / 4 &&& 3689348814741910323 ≤ 3689348814741910323 := Nat.and_le_right
  have l2 : x &&& 3689348814741910323 ≤ 3689348814741910323 := Nat.and_le_right
  have c1 := and_cast (x / 4) 3689348814741910323 (↑x / 4) (by omega) (by omega) (by omega)
  have c2 := and_cast x 3689348814741910323 x hx (by omega) rfl
  have e1 : ((3689348814741910323 : Nat) : Int) = 3689348814741910323 := rfl
  rw [e1] at c1 c2
  rw [c1, c2, b1]
  generalize x / 4 &&& 3689348814741910323 = p at *
  generalize x &&& 3689348814741910323 = q at *
  exact ⟨wrap_cast _ _ (by omega) (by omega), by omega⟩

theorem key3 (y : Nat) (hy : y ≤ 7378697629483820646) : bits BinOp.and IntKind.u64 (IntKind.u64.wrap (↑y / 16 + ↑y)) 1085102592571150095 = (s3 8 y : Int) := by
  have b3 : s3 8 y = (y / 16 + y) &&& 1085102592571150095 := by unfold s3; rw [m3]
  rw [wrap_cast (y / 16 + y) _ (by omega) (by omega), b3]
  exact and_cast (y / 16 + y) 1085102592571150095 _ (by omega) (by omega) rfl

theorem key4 (y B : Nat) (Bi : Int) (hB : Bi = (B : Int)) (hy : y + y / B < 9223372036854775808) : IntKind.u64.wrap (↑y + ↑y / Bi) = ((y + y / B : Nat) : Int) := by
  refine wrap_cast _ _ (by omega) ?_
  rw [hB]
  simp

theorem key7 (y : Nat) (hy : y < 9223372036854775808) : bits BinOp.and IntKind.i64 (wrap64 ↑y) 127 = ((y % 128 : Nat) : Int) := by
  have e : wrap64 (y : Int) = (y : Int) := IntWalk.wrap64_in _ ⟨by omega, by omega⟩
  rw [e]
  have := bits_mask .i64 63 (by decide) (fun n h0 h1 => by rw [IntKind.wrap_i64]; omega) 7 (by decide) (y : Int) (by omega) (by omega)
  have e2 : ((2 : Int) ^ 7 - 1) = 127 := by decide
  rw [e2] at this
  rw [this]
  simp

theorem ones_any (x : Nat) (hx : x < 18446744073709551616) (w : World) :
    Calls Tryd.prog 43 #[.int .u64 x] w fun e w' => e = .returned (.int .i64 (pc 64 x : Nat)) ∧ w' = w := by
  obtain ⟨ht, hd⟩ := ones_pc x
  have hle := pc_le 64 x
  have hf := fold_ds _ ht (by rw [hd]; exact hle)
  rw [hd] at hf
  obtain ⟨k1, h1⟩ := key1 x hx
  obtain ⟨k2, h2⟩ := key2 _ h1
  have k3 := key3 _ h2
  generalize s1 32 x = y1 at *
  generalize s2 16 y1 = y2 at *
  generalize s3 8 y2 = y3 at *
  generalize pc 64 x = r at *
  clear ht hd h1 h2 hle hx
  obtain ⟨hf1, hf2⟩ := hf
  have q5 := Nat.lt_of_le_of_lt (Nat.le_add_right _ _) hf2
  have q4 := Nat.lt_of_le_of_lt (Nat.le_add_right _ _) q5
  have k4 := key4 y3 256 256 rfl q4
  generalize y3 + y3 / 256 = y4 at *
  have k5 := key4 y4 65536 65536 rfl q5
  generalize y4 + y4 / 65536 = y5 at *
  have k6 := key4 y5 4294967296 4294967296 rfl hf2
  generalize y5 + y5 / 4294967296 = y6 at *
  have k7 := key7 y6 hf2
  rw [hf1] at k7
  exact ones_core x y1 y2 y3 y4 y5 y6 r w k1 k2 k3 k4 k5 k6 k7

theorem run_words (n : Nat) (f : Nat → Nat) (w : World) : (Instr.field 67 (.agg (rowL n f).toArray) 1).run Tryd.prog w = .ok (.agg (wordsL f).toArray) w := by kernel_rfl
theorem run_word_0 (f : Nat → Nat) (w : World) : (Instr.index 65 (.agg (wordsL f).toArray) (.int .i64 0)).run Tryd.prog w = .ok (.int .u64 (f 0)) w := by kernel_rfl
theorem run_word_1 (f : Nat → Nat) (w : World) : (Instr.index 65 (.agg (wordsL f).toArray) (.int .i64 1)).run Tryd.prog w = .ok (.int .u64 (f 1)) w := by kernel_rfl
theorem run_word_2 (f : Nat → Nat) (w : World) : (Instr.index 65 (.agg (wordsL f).toArray) (.int .i64 2)).run Tryd.prog w = .ok (.int .u64 (f 2)) w := by kernel_rfl
theorem run_word_3 (f : Nat → Nat) (w : World) : (Instr.index 65 (.agg (wordsL f).toArray) (.int .i64 3)).run Tryd.prog w = .ok (.int .u64 (f 3)) w := by kernel_rfl
theorem run_word_4 (f : Nat → Nat) (w : World) : (Instr.index 65 (.agg (wordsL f).toArray) (.int .i64 4)).run Tryd.prog w = .ok (.int .u64 (f 4)) w := by kernel_rfl
theorem run_word_5 (f : Nat → Nat) (w : World) : (Instr.index 65 (.agg (wordsL f).toArray) (.int .i64 5)).run Tryd.prog w = .ok (.int .u64 (f 5)) w := by kernel_rfl
theorem run_word_6 (f : Nat → Nat) (w : World) : (Instr.index 65 (.agg (wordsL f).toArray) (.int .i64 6)).run Tryd.prog w = .ok (.int .u64 (f 6)) w := by kernel_rfl
theorem run_word_7 (f : Nat → Nat) (w : World) : (Instr.index 65 (.agg (wordsL f).toArray) (.int .i64 7)).run Tryd.prog w = .ok (.int .u64 (f 7)) w := by kernel_rfl
theorem run_word_8 (f : Nat → Nat) (w : World) : (Instr.index 65 (.agg (wordsL f).toArray) (.int .i64 8)).run Tryd.prog w = .ok (.int .u64 (f 8)) w := by kernel_rfl
theorem run_word_9 (f : Nat → Nat) (w : World) : (Instr.index 65 (.agg (wordsL f).toArray) (.int .i64 9)).run Tryd.prog w = .ok (.int .u64 (f 9)) w := by kernel_rfl
theorem run_word_10 (f : Nat → Nat) (w : World) : (Instr.index 65 (.agg (wordsL f).toArray) (.int .i64 10)).run Tryd.prog w = .ok (.int .u64 (f 10)) w := by kernel_rfl
theorem run_word_11 (f : Nat → Nat) (w : World) : (Instr.index 65 (.agg (wordsL f).toArray) (.int .i64 11)).run Tryd.prog w = .ok (.int .u64 (f 11)) w := by kernel_rfl
theorem run_word_12 (f : Nat → Nat) (w : World) : (Instr.index 65 (.agg (wordsL f).toArray) (.int .i64 12)).run Tryd.prog w = .ok (.int .u64 (f 12)) w := by kernel_rfl
theorem run_word_13 (f : Nat → Nat) (w : World) : (Instr.index 65 (.agg (wordsL f).toArray) (.int .i64 13)).run Tryd.prog w = .ok (.int .u64 (f 13)) w := by kernel_rfl
theorem run_word_14 (f : Nat → Nat) (w : World) : (Instr.index 65 (.agg (wordsL f).toArray) (.int .i64 14)).run Tryd.prog w = .ok (.int .u64 (f 14)) w := by kernel_rfl
theorem run_word_15 (f : Nat → Nat) (w : World) : (Instr.index 65 (.agg (wordsL f).toArray) (.int .i64 15)).run Tryd.prog w = .ok (.int .u64 (f 15)) w := by kernel_rfl
theorem run_word (f : Nat → Nat) (k : Nat) (hk : k < 16) (w : World) : (Instr.index 65 (.agg (wordsL f).toArray) (.int .i64 k)).run Tryd.prog w = .ok (.int .u64 (f k)) w := by
  have h : k = 0 ∨ k = 1 ∨ k = 2 ∨ k = 3 ∨ k = 4 ∨ k = 5 ∨ k = 6 ∨ k = 7 ∨ k = 8 ∨ k = 9 ∨ k = 10 ∨ k = 11 ∨ k = 12 ∨ k = 13 ∨ k = 14 ∨ k = 15 := by omega
  rcases h with rfl | rfl | rfl | rfl | rfl | rfl | rfl | rfl | rfl | rfl | rfl | rfl | rfl | rfl | rfl | rfl
  · exact run_word_0 f w
  · exact run_word_1 f w
  · exact run_word_2 f w
  · exact run_word_3 f w
  · exact run_word_4 f w
  · exact run_word_5 f w
  · exact run_word_6 f w
  · exact run_word_7 f w
  · exact run_word_8 f w
  · exact run_word_9 f w
  · exact run_word_10 f w
  · exact run_word_11 f w
  · exact run_word_12 f w
  · exact run_word_13 f w
  · exact run_word_14 f w
  · exact run_word_15 f w

/-- How many members. -/
def cnt (m : Nat) : Nat := pc 1024 m

set_option maxHeartbeats 400000 in
theorem count_core (p : Option Addr) (n : Nat) (f c o : Nat → Nat) (w : World)
    (hV : Calls Tryd.prog 38 #[.pointer p] w fun e w' => e = .returned (.agg (rowL n f).toArray) ∧ Below w.heap.size w w')
    (hO : Hid (∀ k w, Calls Tryd.prog 43 #[.int .u64 (f k)] w fun e w' => e = .returned (.int .i64 (o k)) ∧ w' = w))
    (c0 : c 0 = 0) (cs : Hid (∀ k, c (k + 1) = c k + o k)) (cle : Hid (∀ k, c k ≤ 64 * k ∧ o k ≤ 64)) :
    Calls Tryd.prog 37 #[.pointer p] w fun e w' => e = .returned (.int .i64 (c 16)) ∧ Below w.heap.size w w' := by
  have hf := fun w' => run_words n f w'
  go_enter Tryd.func37, Tryd.ntmps37
  go_wp2_with (go_at_call 38; refine hV.mono ?_; clear hV; rintro e w1 ⟨rfl, hb⟩)
  go_loop [3, 9] (fun v i => ∃ k : Nat, k ≤ 16 ∧ i = .int .i64 k ∧ v = .int .i64 (c k)) (fun _ i => 16 - (intOf i).toNat)
  case atStart => exact ⟨0, by omega, rfl, by rw [c0]; rfl⟩
  case round =>
    obtain ⟨k, hk, rfl, rfl⟩ := hrel
    have hle := (cle.out k).1
    have hle2 := (cle.out k).2
    clear c0 hf
    by_cases hlt : k < 16
    · have hi := fun w' => run_word f k hlt w'
      go_wp2_with (go_at_call 43; refine (hO.out k _).mono ?_; rintro e w2 ⟨rfl, rfl⟩)
      go_round
      case rel => exact ⟨k + 1, by omega, by go_num, by rw [cs.out]; go_num⟩
      case measure => simp [intOf]; omega
    · go_wp2
      go_ret
      have : k = 16 := by omega
      subst this
      exact ⟨rfl, hb⟩

theorem count_any (p : Option Addr) (n m : Nat) (w : World) (h : SetM w p n m) :
    Calls Tryd.prog 37 #[.pointer p] w fun e w' => e = .returned (.int .i64 (cnt m : Nat)) ∧ Below w.heap.size w w' :=
  count_core p n (wd m) (fun k => pc (64 * k) m) (fun k => pc 64 (wd m k)) w (value_any p n m w h) (fun k w => ones_any _ (wd_lt m k) w) rfl (fun k => pc_words k m) (fun _ => ⟨pc_le _ _, pc_le _ _⟩)

end Go.Proofs.YtjijagnpcmonbaaDoor.B

/-
  What a builder's memory is: two tables of names, the terminals' levels, the sides, the productions, the start symbol.
-/
namespace Go.Proofs.YtjijagnpcmonbaaDoor
open Go.RowKit Go.Maps

/-- A production by handles. -/
structure PR where
  left : Int
  right : List Int
  level : Int

/-- A builder as it is told. -/
structure BS where
  terms : List ByteArray
  nons : List ByteArray
  lev : Nat → Int
  sides : List Int
  prods : List PR
  start : Int
  /-- (A mark of the proof's own: the blocks that its lists may lie in.) -/
  P : Nat → Prop := fun _ => True

/-- A text's number in a table, counted from k on; 0 if it is not there. -/
def numFrom : List ByteArray → ByteArray → Nat → Nat
  | [], _, _ => 0
  | x :: r, s, k => if x.data.toList = s.data.toList then k else numFrom r s (k + 1)
def numOf (l : List ByteArray) (s : ByteArray) : Nat := numFrom l s 1

theorem bytes_ext {x s : ByteArray} (h : x.data.toList = s.data.toList) : x = s := by
  cases x; cases s; congr 1; exact Array.ext' h

theorem numFrom_zero_iff (s : ByteArray) : ∀ (l : List ByteArray) (k : Nat), 0 < k → (numFrom l s k = 0 ↔ s ∉ l)
  | [], k, _ => by simp [numFrom]
  | x :: r, k, hk => by
    unfold numFrom
    split
    · next h => have e := bytes_ext h; subst e; simp; omega
    · next h =>
      rw [numFrom_zero_iff s r (k + 1) (by omega)]
      have : ¬ s = x := fun e => h (by rw [e])
      simp [this]
theorem numFrom_snoc_in (x s : ByteArray) : ∀ (l : List ByteArray) (k : Nat), s ∈ l → numFrom (l ++ [x]) s k = numFrom l s k
  | [], k, h => by cases h
  | y :: r, k, hs => by
    simp only [List.cons_append]
    unfold numFrom
    split
    · rfl
    · next h =>
      have : ¬ s = y := fun e => h (by rw [e])
      exact numFrom_snoc_in x s r (k + 1) (by simpa [this] using hs)
theorem numFrom_snoc_out (x s : ByteArray) : ∀ (l : List ByteArray) (k : Nat), s ∉ l → numFrom (l ++ [x]) s k = if x.data.toList = s.data.toList then k + l.length else 0
  | [], k, _ => by unfold numFrom; simp [numFrom]
  | y :: r, k, hs => by
    simp only [List.cons_append]
    unfold numFrom
    split
    · next h => exact absurd (by simp [bytes_ext h]) hs
    · rw [numFrom_snoc_out x s r (k + 1) (fun h => hs (by simp [h]))]
      split
      · simp; omega
      · rfl
theorem numOf_zero_iff {l : List ByteArray} {s : ByteArray} : numOf l s = 0 ↔ s ∉ l := numFrom_zero_iff s l 1 (by omega)
theorem numOf_zero {l : List ByteArray} {s : ByteArray} (h : s ∉ l) : numOf l s = 0 := numOf_zero_iff.2 h
theorem numOf_snoc_same {l : List ByteArray} {x : ByteArray} (hx : x ∉ l) : numOf (l ++ [x]) x = l.length + 1 := by
  unfold numOf; rw [numFrom_snoc_out _ _ _ _ hx, if_pos rfl]; omega
theorem numOf_snoc_other {l : List ByteArray} {x s : ByteArray} (h : s ≠ x) : numOf (l ++ [x]) s = numOf l s := by
  unfold numOf
  by_cases hs : s ∈ l
  · exact numFrom_snoc_in x s l 1 hs
  · rw [numFrom_snoc_out x s l 1 hs, if_neg (fun e => h (bytes_ext e).symm)]
    exact (numOf_zero hs).symm

noncomputable abbrev strR : Value → Option (DataW Unit × List MemPlace) := plainElem Tryd.prog 3

/-- A map that numbers the texts of a list. -/
def MapIs (w : World) (v : Value) (l : List ByteArray) : Prop :=
  (v = .map none ∧ l = []) ∨ ∃ B n, ∃ D : DataW Unit, v = .map (some B) ∧ n ≤ l.length ∧ w.ownsMap Tryd.prog 9 strR B n D ∧ ∀ s : ByteArray, D.atKey (.string s.data.toList) (.lit (.int .i64 0)) = .lit (.int .i64 (numOf l s))

def StrsIn (w : World) (v : Value) (l : List ByteArray) : Prop := w.ownsRow 0 9 1 v l.length (l.map Value.string)
def IntsIn (w : World) (v : Value) (l : List Int) : Prop := w.ownsRow 0 3 1 v l.length (l.map (Value.int .i64))
/-- The three cells of a production, its right side's slice r. -/
def prL (p : PR) (r : Value) : List Value := [.int .i64 p.left, r, .int .i64 p.level]
/-- Its lists lie in blocks of which S.P holds; of all blocks to come it holds. -/
def Foot (w : World) (S : BS) (c : Nat → Value) : Prop :=
  (∀ g, w.heap.size ≤ g → S.P g) ∧ (∀ i, i = 1 ∨ i = 3 ∨ i = 69 ∨ i = 70 → ∀ g, (c i).ownBlock = some g → S.P g) ∧
  ∀ gp k v g, (c 70).ownBlock = some gp → k < S.prods.length * 3 → w.cell? ⟨gp, k, none⟩ = some v → v.ownBlock = some g → S.P g

/-- What always holds of a builder. -/
structure BS.OK (S : BS) : Prop where
  syms : S.terms.length + S.nons.length ≤ 64
  tnames : ∀ s ∈ S.terms, isTextB s = true
  nnames : ∀ s ∈ S.nons, isNameB s = true
  tnd : S.terms.Nodup
  nnd : S.nons.Nodup
  sides : S.sides.length ≤ 64
  sdv : ∀ x ∈ S.sides, 1 ≤ x ∧ x ≤ 3
  prods : S.prods.length ≤ 96
  lev : ∀ i, 0 ≤ S.lev i ∧ S.lev i ≤ S.sides.length
  lev0 : S.lev 0 = 0
  levT : ∀ h, S.terms.length < h → S.lev h = 0
  has : ∀ i, i < S.sides.length → ∃ h, 1 ≤ h ∧ h ≤ S.terms.length ∧ S.lev h = (i : Int) + 1
  pl : ∀ p ∈ S.prods, -(S.nons.length : Int) ≤ p.left ∧ p.left < 0
  pr : ∀ p ∈ S.prods, ∀ h ∈ p.right, (0 < h ∧ h ≤ S.terms.length) ∨ (h < 0 ∧ -(S.nons.length : Int) ≤ h)
  plen : ∀ p ∈ S.prods, p.right.length ≤ 17592186044416
  pv : ∀ p ∈ S.prods, 0 ≤ p.level ∧ p.level ≤ S.sides.length
  st : S.start = 0 ∨ (-(S.nons.length : Int) ≤ S.start ∧ S.start < 0)

/-! ### What keeps -/
theorem grown_refl (w : World) (row : Option Nat) : w.grownBy w row := ⟨rfl, rfl, rfl, Nat.le_refl _, fun _ _ _ => rfl⟩
theorem grown_trans {w w1 w2 : World} {row : Option Nat} (h : w.grownBy w1 row) (k : w1.grownBy w2 row) : w.grownBy w2 row :=
  ⟨k.os.trans h.os, k.tape.trans h.tape, k.output.trans h.output, Nat.le_trans h.size k.size, fun i hi hne => (k.block i (Nat.lt_of_lt_of_le hi h.size) hne).trans (h.block i hi hne)⟩
theorem grown_but {w w1 : World} (row : Option Nat) (h : w.grownBy w1 none) : w.grownBy w1 row := ⟨h.os, h.tape, h.output, h.size, fun i hi _ => h.block i hi (by simp)⟩
theorem grown_below0 {w w1 : World} (h : w.grownBy w1 none) : Below w.heap.size w w1 := ⟨h.os, h.tape, h.output, h.size, fun k hk => h.block k hk (by simp)⟩
theorem below_grown {w w1 : World} (h : Below w.heap.size w w1) : w.grownBy w1 none := ⟨h.os, h.tape, h.output, h.size, fun k hk _ => h.block k hk⟩
theorem grown_setCell {w : World} (b o : Nat) (v : Value) : w.grownBy (w.setCell ⟨b, o, none⟩ v) (some b) :=
  ⟨rfl, rfl, rfl, by simp [World.setCell], fun k _ hne => Below.heap_setCell _ _ _ _ (fun e => hne (by simp [e]))⟩
/-- What a new block beyond w does not touch. -/
theorem grown_new {w w1 w2 : World} {b : Nat} (h : w.grownBy w1 none) (k : w1.grownBy w2 (some b)) (hb : w.heap.size ≤ b) : w.grownBy w2 none :=
  ⟨k.os.trans h.os, k.tape.trans h.tape, k.output.trans h.output, Nat.le_trans h.size k.size, fun i hi _ => (k.block i (Nat.lt_of_lt_of_le hi h.size) (by simp; omega)).trans (h.block i hi (by simp))⟩

/-- One cell turned. -/
def putC (c : Nat → Value) (i : Nat) (v : Value) : Nat → Value := fun j => if j = i then v else c j
end Go.Proofs.YtjijagnpcmonbaaDoor
