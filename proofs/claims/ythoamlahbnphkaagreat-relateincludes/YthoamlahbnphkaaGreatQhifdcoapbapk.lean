/-
  What OnesCount64 and Count do.
-/
import Derived.Test.YthoamlahbnphkaaGreatQmmjmiagfdmka
import Derived.Test.YthoamlahbnphkaaGreatQpbmjabdecdnk
namespace Go.Proofs.YthoamlahbnphkaaGreat.B
open Go.RowKit

theorem ones_core (x y1 y2 y3 y4 y5 y6 y7 : Nat) (w : World)
    (k1 : IntKind.u64.wrap (bits BinOp.and IntKind.u64 (↑x / 2) 6148914691236517205 + bits BinOp.and IntKind.u64 (↑x) 6148914691236517205) = (y1 : Int))
    (k2 : IntKind.u64.wrap (bits BinOp.and IntKind.u64 (↑y1 / 4) 3689348814741910323 + bits BinOp.and IntKind.u64 (↑y1) 3689348814741910323) = (y2 : Int))
    (k3 : bits BinOp.and IntKind.u64 (IntKind.u64.wrap (↑y2 / 16 + ↑y2)) 1085102592571150095 = (y3 : Int))
    (k4 : IntKind.u64.wrap (↑y3 + ↑y3 / 256) = (y4 : Int))
    (k5 : IntKind.u64.wrap (↑y4 + ↑y4 / 65536) = (y5 : Int))
    (k6 : IntKind.u64.wrap (↑y5 + ↑y5 / 4294967296) = (y6 : Int))
    (k7 : bits BinOp.and IntKind.i64 (wrap64 ↑y6) 127 = (y7 : Int)) :
    Calls Tryz.prog 165 #[.int .u64 x] w fun e w' => e = .returned (.int .i64 y7) ∧ w' = w := by
  go_enter Tryz.func165, Tryz.ntmps165
  go_wp2
  go_ret
  exact ⟨rfl, rfl⟩

theorem and_cast (a c : Nat) (z : Int) (ha : a < 18446744073709551616) (hc : c < 18446744073709551616) (hz : z = (a : Int)) : bits BinOp.and IntKind.u64 z (c : Int) = ((a &&& c : Nat) : Int) := by
  rw [hz]; exact bits_and_u64_nat a c ha hc

theorem wrap_cast (a : Nat) (z : Int) (ha : a < 18446744073709551616) (hz : z = (a : Int)) : IntKind.u64.wrap z = (a : Int) := by
  rw [hz, IntKind.wrap_u64]; omega

theorem m1 : M1 32 = 6148914691236517205 := by decide +kernel
theorem m2 : M2 16 = 3689348814741910323 := by decide +kernel
theorem m3 : M3 8 = 1085102592571150095 := by decide +kernel

theorem key1 (x : Nat) (hx : x < 18446744073709551616) :
    IntKind.u64.wrap (bits BinOp.and IntKind.u64 (↑x / 2) 6148914691236517205 + bits BinOp.and IntKind.u64 (↑x) 6148914691236517205) = (s1 32 x : Int) ∧ s1 32 x < 18446744073709551616 := by
  have b1 : s1 32 x = (x / 2 &&& 6148914691236517205) + (x &&& 6148914691236517205) := by unfold s1; rw [m1]
  have l1 : x / 2 &&& 6148914691236517205 ≤ 6148914691236517205 := Nat.and_le_right
  have l2 : x &&& 6148914691236517205 ≤ 6148914691236517205 := Nat.and_le_right
  have c1 := and_cast (x / 2) 6148914691236517205 (↑x / 2) (by omega) (by omega) (by omega)
  have c2 := and_cast x 6148914691236517205 x hx (by omega) rfl
  have e1 : ((6148914691236517205 : Nat) : Int) = 6148914691236517205 := rfl
  rw [e1] at c1 c2
  rw [c1, c2, b1]
  generalize x / 2 &&& 6148914691236517205 = p at *
  generalize x &&& 6148914691236517205 = q at *
  exact ⟨wrap_cast _ _ (by omega) (by omega), by omega⟩

theorem key2 (x : Nat) (hx : x < 18446744073709551616) :
    IntKind.u64.wrap (bits BinOp.and IntKind.u64 (↑x / 4) 3689348814741910323 + bits BinOp.and IntKind.u64 (↑x) 3689348814741910323) = (s2 16 x : Int) ∧ s2 16 x ≤ 7378697629483820646 := by
  have b1 : s2 16 x = (x / 4 &&& 3689348814741910323) + (x &&& 3689348814741910323) := by unfold s2; rw [m2]
  have l1 : x / 4 &&& 3689348814741910323 ≤ 3689348814741910323 := Nat.and_le_right
  have l2 : x &&& 3689348814741910323 ≤ 3689348814741910323 := Nat.and_le_right
  have c1 := and_cast (x / 4) 3689348814741910323 (↑x / 4) (by omega) (by omega) (by omega)
  have c2 := and_cast x 3689348814741910323 x hx (by omega) rfl
  have e1 : ((3689348814741910323 : Nat) : Int) = 3689348814741910323 := rfl
  rw [e1] at c1 c2
  rw [c1, c2, b1]
  generalize x / 4 &&& 3689348814741910323 = p at *
  generalize x &&& 3689348814741910323 = q at *
  exact ⟨wrap_cast _ _ (by omega) (by omega), by omega⟩

theorem key3 (y : Nat) (hy : y ≤ 7378697629483820646) : bits BinOp.and IntKind.u64 (IntKind.u64.wrap (↑y / 16 + ↑y)) 1085102592571150095 = (s3 8 y : Int) := by
  have b3 : s3 8 y = (y / 16 + y) &&& 1085102592571150095 := by unfold s3; rw [m3]
  rw [wrap_cast (y / 16 + y) _ (by omega) (by omega), b3]
  exact and_cast (y / 16 + y) 1085102592571150095 _ (by omega) (by omega) rfl

theorem key4 (y B : Nat) (Bi : Int) (hB : Bi = (B : Int)) (hy : y + y / B < 9223372036854775808) : IntKind.u64.wrap (↑y + ↑y / Bi) = ((y + y / B : Nat) : Int) := by
  refine wrap_cast _ _ (by omega) ?_
  rw [hB]
  simp

theorem key7 (y : Nat) (hy : y < 9223372036854775808) : bits BinOp.and IntKind.i64 (wrap64 ↑y) 127 = ((y % 128 : Nat) : Int) := by
  have e : wrap64 (y : Int) = (y : Int) := IntWalk.wrap64_in _ ⟨by omega, by omega⟩
  rw [e]
  have := bits_mask .i64 63 (by decide) (fun n h0 h1 => by rw [IntKind.wrap_i64]; omega) 7 (by decide) (y : Int) (by omega) (by omega)
  have e2 : ((2 : Int) ^ 7 - 1) = 127 := by decide
  rw [e2] at this
  rw [this]
  simp

theorem ones_any (x : Nat) (hx : x < 18446744073709551616) (w : World) :
    Calls Tryz.prog 165 #[.int .u64 x] w fun e w' => e = .returned (.int .i64 (pc 64 x : Nat)) ∧ w' = w := by
  obtain ⟨ht, hd⟩ := ones_pc x
  have hle := pc_le 64 x
  have hf := fold_ds _ ht (by rw [hd]; exact hle)
  rw [hd] at hf
  obtain ⟨k1, h1⟩ := key1 x hx
  obtain ⟨k2, h2⟩ := key2 _ h1
  have k3 := key3 _ h2
  generalize s1 32 x = y1 at *
  generalize s2 16 y1 = y2 at *
  generalize s3 8 y2 = y3 at *
  generalize pc 64 x = r at *
  clear ht hd h1 h2 hle hx
  obtain ⟨hf1, hf2⟩ := hf
  have q5 := Nat.lt_of_le_of_lt (Nat.le_add_right _ _) hf2
  have q4 := Nat.lt_of_le_of_lt (Nat.le_add_right _ _) q5
  have k4 := key4 y3 256 256 rfl q4
  generalize y3 + y3 / 256 = y4 at *
  have k5 := key4 y4 65536 65536 rfl q5
  generalize y4 + y4 / 65536 = y5 at *
  have k6 := key4 y5 4294967296 4294967296 rfl hf2
  generalize y5 + y5 / 4294967296 = y6 at *
  have k7 := key7 y6 hf2
  rw [hf1] at k7
  exact ones_core x y1 y2 y3 y4 y5 y6 r w k1 k2 k3 k4 k5 k6 k7

theorem run_words (n : Nat) (f : Nat → Nat) (w : World) : (Instr.field 156 (.agg (rowL n f).toArray) 1).run Tryz.prog w = .ok (.agg (wordsL f).toArray) w := by kernel_rfl
theorem run_word_0 (f : Nat → Nat) (w : World) : (Instr.index 154 (.agg (wordsL f).toArray) (.int .i64 0)).run Tryz.prog w = .ok (.int .u64 (f 0)) w := by kernel_rfl
theorem run_word_1 (f : Nat → Nat) (w : World) : (Instr.index 154 (.agg (wordsL f).toArray) (.int .i64 1)).run Tryz.prog w = .ok (.int .u64 (f 1)) w := by kernel_rfl
theorem run_word_2 (f : Nat → Nat) (w : World) : (Instr.index 154 (.agg (wordsL f).toArray) (.int .i64 2)).run Tryz.prog w = .ok (.int .u64 (f 2)) w := by kernel_rfl
theorem run_word_3 (f : Nat → Nat) (w : World) : (Instr.index 154 (.agg (wordsL f).toArray) (.int .i64 3)).run Tryz.prog w = .ok (.int .u64 (f 3)) w := by kernel_rfl
theorem run_word_4 (f : Nat → Nat) (w : World) : (Instr.index 154 (.agg (wordsL f).toArray) (.int .i64 4)).run Tryz.prog w = .ok (.int .u64 (f 4)) w := by kernel_rfl
theorem run_word_5 (f : Nat → Nat) (w : World) : (Instr.index 154 (.agg (wordsL f).toArray) (.int .i64 5)).run Tryz.prog w = .ok (.int .u64 (f 5)) w := by kernel_rfl
theorem run_word_6 (f : Nat → Nat) (w : World) : (Instr.index 154 (.agg (wordsL f).toArray) (.int .i64 6)).run Tryz.prog w = .ok (.int .u64 (f 6)) w := by kernel_rfl
theorem run_word_7 (f : Nat → Nat) (w : World) : (Instr.index 154 (.agg (wordsL f).toArray) (.int .i64 7)).run Tryz.prog w = .ok (.int .u64 (f 7)) w := by kernel_rfl
theorem run_word_8 (f : Nat → Nat) (w : World) : (Instr.index 154 (.agg (wordsL f).toArray) (.int .i64 8)).run Tryz.prog w = .ok (.int .u64 (f 8)) w := by kernel_rfl
theorem run_word_9 (f : Nat → Nat) (w : World) : (Instr.index 154 (.agg (wordsL f).toArray) (.int .i64 9)).run Tryz.prog w = .ok (.int .u64 (f 9)) w := by kernel_rfl
theorem run_word_10 (f : Nat → Nat) (w : World) : (Instr.index 154 (.agg (wordsL f).toArray) (.int .i64 10)).run Tryz.prog w = .ok (.int .u64 (f 10)) w := by kernel_rfl
theorem run_word_11 (f : Nat → Nat) (w : World) : (Instr.index 154 (.agg (wordsL f).toArray) (.int .i64 11)).run Tryz.prog w = .ok (.int .u64 (f 11)) w := by kernel_rfl
theorem run_word_12 (f : Nat → Nat) (w : World) : (Instr.index 154 (.agg (wordsL f).toArray) (.int .i64 12)).run Tryz.prog w = .ok (.int .u64 (f 12)) w := by kernel_rfl
theorem run_word_13 (f : Nat → Nat) (w : World) : (Instr.index 154 (.agg (wordsL f).toArray) (.int .i64 13)).run Tryz.prog w = .ok (.int .u64 (f 13)) w := by kernel_rfl
theorem run_word_14 (f : Nat → Nat) (w : World) : (Instr.index 154 (.agg (wordsL f).toArray) (.int .i64 14)).run Tryz.prog w = .ok (.int .u64 (f 14)) w := by kernel_rfl
theorem run_word_15 (f : Nat → Nat) (w : World) : (Instr.index 154 (.agg (wordsL f).toArray) (.int .i64 15)).run Tryz.prog w = .ok (.int .u64 (f 15)) w := by kernel_rfl
theorem run_word (f : Nat → Nat) (k : Nat) (hk : k < 16) (w : World) : (Instr.index 154 (.agg (wordsL f).toArray) (.int .i64 k)).run Tryz.prog w = .ok (.int .u64 (f k)) w := by
  have h : k = 0 ∨ k = 1 ∨ k = 2 ∨ k = 3 ∨ k = 4 ∨ k = 5 ∨ k = 6 ∨ k = 7 ∨ k = 8 ∨ k = 9 ∨ k = 10 ∨ k = 11 ∨ k = 12 ∨ k = 13 ∨ k = 14 ∨ k = 15 := by omega
  rcases h with rfl | rfl | rfl | rfl | rfl | rfl | rfl | rfl | rfl | rfl | rfl | rfl | rfl | rfl | rfl | rfl
  · exact run_word_0 f w
  · exact run_word_1 f w
  · exact run_word_2 f w
  · exact run_word_3 f w
  · exact run_word_4 f w
  · exact run_word_5 f w
  · exact run_word_6 f w
  · exact run_word_7 f w
  · exact run_word_8 f w
  · exact run_word_9 f w
  · exact run_word_10 f w
  · exact run_word_11 f w
  · exact run_word_12 f w
  · exact run_word_13 f w
  · exact run_word_14 f w
  · exact run_word_15 f w

/-- How many members. -/
def cnt (m : Nat) : Nat := pc 1024 m

set_option maxHeartbeats 400000 in
theorem count_core (p : Option Addr) (n : Nat) (f c o : Nat → Nat) (w : World)
    (hV : Calls Tryz.prog 152 #[.pointer p] w fun e w' => e = .returned (.agg (rowL n f).toArray) ∧ Below w.heap.size w w')
    (hO : Hid (∀ k w, Calls Tryz.prog 165 #[.int .u64 (f k)] w fun e w' => e = .returned (.int .i64 (o k)) ∧ w' = w))
    (c0 : c 0 = 0) (cs : Hid (∀ k, c (k + 1) = c k + o k)) (cle : Hid (∀ k, c k ≤ 64 * k ∧ o k ≤ 64)) :
    Calls Tryz.prog 151 #[.pointer p] w fun e w' => e = .returned (.int .i64 (c 16)) ∧ Below w.heap.size w w' := by
  have hf := fun w' => run_words n f w'
  go_enter Tryz.func151, Tryz.ntmps151
  go_wp2_with (go_at_call 152; refine hV.mono ?_; clear hV; rintro e w1 ⟨rfl, hb⟩)
  go_loop [3, 9] (fun v i => ∃ k : Nat, k ≤ 16 ∧ i = .int .i64 k ∧ v = .int .i64 (c k)) (fun _ i => 16 - (intOf i).toNat)
  case atStart => exact ⟨0, by omega, rfl, by rw [c0]; rfl⟩
  case round =>
    obtain ⟨k, hk, rfl, rfl⟩ := hrel
    have hle := (cle.out k).1
    have hle2 := (cle.out k).2
    clear c0 hf
    by_cases hlt : k < 16
    · have hi := fun w' => run_word f k hlt w'
      go_wp2_with (go_at_call 165; refine (hO.out k _).mono ?_; rintro e w2 ⟨rfl, rfl⟩)
      go_round
      case rel => exact ⟨k + 1, by omega, by go_num, by rw [cs.out]; go_num⟩
      case measure => simp [intOf]; omega
    · go_wp2
      go_ret
      have : k = 16 := by omega
      subst this
      exact ⟨rfl, hb⟩

theorem count_any (p : Option Addr) (n m : Nat) (w : World) (h : SetM w p n m) :
    Calls Tryz.prog 151 #[.pointer p] w fun e w' => e = .returned (.int .i64 (cnt m : Nat)) ∧ Below w.heap.size w w' :=
  count_core p n (wd m) (fun k => pc (64 * k) m) (fun k => pc 64 (wd m k)) w (value_any p n m w h) (fun k w => ones_any _ (wd_lt m k) w) rfl (fun k => pc_words k m) (fun _ => ⟨pc_le _ _, pc_le _ _⟩)

end Go.Proofs.YthoamlahbnphkaaGreat.B
