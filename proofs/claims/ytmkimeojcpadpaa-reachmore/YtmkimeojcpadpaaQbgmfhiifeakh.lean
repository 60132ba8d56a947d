import Derived.Test.YtmkimeojcpadpaaQdjkbmbnhggip
import Derived.DeepKeys
import Derived.Test.YtmkimeojcpadpaaProg
import Derived.WalkKit
import Derived.WalkSpells
import Derived.Deep.QuietTactic
import Derived.BigQuiet

/-
  What OnesCount64 and Count do.
-/
namespace Go.Proofs.Ytmkimeojcpadpaa.B
open Go.RowKit

theorem ones_core (x y1 y2 y3 y4 y5 y6 y7 : Nat) (w : World)
    (k1 : IntKind.u64.wrap (bits BinOp.and IntKind.u64 (↑x / 2) 6148914691236517205 + bits BinOp.and IntKind.u64 (↑x) 6148914691236517205) = (y1 : Int))
    (k2 : IntKind.u64.wrap (bits BinOp.and IntKind.u64 (↑y1 / 4) 3689348814741910323 + bits BinOp.and IntKind.u64 (↑y1) 3689348814741910323) = (y2 : Int))
    (k3 : bits BinOp.and IntKind.u64 (IntKind.u64.wrap (↑y2 / 16 + ↑y2)) 1085102592571150095 = (y3 : Int))
    (k4 : IntKind.u64.wrap (↑y3 + ↑y3 / 256) = (y4 : Int))
    (k5 : IntKind.u64.wrap (↑y4 + ↑y4 / 65536) = (y5 : Int))
    (k6 : IntKind.u64.wrap (↑y5 + ↑y5 / 4294967296) = (y6 : Int))
    (k7 : bits BinOp.and IntKind.i64 (wrap64 ↑y6) 127 = (y7 : Int)) :
    Calls Try.prog 84 #[.int .u64 x] w fun e w' => e = .returned (.int .i64 y7) ∧ w' = w := by
  go_enter Try.func84, Try.ntmps84
  go_wp2
  go_ret
  exact ⟨rfl, rfl⟩

theorem and_cast (a c : Nat) (z : Int) (ha : a < 18446744073709551616) (hc : c < 18446744073709551616) (hz : z = (a : Int)) : bits BinOp.and IntKind.u64 z (c : Int) = ((a &&& c : Nat) : Int) := by
  rw [hz]; exact bits_and_u64_nat a c ha hc

theorem wrap_cast (a : Nat) (z : Int) (ha : a < 18446744073709551616) (hz : z = (a : Int)) : IntKind.u64.wrap z = (a : Int) := by
  rw [hz, IntKind.wrap_u64]; omega

theorem m1 : M1 32 = 6148914691236517205 := by decide +kernel
theorem m2 : M2 16 = 3689348814741910323 := by decide +kernel
theorem m3 : M3 8 = 1085102592571150095 := by decide +kernel

theorem key1 (x : Nat) (hx : x < 18446744073709551616) :
    IntKind.u64.wrap (bits BinOp.and IntKind.u64 (↑x / 2) 6148914691236517205 + bits BinOp.and IntKind.u64 (↑x) 6148914691236517205) = (s1 32 x : Int) ∧ s1 32 x < 18446744073709551616 := by
  have b1 : s1 32 x = (x / 2 &&& 6148914691236517205) + (x &&& 6148914691236517205) := by unfold s1; rw [m1]
  have l1 : x / 2 &&& 6148914691236517205 ≤ 6148914691236517205 := Nat.and_le_right
  have l2 : x &&& 6148914691236517205 ≤ 6148914691236517205 := Nat.and_le_right
  have c1 := and_cast (x / 2) 6148914691236517205 (↑x / 2) (by omega) (by omega) (by omega)
  have c2 := and_cast x 6148914691236517205 x hx (by omega) rfl
  have e1 : ((6148914691236517205 : Nat) : Int) = 6148914691236517205 := rfl
  rw [e1] at c1 c2
  rw [c1, c2, b1]
  generalize x / 2 &&& 6148914691236517205 = p at *
  generalize x &&& 6148914691236517205 = q at *
  exact ⟨wrap_cast _ _ (by omega) (by omega), by omega⟩

theorem key2 (x : Nat) (hx : x < 18446744073709551616) :
    IntKind.u64.wrap (bits BinOp.and IntKind.u64 (↑x / 4) 3689348814741910323 + bits BinOp.and IntKind.u64 (↑x) 3689348814741910323) = (s2 16 x : Int) ∧ s2 16 x ≤ 7378697629483820646 := by
  have b1 : s2 16 x = (x / 4 &&& 3689348814741910323) + (x &&& 3689348814741910323) := by unfold s2; rw [m2]
  have l1 : x / 4 &&& 3689348814741910323 ≤ 3689348814741910323 := Nat.and_le_right
  have l2 : x &&& 3689348814741910323 ≤ 3689348814741910323 := Nat.and_le_right
  have c1 := and_cast (x / 4) 3689348814741910323 (↑x / 4) (by omega) (by omega) (by omega)
  have c2 := and_cast x 3689348814741910323 x hx (by omega) rfl
  have e1 : ((3689348814741910323 : Nat) : Int) = 3689348814741910323 := rfl
  rw [e1] at c1 c2
  rw [c1, c2, b1]
  generalize x / 4 &&& 3689348814741910323 = p at *
  generalize x &&& 3689348814741910323 = q at *
  exact ⟨wrap_cast _ _ (by omega) (by omega), by omega⟩

theorem key3 (y : Nat) (hy : y ≤ 7378697629483820646) : bits BinOp.and IntKind.u64 (IntKind.u64.wrap (↑y / 16 + ↑y)) 1085102592571150095 = (s3 8 y : Int) := by
  have b3 : s3 8 y = (y / 16 + y) &&& 1085102592571150095 := by unfold s3; rw [m3]
  rw [wrap_cast (y / 16 + y) _ (by omega) (by omega), b3]
  exact and_cast (y / 16 + y) 1085102592571150095 _ (by omega) (by omega) rfl

theorem key4 (y B : Nat) (Bi : Int) (hB : Bi = (B : Int)) (hy : y + y / B < 9223372036854775808) : IntKind.u64.wrap (↑y + ↑y / Bi) = ((y + y / B : Nat) : Int) := by
  refine wrap_cast _ _ (by omega) ?_
  rw [hB]
  simp

theorem key7 (y : Nat) (hy : y < 9223372036854775808) : bits BinOp.and IntKind.i64 (wrap64 ↑y) 127 = ((y % 128 : Nat) : Int) := by
  have e : wrap64 (y : Int) = (y : Int) := IntWalk.wrap64_in _ ⟨by omega, by omega⟩
  rw [e]
  have := bits_mask .i64 63 (by decide) (fun n h0 h1 => by rw [IntKind.wrap_i64]; omega) 7 (by decide) (y : Int) (by omega) (by omega)
  have e2 : ((2 : Int) ^ 7 - 1) = 127 := by decide
  rw [e2] at this
  rw [this]
  simp

theorem ones_any (x : Nat) (hx : x < 18446744073709551616) (w : World) :
    Calls Try.prog 84 #[.int .u64 x] w fun e w' => e = .returned (.int .i64 (pc 64 x : Nat)) ∧ w' = w := by
  obtain ⟨ht, hd⟩ := ones_pc x
  have hle := pc_le 64 x
  have hf := fold_ds _ ht (by rw [hd]; exact hle)
  rw [hd] at hf
  obtain ⟨k1, h1⟩ := key1 x hx
  obtain ⟨k2, h2⟩ := key2 _ h1
  have k3 := key3 _ h2
  generalize s1 32 x = y1 at *
  generalize s2 16 y1 = y2 at *
  generalize s3 8 y2 = y3 at *
  generalize pc 64 x = r at *
  clear ht hd h1 h2 hle hx
  obtain ⟨hf1, hf2⟩ := hf
  have q5 := Nat.lt_of_le_of_lt (Nat.le_add_right _ _) hf2
  have q4 := Nat.lt_of_le_of_lt (Nat.le_add_right _ _) q5
  have k4 := key4 y3 256 256 rfl q4
  generalize y3 + y3 / 256 = y4 at *
  have k5 := key4 y4 65536 65536 rfl q5
  generalize y4 + y4 / 65536 = y5 at *
  have k6 := key4 y5 4294967296 4294967296 rfl hf2
  generalize y5 + y5 / 4294967296 = y6 at *
  have k7 := key7 y6 hf2
  rw [hf1] at k7
  exact ones_core x y1 y2 y3 y4 y5 y6 r w k1 k2 k3 k4 k5 k6 k7

theorem run_words (n : Nat) (f : Nat → Nat) (w : World) : (Instr.field 87 (.agg (rowL n f).toArray) 1).run Try.prog w = .ok (.agg (wordsL f).toArray) w := by kernel_rfl
theorem run_word_0 (f : Nat → Nat) (w : World) : (Instr.index 85 (.agg (wordsL f).toArray) (.int .i64 0)).run Try.prog w = .ok (.int .u64 (f 0)) w := by kernel_rfl
theorem run_word_1 (f : Nat → Nat) (w : World) : (Instr.index 85 (.agg (wordsL f).toArray) (.int .i64 1)).run Try.prog w = .ok (.int .u64 (f 1)) w := by kernel_rfl
theorem run_word_2 (f : Nat → Nat) (w : World) : (Instr.index 85 (.agg (wordsL f).toArray) (.int .i64 2)).run Try.prog w = .ok (.int .u64 (f 2)) w := by kernel_rfl
theorem run_word_3 (f : Nat → Nat) (w : World) : (Instr.index 85 (.agg (wordsL f).toArray) (.int .i64 3)).run Try.prog w = .ok (.int .u64 (f 3)) w := by kernel_rfl
theorem run_word_4 (f : Nat → Nat) (w : World) : (Instr.index 85 (.agg (wordsL f).toArray) (.int .i64 4)).run Try.prog w = .ok (.int .u64 (f 4)) w := by kernel_rfl
theorem run_word_5 (f : Nat → Nat) (w : World) : (Instr.index 85 (.agg (wordsL f).toArray) (.int .i64 5)).run Try.prog w = .ok (.int .u64 (f 5)) w := by kernel_rfl
theorem run_word_6 (f : Nat → Nat) (w : World) : (Instr.index 85 (.agg (wordsL f).toArray) (.int .i64 6)).run Try.prog w = .ok (.int .u64 (f 6)) w := by kernel_rfl
theorem run_word_7 (f : Nat → Nat) (w : World) : (Instr.index 85 (.agg (wordsL f).toArray) (.int .i64 7)).run Try.prog w = .ok (.int .u64 (f 7)) w := by kernel_rfl
theorem run_word_8 (f : Nat → Nat) (w : World) : (Instr.index 85 (.agg (wordsL f).toArray) (.int .i64 8)).run Try.prog w = .ok (.int .u64 (f 8)) w := by kernel_rfl
theorem run_word_9 (f : Nat → Nat) (w : World) : (Instr.index 85 (.agg (wordsL f).toArray) (.int .i64 9)).run Try.prog w = .ok (.int .u64 (f 9)) w := by kernel_rfl
theorem run_word_10 (f : Nat → Nat) (w : World) : (Instr.index 85 (.agg (wordsL f).toArray) (.int .i64 10)).run Try.prog w = .ok (.int .u64 (f 10)) w := by kernel_rfl
theorem run_word_11 (f : Nat → Nat) (w : World) : (Instr.index 85 (.agg (wordsL f).toArray) (.int .i64 11)).run Try.prog w = .ok (.int .u64 (f 11)) w := by kernel_rfl
theorem run_word_12 (f : Nat → Nat) (w : World) : (Instr.index 85 (.agg (wordsL f).toArray) (.int .i64 12)).run Try.prog w = .ok (.int .u64 (f 12)) w := by kernel_rfl
theorem run_word_13 (f : Nat → Nat) (w : World) : (Instr.index 85 (.agg (wordsL f).toArray) (.int .i64 13)).run Try.prog w = .ok (.int .u64 (f 13)) w := by kernel_rfl
theorem run_word_14 (f : Nat → Nat) (w : World) : (Instr.index 85 (.agg (wordsL f).toArray) (.int .i64 14)).run Try.prog w = .ok (.int .u64 (f 14)) w := by kernel_rfl
theorem run_word_15 (f : Nat → Nat) (w : World) : (Instr.index 85 (.agg (wordsL f).toArray) (.int .i64 15)).run Try.prog w = .ok (.int .u64 (f 15)) w := by kernel_rfl
theorem run_word (f : Nat → Nat) (k : Nat) (hk : k < 16) (w : World) : (Instr.index 85 (.agg (wordsL f).toArray) (.int .i64 k)).run Try.prog w = .ok (.int .u64 (f k)) w := by
  have h : k = 0 ∨ k = 1 ∨ k = 2 ∨ k = 3 ∨ k = 4 ∨ k = 5 ∨ k = 6 ∨ k = 7 ∨ k = 8 ∨ k = 9 ∨ k = 10 ∨ k = 11 ∨ k = 12 ∨ k = 13 ∨ k = 14 ∨ k = 15 := by omega
  rcases h with rfl | rfl | rfl | rfl | rfl | rfl | rfl | rfl | rfl | rfl | rfl | rfl | rfl | rfl | rfl | rfl
  · exact run_word_0 f w
  · exact run_word_1 f w
  · exact run_word_2 f w
  · exact run_word_3 f w
  · exact run_word_4 f w
  · exact run_word_5 f w
  · exact run_word_6 f w
  · exact run_word_7 f w
  · exact run_word_8 f w
  · exact run_word_9 f w
  · exact run_word_10 f w
  · exact run_word_11 f w
  · exact run_word_12 f w
  · exact run_word_13 f w
  · exact run_word_14 f w
  · exact run_word_15 f w

/-- How many members. -/
def cnt (m : Nat) : Nat := pc 1024 m

set_option maxHeartbeats 400000 in
theorem count_core (p : Option Addr) (n : Nat) (f c o : Nat → Nat) (w : World)
    (hV : Calls Try.prog 67 #[.pointer p] w fun e w' => e = .returned (.agg (rowL n f).toArray) ∧ Below w.heap.size w w')
    (hO : Hid (∀ k w, Calls Try.prog 84 #[.int .u64 (f k)] w fun e w' => e = .returned (.int .i64 (o k)) ∧ w' = w))
    (c0 : c 0 = 0) (cs : Hid (∀ k, c (k + 1) = c k + o k)) (cle : Hid (∀ k, c k ≤ 64 * k ∧ o k ≤ 64)) :
    Calls Try.prog 66 #[.pointer p] w fun e w' => e = .returned (.int .i64 (c 16)) ∧ Below w.heap.size w w' := by
  have hf := fun w' => run_words n f w'
  go_enter Try.func66, Try.ntmps66
  go_wp2_with (go_at_call 67; refine hV.mono ?_; clear hV; rintro e w1 ⟨rfl, hb⟩)
  go_loop [3, 9] (fun v i => ∃ k : Nat, k ≤ 16 ∧ i = .int .i64 k ∧ v = .int .i64 (c k)) (fun _ i => 16 - (intOf i).toNat)
  case atStart => exact ⟨0, by omega, rfl, by rw [c0]; rfl⟩
  case round =>
    obtain ⟨k, hk, rfl, rfl⟩ := hrel
    have hle := (cle.out k).1
    have hle2 := (cle.out k).2
    clear c0 hf
    by_cases hlt : k < 16
    · have hi := fun w' => run_word f k hlt w'
      go_wp2_with (go_at_call 84; refine (hO.out k _).mono ?_; rintro e w2 ⟨rfl, rfl⟩)
      go_round
      case rel => exact ⟨k + 1, by omega, by go_num, by rw [cs.out]; go_num⟩
      case measure => simp [intOf]; omega
    · go_wp2
      go_ret
      have : k = 16 := by omega
      subst this
      exact ⟨rfl, hb⟩

theorem count_any (p : Option Addr) (n m : Nat) (w : World) (h : SetM w p n m) :
    Calls Try.prog 66 #[.pointer p] w fun e w' => e = .returned (.int .i64 (cnt m : Nat)) ∧ Below w.heap.size w w' :=
  count_core p n (wd m) (fun k => pc (64 * k) m) (fun k => pc 64 (wd m k)) w (value_any p n m w h) (fun k w => ones_any _ (wd_lt m k) w) rfl (fun k => pc_words k m) (fun _ => ⟨pc_le _ _, pc_le _ _⟩)

end Go.Proofs.Ytmkimeojcpadpaa.B

/-
  What Of, Copy and Equal do.
-/
namespace Go.Proofs.Ytmkimeojcpadpaa.B
open Go.RowKit

theorem part_word (f : Nat → Nat) (i : Nat) (hi : i < 16) (w : World) : (part 84 (wordsL f).toArray (i * 1)).run Try.prog w = .ok (.int .u64 (f i)) w := by
  have ha : (isAgg 84).run Try.prog w = .ok false w := by kernel_rfl
  unfold part
  simp only [Sem.run_bind, ha, Result.andThen_ok]
  simp [wordsL, hi]

theorem eq_words (d : Nat) (f g : Nat → Nat) (w : World) : ∀ is : List Nat, (∀ i ∈ is, i < 16) → (Op.eqItems (d + 1) 84 1 (wordsL f).toArray (wordsL g).toArray is).run Try.prog w = .ok (is.all fun i => f i == g i) w
  | [], _ => by simp [Op.eqItems]
  | i :: is, h => by
    have ih := eq_words d f g w is (fun j hj => h j (by simp [hj]))
    have hi := h i (by simp)
    have he := run_equalIn_int (P := Try.prog) w d 84 .u64 .u64 (f i) (g i) Try.underlying84
    simp only [Op.eqItems, Sem.run_bind, part_word f i hi, part_word g i hi, Result.andThen_ok, he, List.all_cons]
    by_cases e : f i = g i
    · rw [e]
      simpa using ih
    · have e2 : ((f i : Int) == (g i : Int)) = false := beq_eq_false_iff_ne.2 (fun h => e (by omega))
      have e3 : (f i == g i) = false := by simp [e]
      rw [e2, e3]
      simp

theorem eqFields58 (d : Nat) (xs ys : Array Value) : Op.eqFields d xs ys (Try.prog.fieldsOf 87).toList = (do
    let a ← part 3 xs 0
    let b ← part 3 ys 0
    let r ← Op.equalIn d 3 a b
    if (!r) = true then pure false else do
      let a ← part 85 xs 1
      let b ← part 85 ys 1
      let r ← Op.equalIn d 85 a b
      if (!r) = true then pure false else pure true) := by kernel_rfl
theorem part_size (n : Nat) (f : Nat → Nat) (w : World) : (part 3 (rowL n f).toArray 0).run Try.prog w = .ok (.int .i64 n) w := by kernel_rfl
theorem part_words (n : Nat) (f : Nat → Nat) (w : World) : (part 85 (rowL n f).toArray 1).run Try.prog w = .ok (.agg (wordsL f).toArray) w := by kernel_rfl
theorem cells55 : Try.prog.cellsOf 84 = 1 := by kernel_rfl
theorem struct58 : Try.prog.underlying 87 = some (.struct (Try.prog.fieldsOf 87)) := by kernel_rfl
theorem stood58 : Try.prog.stoodInHeld 87 = false := by kernel_rfl
theorem info55 : ∃ i, Try.prog.info? 84 = some i := by
  have : (Try.prog.info? 84).isSome = true := by kernel_rfl
  exact Option.isSome_iff_exists.1 this

theorem eq58 (n n' : Nat) (f g : Nat → Nat) (w : World) : (Op.equalIn 10000 87 (.agg (rowL n f).toArray) (.agg (rowL n' g).toArray)).run Try.prog w = .ok ((n == n') && (List.range 16).all fun i => f i == g i) w := by
  obtain ⟨i55, h55⟩ := info55
  rw [run_equalIn_struct w 9999 87 _ _ struct58 stood58, eqFields58]
  have he := run_equalIn_int (P := Try.prog) w 9998 3 .i64 .i64 n n' Try.underlying3
  simp only [Sem.run_bind, part_size, Result.andThen_ok, he]
  by_cases e : n = n'
  · have e2 : ((n : Int) == (n' : Int)) = true := beq_iff_eq.2 (by omega)
    have e3 : (n == n') = true := beq_iff_eq.2 e
    have hw := eq_words 9997 f g w (List.range 16) (fun i hi => by simpa using hi)
    have ha := run_equalIn_array (P := Try.prog) w 9998 (wordsL f).toArray (wordsL g).toArray Try.underlying85 h55
    rw [cells55, hw] at ha
    rw [e2, e3]
    simp only [Bool.not_true, Bool.false_eq_true, if_false, Sem.run_bind, part_words, Result.andThen_ok, ha, Bool.true_and]
    cases (List.range 16).all fun i => f i == g i <;> simp
  · have e2 : ((n : Int) == (n' : Int)) = false := beq_eq_false_iff_ne.2 (fun h => e (by omega))
    have e3 : (n == n') = false := beq_eq_false_iff_ne.2 e
    rw [e2, e3]
    simp

/-- An operation that yields a value in the world as it stands. -/
theorem wpList_yields {P : Program} {ops : Array Oper} {rest : List Oper} {o : Oper} {a : Act} {w w' : World} {v : Value} {Q : Exit → Act → World → Prop} (hgd : o.guard = none)
    (hrun : (execOp a.eval o).run P w = .ok (.value v) w') (h : wpList P ops Q rest (a.put o.dst v) w') : wpList P ops Q (o :: rest) a w :=
  wpList_plain hgd fun _ hK => by unfold Oper.wp; rw [hrun]; exact hK _ _ h

theorem wpList_eq58 {ops : Array Oper} {rest : List Oper} {o : Oper} {a : Act} {w : World} {Q : Exit → Act → World → Prop} (hgd : o.guard = none) (x y : Operand) (t : TypeId) (ho : o.op = .binOp .eql 87 x y t)
    (n n' : Nat) (f g : Nat → Nat) (r : Bool) (hr : ((n == n') && (List.range 16).all fun i => f i == g i) = r) (hx : a.eval x = .agg (rowL n f).toArray) (hy : a.eval y = .agg (rowL n' g).toArray)
    (h : wpList Try.prog ops Q rest (a.put o.dst (.bool r)) w) : wpList Try.prog ops Q (o :: rest) a w := by
  subst hr
  refine wpList_yields hgd ?_ h
  have hg : (eqGuard .eql 87 x y (.agg (rowL n f).toArray) (.agg (rowL n' g).toArray)).run Try.prog w = .ok () w := run_eqGuard_agg w .eql 87 x y _ _ (by kernel_rfl)
  unfold execOp
  simp only [ho, hx, hy, Sem.run_bind, hg, Result.andThen_ok, run_eql_struct, eq58, Sem.run_pure]

theorem SetM.keep {w w' : World} {p : Option Addr} {n m : Nat} (h : SetM w p n m) (hb : Below w.heap.size w w') : SetM w' p n m := by
  refine ⟨h.1, h.2.1, ?_⟩
  rcases h.2.2 with h3 | ⟨b, rfl, hr⟩
  · exact .inl h3
  · exact .inr ⟨b, rfl, hr.below hb hr.lt⟩
theorem SetM.but {w w' : World} {p : Option Addr} {n m c : Nat} (h : SetM w p n m) (hb : But c w w') (hne : ∀ b, p = some ⟨b, 0, none⟩ → b ≠ c) : SetM w' p n m := by
  refine ⟨h.1, h.2.1, ?_⟩
  rcases h.2.2 with h3 | ⟨b, rfl, hr⟩
  · exact .inl h3
  · exact .inr ⟨b, rfl, hr.but hb (hne b rfl)⟩

/-- Have two sets the same size and members? -/
def eqB (n m n' m' : Nat) : Bool := decide (n = n' ∧ m = m')

theorem eqB_words {n m n' m' : Nat} (hn : n ≤ 1024) (hn' : n' ≤ 1024) (hm : m < 2 ^ n) (hm' : m' < 2 ^ n') : ((n == n') && (List.range 16).all fun i => wd m i == wd m' i) = eqB n m n' m' := by
  rw [Bool.eq_iff_iff]
  unfold eqB
  simp only [Bool.and_eq_true, beq_iff_eq, List.all_eq_true, List.mem_range, decide_eq_true_eq]
  constructor
  · rintro ⟨rfl, h⟩
    exact ⟨rfl, wd_ext hn hn hm hm' h⟩
  · rintro ⟨rfl, rfl⟩
    exact ⟨rfl, fun _ _ => rfl⟩

theorem copy_any (p : Option Addr) (n m : Nat) (w : World) (h : SetM w p n m) :
    Calls Try.prog 65 #[.pointer p] w fun e w' => ∃ b, e = .returned (.pointer (some ⟨b, 0, none⟩)) ∧ w.heap.size ≤ b ∧ RowAt w' b n (wd m) ∧ Below w.heap.size w w' := by
  have hV := value_any p n m w h
  clear h
  generalize wd m = f at *
  go_enter Try.func65, Try.ntmps65
  go_wp2_with fail
  refine hV.mono ?_
  clear hV
  rintro e w1 ⟨rfl, hb⟩
  have hsz := hb.size
  have HB : Hid (Below w.heap.size w w1) := hb
  clear hb
  go_wp2_with (refine wpList_store_row rfl 87 _ _ rfl w1.heap.size (rowL n f).toArray rfl rfl 87 _ (heap_alloc_last w1 _) (info58' n f) (by simp [rowL]) (oneCell_rowL n f) ?_)
  go_ret
  refine ⟨w1.heap.size, rfl, hsz, ?_, ?_⟩
  · rw [World.setRow_alloc_new]; exact heap_alloc_last w1 _
  · rw [World.setRow_alloc_new]; exact HB.out.alloc hsz _

/-- A size as Of takes it. -/
def clampN (z : Int) : Nat := (min (max z 0) 1024).toNat
theorem clampN_le (z : Int) : clampN z ≤ 1024 := by unfold clampN; omega

theorem zero_row (n : Nat) : (#[Value.int IntKind.i64 n, Value.int IntKind.u64 0, Value.int IntKind.u64 0, Value.int IntKind.u64 0,
    Value.int IntKind.u64 0, Value.int IntKind.u64 0, Value.int IntKind.u64 0, Value.int IntKind.u64 0,
    Value.int IntKind.u64 0, Value.int IntKind.u64 0, Value.int IntKind.u64 0, Value.int IntKind.u64 0,
    Value.int IntKind.u64 0, Value.int IntKind.u64 0, Value.int IntKind.u64 0, Value.int IntKind.u64 0,
    Value.int IntKind.u64 0] : Array Value) = (rowL n (fun _ => 0)).toArray := rfl

/-- What Of leaves, whatever Add does to the new set. -/
theorem of_core (z : Int) (n k : Nat) (f : Nat → Nat) (v : Value) (w : World) (hn : clampN z = n)
    (hA : Calls Try.prog 42 #[.pointer (some ⟨w.heap.size, 0, none⟩), v] (w.alloc (.cells (rowL n (fun _ => 0)).toArray 87)) fun e w' =>
      e = .returned (.int .i64 k) ∧ RowAt w' w.heap.size n f ∧ But w.heap.size (w.alloc (.cells (rowL n (fun _ => 0)).toArray 87)) w') :
    Calls Try.prog 64 #[.int .i64 z, v] w fun e w' => e = .returned (.pointer (some ⟨w.heap.size, 0, none⟩)) ∧ RowAt w' w.heap.size n f ∧ Below w.heap.size w w' := by
  have HA := hA
  rw [← zero_row] at hA
  have fin : ∀ w', But w.heap.size (w.alloc (.cells (rowL n (fun _ => 0)).toArray 87)) w' → Below w.heap.size w w' := fun w' hb =>
    ((Below.refl _ w).alloc (Nat.le_refl _) _).trans (hb.below (by simp) (Nat.le_refl _))
  have FIN : Hid (∀ w', But w.heap.size (w.alloc (.cells (rowL n (fun _ => 0)).toArray 87)) w' → Below w.heap.size w w') := fin
  clear fin HA
  have HN : Hid (clampN z = n) := hn
  clear hn
  by_cases h1 : z ≤ 0
  · obtain rfl : n = 0 := by rw [← HN.out]; unfold clampN; omega
    by_cases h2 : z = 0
    · subst h2
      go_enter Try.func64, Try.ntmps64
      go_wp2_with fail
      refine hA.mono ?_
      rintro e w' ⟨rfl, hr, hb⟩
      go_wp2
      go_ret
      exact ⟨rfl, hr, FIN.out _ hb⟩
    · have h3 : z < 0 := by omega
      clear h1
      go_enter Try.func64, Try.ntmps64
      go_wp2_with fail
      refine hA.mono ?_
      rintro e w' ⟨rfl, hr, hb⟩
      go_wp2
      go_ret
      exact ⟨rfl, hr, FIN.out _ hb⟩
  · by_cases h2 : z ≤ 1024
    · obtain ⟨y, rfl⟩ := Int.eq_ofNat_of_zero_le (by omega : 0 ≤ z)
      obtain rfl : n = y := by rw [← HN.out]; unfold clampN; omega
      go_enter Try.func64, Try.ntmps64
      go_wp2_with fail
      refine hA.mono ?_
      rintro e w' ⟨rfl, hr, hb⟩
      go_wp2
      go_ret
      exact ⟨rfl, hr, FIN.out _ hb⟩
    · obtain rfl : n = 1024 := by rw [← HN.out]; unfold clampN; omega
      go_enter Try.func64, Try.ntmps64
      go_wp2_with fail
      refine hA.mono ?_
      rintro e w' ⟨rfl, hr, hb⟩
      go_wp2
      go_ret
      exact ⟨rfl, hr, FIN.out _ hb⟩

theorem IntsAt.below {w w' : World} {a : Option Addr} {l : List Int} (h : IntsAt w a l) (hb : Below w.heap.size w w') : IntsAt w' a l := by
  rcases h with h | ⟨b, off, rfl, hc⟩
  · exact .inl h
  · refine .inr ⟨b, off, rfl, fun i hi => ?_⟩
    have h1 := hc i hi
    rw [hb.cell (World.block_lt_of_cell? w _ h1)]; exact h1

theorem addS_lt (n m : Nat) (l : List Int) (hm : m < 2 ^ n) : (addS n m l).1 < 2 ^ n := by
  unfold addS
  generalize 0 = k
  induction l generalizing m k with
  | nil => exact hm
  | cons x l ih =>
    rw [List.foldl_cons]
    unfold addStep
    split
    · rename_i h
      have h1 : 0 ≤ x ∧ x < n := by simp [inB] at h; exact h.1
      exact ih (m ||| 2 ^ x.toNat) (lt_or hm (two_pow_lt (by omega))) (k + 1)
    · exact ih m hm k

theorem of_any (z : Int) (a : Option Addr) (cap : Nat) (l : List Int) (w : World) (hl : IntsAt w a l) (hlen : l.length < 1152921504606846976) :
    Calls Try.prog 64 #[.int .i64 z, .slice a l.length cap] w fun e w' =>
      e = .returned (.pointer (some ⟨w.heap.size, 0, none⟩)) ∧ SetM w' (some ⟨w.heap.size, 0, none⟩) (clampN z) (addS (clampN z) 0 l).1 ∧ Below w.heap.size w w' := by
  have hrow : RowAt (w.alloc (.cells (rowL (clampN z) (fun _ => 0)).toArray 87)) w.heap.size (clampN z) (wd 0) := by
    rw [wd_zero']; exact heap_alloc_last w _
  have hle := clampN_le z
  rcases hl with rfl | ⟨bl, off, rfl, hc⟩
  · refine (of_core z _ 0 (wd 0) _ w rfl ((add_none a cap _ _).mono ?_)).mono ?_
    · rintro e w' ⟨rfl, rfl⟩
      exact ⟨rfl, hrow, But.refl _ _⟩
    · rintro e w' ⟨rfl, hr, hb⟩
      exact ⟨rfl, SetM.of hr hle (Nat.two_pow_pos _), hb⟩
  · by_cases hne : l = []
    · subst hne
      refine (of_core z _ 0 (wd 0) _ w rfl ((add_none _ cap _ _).mono ?_)).mono ?_
      · rintro e w' ⟨rfl, rfl⟩
        exact ⟨rfl, hrow, But.refl _ _⟩
      · rintro e w' ⟨rfl, hr, hb⟩
        exact ⟨rfl, SetM.of hr hle (Nat.two_pow_pos _), hb⟩
    · have hlt : bl < w.heap.size := World.block_lt_of_cell? w _ (hc 0 (List.length_pos_iff.2 hne))
      have hc' : ∀ i, i < l.length → (w.alloc (.cells (rowL (clampN z) (fun _ => 0)).toArray 87)).cell? ⟨bl, off + i, none⟩ = some (.int .i64 (l.getD i 0)) := fun i hi => by
        rw [World.cell?_alloc_lt _ _ _ hlt]; exact hc i hi
      have hA := add_row w.heap.size (clampN z) 0 bl off cap l _ hle (Nat.two_pow_pos _) hrow (by omega) hlen hc'
      have hlt2 : (addS (clampN z) 0 l).1 < 2 ^ clampN z := addS_lt _ _ _ (Nat.two_pow_pos _)
      refine (of_core z _ (addS (clampN z) 0 l).2 (wd (addS (clampN z) 0 l).1) _ w rfl (hA.mono ?_)).mono ?_
      · rintro e w' ⟨rfl, hr, _, hb⟩
        exact ⟨rfl, hr, hb⟩
      · rintro e w' ⟨rfl, hr, hb⟩
        exact ⟨rfl, SetM.of hr hle hlt2, hb⟩

end Go.Proofs.Ytmkimeojcpadpaa.B

/-
  What Union does.
-/
namespace Go.Proofs.Ytmkimeojcpadpaa.B
open Go.RowKit

/-- What a union comes to: each of the others' members that are below the size. -/
def uS (n m : Nat) (L : List (Option Addr × Nat)) : Nat := L.foldl (fun acc e => acc ||| (e.2 &&& (2 ^ n - 1))) m

theorem uS_snoc (n m : Nat) (L : List (Option Addr × Nat)) (k : Nat) (hk : k < L.length) : uS n m (L.take (k + 1)) = uS n m (L.take k) ||| ((L.getD k (none, 0)).2 &&& (2 ^ n - 1)) := by
  unfold uS
  rw [List.take_succ_eq_append_getElem hk, List.foldl_append]
  simp [List.getD, hk]
theorem uS_lt (n m : Nat) (L : List (Option Addr × Nat)) (hm : m < 2 ^ n) : uS n m L < 2 ^ n := by
  unfold uS
  induction L generalizing m with
  | nil => exact hm
  | cons e L ih => rw [List.foldl_cons]; exact ih _ (lt_or hm (lt_and_right (ones_lt n)))

/-- What Count does, with some function for the count. -/
def CountIs (c : Nat → Nat) : Prop := ∀ p n m w, SetM w p n m → Calls Try.prog 66 #[.pointer p] w fun e w' => e = .returned (.int .i64 (c m : Nat)) ∧ Below w.heap.size w w'
theorem countIs : CountIs cnt := count_any

/-- What is stored at word i of a union. -/
theorem or_word (a b on i : Nat) : bits BinOp.or IntKind.u64 (wd a i : Int) (bits BinOp.and IntKind.u64 (wd b i : Int) (wd on i : Nat)) = (wd (a ||| (b &&& on)) i : Nat) := by
  have h : wd b i &&& wd on i < 18446744073709551616 := Nat.lt_of_le_of_lt Nat.and_le_left (wd_lt b i)
  rw [bits_and_u64_nat _ _ (wd_lt _ _) (wd_lt _ _), bits_or_u64_nat _ _ (wd_lt _ _) h, wd_or, wd_and]

/-- The words up to k of x, the others of y. -/
def mix (k : Nat) (x y : Nat) (i : Nat) : Nat := if i < k then wd x i else wd y i

theorem RowAt.mixed {w : World} {b n x y k : Nat} (h : RowAt w b n (mix k x y)) (hk : k < 16) : RowAt (w.setCell ⟨b, 1 + k, none⟩ (.int .u64 (wd x k : Nat))) b n (mix (k + 1) x y) :=
  (h.setWord k _ hk).congr fun i _ => by
    unfold mix
    by_cases e : i = k
    · subst e; simp
    · simp only [e, if_false]
      by_cases e2 : i < k
      · rw [if_pos e2, if_pos (by omega)]
      · rw [if_neg e2, if_neg (by omega)]

/-- The pointers of a slice lie where it leads to. -/
def PtrsAt (w : World) (a : Option Addr) (L : List (Option Addr × Nat)) : Prop :=
  L = [] ∨ ∃ b off, a = some ⟨b, off, none⟩ ∧ ∀ i, i < L.length → w.cell? ⟨b, off + i, none⟩ = some (.pointer (L.getD i (none, 0)).1)

/-- What the others of a call on set b are: b itself (which adds nothing), or other sets. -/
def OtherOk (w : World) (b : Nat) (q : Option Addr) (m' : Nat) : Prop :=
  (q = some ⟨b, 0, none⟩ ∧ m' = 0) ∨ (q ≠ some ⟨b, 0, none⟩ ∧ ∃ n', SetM w q n' m')

theorem below_at (n i : Nat) (hn : n ≤ 1024) (hi : i < 16) (w : World) :
    Calls Try.prog 68 #[.int .i64 n, .int .i64 i] w fun e w' => e = .returned (.int .u64 ((wd (2 ^ n - 1) i : Nat) : Int)) ∧ w' = w := below_any n i hn hi w

theorem union_nil (a : Option Addr) (len cap : Nat) (w : World) :
    Calls Try.prog 49 #[.pointer none, .slice a len cap] w fun e w' => e = .returned (.int .i64 0) ∧ w' = w := by
  go_enter Try.func49, Try.ntmps49
  go_wp2
  go_ret
  exact ⟨rfl, rfl⟩

theorem union_none (b n m : Nat) (c : Nat → Nat) (a : Option Addr) (cap : Nat) (w : World) (hr : RowAt w b n (wd m)) (hn : n ≤ 1024) (hm : m < 2 ^ n) (hC : CountIs c) (hle : ∀ x, c x ≤ 1024) :
    Calls Try.prog 49 #[.pointer (some ⟨b, 0, none⟩), .slice a 0 cap] w fun e w' => e = .returned (.int .i64 0) ∧ Below w.heap.size w w' := by
  have HS : Hid (SetM w (some ⟨b, 0, none⟩) n m) := SetM.of hr hn hm
  have l0 := hle m
  clear hr hm hle
  go_enter Try.func49, Try.ntmps49
  go_wp2_with (go_at_call 66; refine (hC _ n m _ HS.out).mono ?_; rintro e w1 ⟨rfl, hb1⟩)
  have HB1 : Hid (Below w.heap.size w w1) := hb1
  clear hb1
  go_loop [16] (fun i => i = .int .i64 0) (fun _ => 0)
  case atStart => rfl
  case round =>
    subst hrel
    go_wp2_with (go_at_call 66; refine (hC _ n m _ (SetM.keep HS.out HB1.out)).mono ?_; rintro e w2 ⟨rfl, hb2⟩)
    go_ret
    exact ⟨by simp, HB1.out.trans (hb2.mono HB1.out.size)⟩

set_option maxHeartbeats 1000000 in
theorem union_core (b n m bl off cap : Nat) (c : Nat → Nat) (L : List (Option Addr × Nat)) (w : World) (hC : CountIs c) (hle : ∀ x, c x ≤ 1024) (hn : n ≤ 1024) (hm : m < 2 ^ n) (hr : RowAt w b n (wd m)) (hne : bl ≠ b)
    (hlen : L.length < 1152921504606846976) (hlt : bl < w.heap.size)
    (hc : ∀ i, i < L.length → w.cell? ⟨bl, off + i, none⟩ = some (.pointer (L.getD i (none, 0)).1)) (ho : ∀ i, i < L.length → OtherOk w b (L.getD i (none, 0)).1 (L.getD i (none, 0)).2) :
    Calls Try.prog 49 #[.pointer (some ⟨b, 0, none⟩), .slice (some ⟨bl, off, none⟩) L.length cap] w fun e w' =>
      e = .returned (.int .i64 ((c (uS n m L) : Int) - c m)) ∧ RowAt w' b n (wd (uS n m L)) ∧ But b w w' := by
  have HC : Hid (∀ i, i < L.length → w.cell? ⟨bl, off + i, none⟩ = some (.pointer (L.getD i (none, 0)).1)) := hc
  have HO : Hid (∀ i, i < L.length → OtherOk w b (L.getD i (none, 0)).1 (L.getD i (none, 0)).2) := ho
  have HR : Hid (RowAt w b n (wd m)) := hr
  have HM : Hid (m < 2 ^ n) := hm
  have HLE : Hid (∀ x, c x ≤ 1024) := hle
  have l0 := hle m
  clear hc ho hr hm hle
  go_enter Try.func49, Try.ntmps49
  go_wp2_with (go_at_call 66; refine (hC _ n m _ (SetM.of HR.out hn HM.out)).mono ?_; rintro e w1 ⟨rfl, hb1⟩)
  have HR1 : Hid (RowAt w1 b n (wd m)) := HR.out.below hb1 HR.out.lt
  have HB1 : Hid (But b w w1) := But.of_below hb1
  clear hb1
  go_loopw [16] (fun i wr => ∃ k : Nat, k ≤ L.length ∧ i = .int .i64 k ∧ RowAt wr b n (wd (uS n m (L.take k))) ∧ But b w wr) (fun i _ => L.length - (intOf i).toNat)
  case atStart => exact ⟨0, Nat.zero_le _, rfl, HR1.out, HB1.out⟩
  case round =>
    obtain ⟨k, hk, rfl, hrow, hbut⟩ := hrel
    by_cases hlt2 : k < L.length
    · have hcell : wr.cell? ⟨bl, off + k, none⟩ = some (.pointer (L.getD k (none, 0)).1) := by
        rw [World.cell?_of_block (w := w) (hbut.block bl hlt hne)]; exact HC.out k hlt2
      have hsn := uS_snoc n m L k hlt2
      have hok := HO.out k hlt2
      have hu3 := uS_lt n m (L.take k) HM.out
      generalize L.getD k (none, 0) = e at hcell hsn hok
      obtain ⟨q, m'⟩ := e
      simp only at hcell hsn hok
      generalize hu : uS n m (L.take k) = u at hsn hrow hu3
      obtain ⟨n2, m2, hS2, hx⟩ : ∃ n2 m2, SetM wr q n2 m2 ∧ u ||| (m2 &&& (2 ^ n - 1)) = u ||| (m' &&& (2 ^ n - 1)) := by
        rcases hok with ⟨rfl, rfl⟩ | ⟨hq, n', hS⟩
        · refine ⟨n, u, SetM.of hrow hn hu3, ?_⟩
          apply Nat.eq_of_testBit_eq
          intro j
          simp only [Nat.testBit_or, Nat.testBit_and, Nat.zero_testBit]
          cases u.testBit j <;> simp
        · exact ⟨n', m', hS.but hbut (fun b' hb' e => hq (by rw [hb', e])), rfl⟩
      have hV := value_any q n2 m2 wr hS2
      have HROW : Hid (RowAt wr b n (wd u)) := hrow
      have HBUT : Hid (But b w wr) := hbut
      have hbel : ∀ i : Nat, i < 16 → ∀ w, Calls Try.prog 68 #[.int .i64 n, .int .i64 i] w fun e w' => e = .returned (.int .u64 ((wd (2 ^ n - 1) i : Nat) : Int)) ∧ w' = w := fun i hi w => below_any n i hn hi w
      generalize 2 ^ n - 1 = on at hbel hsn hx
      have HBEL : Hid (∀ i : Nat, i < 16 → ∀ w, Calls Try.prog 68 #[.int .i64 n, .int .i64 i] w fun e w' => e = .returned (.int .u64 ((wd on i : Nat) : Int)) ∧ w' = w) := hbel
      obtain ⟨x, hxe⟩ : ∃ x, x = u ||| (m2 &&& on) := ⟨_, rfl⟩
      have HX : Hid (uS n m (L.take (k + 1)) = x) := by show _ = _; rw [hxe, hx]; exact hsn
      have HOW : Hid (∀ i, bits BinOp.or IntKind.u64 (wd u i : Int) (bits BinOp.and IntKind.u64 (wd m2 i : Int) (wd on i : Nat)) = (wd x i : Nat)) := fun i => by rw [hxe]; exact or_word u m2 on i
      have hf := fun w' => run_words n2 (wd m2) w'
      clear hrow hbut hbel hsn hx hok hS2 hu hu3 hxe
      go_wp2_with (go_at_call 67; refine hV.mono ?_; clear hV; rintro e w2 ⟨rfl, hb2⟩)
      have HROW2 : Hid (RowAt w2 b n (wd u)) := HROW.out.below hb2 HROW.out.lt
      have HBUT2 : Hid (But b w w2) := HBUT.out.trans (But.of_below hb2)
      clear hb2 hf hcell
      go_loopw [23] (fun j wr2 => ∃ k2 : Nat, k2 ≤ 16 ∧ j = .int .i64 k2 ∧ RowAt wr2 b n (mix k2 x u) ∧ But b w wr2) (fun j _ => 16 - (intOf j).toNat)
      case atStart => exact ⟨0, by omega, rfl, HROW2.out.congr (fun i _ => by simp [mix]), HBUT2.out⟩
      case round =>
        obtain ⟨k2, hk2, rfl, hrow3, hbut3⟩ := hrel
        by_cases hlt3 : k2 < 16
        · have hi := fun w' => run_word (wd m2) k2 hlt3 w'
          have how := HOW.out k2
          have hw := hrow3.word k2 hlt3
          rw [show mix k2 x u k2 = wd u k2 by simp [mix]] at hw
          have hsz := hrow3.size
          have hfz := hrow3.free (1 + k2)
          have hki : (k2 : Int) < 16 := by omega
          have HROW3 : Hid (RowAt wr b n (mix k2 x u)) := hrow3
          have HBUT3 : Hid (But b w wr) := hbut3
          clear hrow3 hbut3
          go_wp2_with fail
          go_region_with (go_at_call 68; refine (HBEL.out k2 hlt3 _).mono ?_; rintro e w' ⟨rfl, rfl⟩)
          all_goals go_wp2
          all_goals go_roundw
          all_goals first
            | exact ⟨k2 + 1, by omega, by go_num, RowAt.mixed HROW3.out hlt3, (But.drew HBUT3.out).setCell _ _⟩
            | (simp [intOf]; omega)
        · have e16 : k2 = 16 := by omega
          subst e16
          have hrow4 : RowAt wr b n (wd x) := hrow3.congr (fun i hi => by simp [mix, hi])
          have HROW3 : Hid (RowAt wr b n (wd x)) := hrow4
          have HBUT3 : Hid (But b w wr) := hbut3
          clear hrow3 hbut3 hrow4
          go_wp2_with fail
          go_roundw
          case rel => exact ⟨k + 1, by omega, by go_num, by rw [HX.out]; exact HROW3.out, HBUT3.out⟩
          case measure => simp [intOf]; omega
    · have : k = L.length := by omega
      subst this
      rw [List.take_length] at *
      have hlt3 := uS_lt n m L HM.out
      have l1 := HLE.out (uS n m L)
      generalize hu : uS n m L = u at hrow hlt3 l1
      have HU : Hid (uS n m L = u) := hu
      clear hu
      have HROW : Hid (RowAt wr b n (wd u)) := hrow
      have HBUT : Hid (But b w wr) := hbut
      have HLT3 : Hid (u < 2 ^ n) := hlt3
      clear hrow hbut hlt3
      go_wp2_with (go_at_call 66; refine (hC _ n u _ (SetM.of HROW.out hn HLT3.out)).mono ?_; rintro e w2 ⟨rfl, hb2⟩)
      go_ret
      rw [HU.out]
      exact ⟨rfl, HROW.out.below hb2 HROW.out.lt, HBUT.out.trans (But.of_below hb2)⟩

end Go.Proofs.Ytmkimeojcpadpaa.B

/-
  Which texts may be a terminal's, which are names: the program's own tests.
-/
namespace Go.Proofs.Ytmkimeojcpadpaa
open Go.RowKit

/-- May a byte stand in a terminal's text? -/
def textB (n : Nat) : Bool := !(decide (n < 32) || decide (126 < n) || decide (n = 39))
def letterB (n : Nat) : Bool := (decide (65 ≤ n) && decide (n ≤ 90)) || (decide (97 ≤ n) && decide (n ≤ 122)) || decide (n = 95)
def digitB (n : Nat) : Bool := decide (48 ≤ n) && decide (n ≤ 57)
def nameB (i n : Nat) : Bool := letterB n || (decide (0 < i) && digitB n)
/-- The byte at a place. -/
def chr (s : ByteArray) (i : Nat) : Nat := (s.data.toList.getD i 0).toNat
def lenOK (s : ByteArray) : Bool := decide (1 ≤ s.size) && decide (s.size ≤ 16)
def isTextB (s : ByteArray) : Bool := lenOK s && (List.range s.size).all (fun i => textB (chr s i))
def isNameB (s : ByteArray) : Bool := lenOK s && (List.range s.size).all (fun i => nameB i (chr s i))

theorem chr_lt (s : ByteArray) (i : Nat) : chr s i < 256 := UInt8.toNat_lt _
theorem chr_at (s : ByteArray) (i : Nat) (h : i < s.size) : (s[i]'h).toNat = chr s i := by
  have h' : i < s.data.toList.length := by simpa using h
  unfold chr
  rw [List.getD, List.getElem?_eq_getElem h']
  rfl

theorem index_at (s : ByteArray) (i : Nat) (h : i < s.size) (w : World) : (Instr.index 9 (.string s) (.int .i64 i)).run Try.prog w = .ok (.int .u8 (chr s i)) w := by
  rw [run_index_string w 9 s .i64 i Try.underlying9, dif_pos ⟨by omega, by omega⟩]
  congr 3
  exact chr_at s i h

theorem lenOK_any (s : ByteArray) (w : World) : Calls Try.prog 97 #[.string s] w fun e w' => e = .returned (.bool (lenOK s)) ∧ w' = w := by
  by_cases h : 1 ≤ s.size
  · have hd : decide (1 ≤ (s.size : Int)) = true := decide_eq_true (by omega)
    go_enter Try.func97, Try.ntmps97
    go_wp2_with fail
    go_ret
    refine ⟨?_, rfl⟩
    simp [lenOK, h]
    omega
  · have hd : decide (1 ≤ (s.size : Int)) = false := by simp; omega
    go_enter Try.func97, Try.ntmps97
    go_wp2_with fail
    go_ret
    exact ⟨by simp [lenOK, h], rfl⟩

theorem isText_any (s : ByteArray) (w : World) : Calls Try.prog 85 #[.string s] w fun e w' => e = .returned (.bool (isTextB s)) ∧ w' = w := by
  have hL := lenOK_any s w
  cases hl : lenOK s with
  | false =>
    rw [hl] at hL
    have e : isTextB s = false := by simp [isTextB, hl]
    rw [e]
    clear e hl
    go_enter Try.func85, Try.ntmps85
    go_wp2_with (go_at_call 97; refine hL.mono ?_; rintro e w' ⟨rfl, rfl⟩)
    go_ret
    exact ⟨rfl, rfl⟩
  | true =>
    rw [hl] at hL
    have hsz : s.size ≤ 16 := by simp [lenOK] at hl; omega
    have e : isTextB s = (List.range s.size).all (fun i => textB (chr s i)) := by simp [isTextB, hl]
    rw [e]
    clear e hl
    generalize hr : (List.range s.size).all (fun i => textB (chr s i)) = r
    have HR : Hid ((List.range s.size).all (fun i => textB (chr s i)) = r) := hr
    clear hr
    go_enter Try.func85, Try.ntmps85
    go_wp2_with (go_at_call 97; refine hL.mono ?_; rintro e w' ⟨rfl, rfl⟩)
    go_loopw [10] (fun i wr => ∃ k : Nat, k ≤ s.size ∧ i = .int .i64 k ∧ wr = w' ∧ ∀ j, j < k → textB (chr s j) = true) (fun i _ => s.size - (intOf i).toNat)
    case atStart => exact ⟨0, Nat.zero_le _, rfl, rfl, fun j hj => by omega⟩
    case round =>
      obtain ⟨k, hk, rfl, rfl, hall⟩ := hrel
      by_cases hlt : k < s.size
      · have hix := fun w => index_at s k hlt w
        have hc := chr_lt s k
        have hno : textB (chr s k) = false → r = false := fun h => by
          rw [← HR.out, Bool.eq_false_iff]
          intro h2
          have := List.all_eq_true.1 h2 k (by simpa using hlt)
          rw [h] at this
          cases this
        have hup : textB (chr s k) = true → ∀ j, j < k + 1 → textB (chr s j) = true := fun h j hj => by
          by_cases e : j = k
          · subst e; exact h
          · exact hall j (by omega)
        clear hall
        generalize hx : chr s k = c at *
        by_cases h1 : c < 32
        · have hrf := hno (by simp [textB, h1])
          have hd1 : decide ((c : Int) < 32) = true := decide_eq_true (by omega)
          go_wp2_with fail
          go_ret
          exact ⟨by rw [hrf]; rfl, rfl⟩
        · have hd1 : decide ((c : Int) < 32) = false := decide_eq_false (by omega)
          by_cases h2 : 126 < c
          · have hrf := hno (by simp [textB, h2])
            have hd2 : decide (126 < (c : Int)) = true := decide_eq_true (by omega)
            go_wp2_with fail
            go_ret
            exact ⟨by rw [hrf]; rfl, rfl⟩
          · have hd2 : decide (126 < (c : Int)) = false := decide_eq_false (by omega)
            by_cases h3 : c = 39
            · have hrf := hno (by simp [textB, h3])
              have hd3 : ((c : Int) == 39) = true := beq_iff_eq.2 (by omega)
              clear h3
              go_wp2_with fail
              go_ret
              exact ⟨by rw [hrf]; rfl, rfl⟩
            · have hd3 : ((c : Int) == 39) = false := beq_eq_false_iff_ne.2 (by omega)
              have hup' := hup (by simp [textB, h1, h2, h3])
              clear hno hup
              go_wp2_with fail
              go_roundw
              case rel => exact ⟨k + 1, by omega, by go_num, trivial, hup'⟩
              case measure => simp [intOf]; omega
      · obtain rfl : k = s.size := by omega
        go_wp2_with fail
        go_ret
        have he : r = true := HR.out.symm.trans (List.all_eq_true.2 fun i hi => hall i (by simpa using hi))
        rw [he]
        exact ⟨rfl, rfl⟩

theorem isDigit_any (c : Nat) (w : World) : Calls Try.prog 99 #[.int .u8 c] w fun e w' => e = .returned (.bool (digitB c)) ∧ w' = w := by
  by_cases h : 48 ≤ c
  · have hd : decide (48 ≤ (c : Int)) = true := decide_eq_true (by omega)
    go_enter Try.func99, Try.ntmps99
    go_wp2_with fail
    go_ret
    exact ⟨by simp [digitB, h]; omega, rfl⟩
  · have hd : decide (48 ≤ (c : Int)) = false := decide_eq_false (by omega)
    go_enter Try.func99, Try.ntmps99
    go_wp2_with fail
    go_ret
    exact ⟨by simp [digitB, h], rfl⟩

theorem isLetter_any (c : Nat) (w : World) : Calls Try.prog 98 #[.int .u8 c] w fun e w' => e = .returned (.bool (letterB c)) ∧ w' = w := by
  have key : letterB c = true ↔ ((65 ≤ c ∧ c ≤ 90) ∨ (97 ≤ c ∧ c ≤ 122) ∨ c = 95) := by simp [letterB, or_assoc]
  have keyf : letterB c = false ↔ ¬ ((65 ≤ c ∧ c ≤ 90) ∨ (97 ≤ c ∧ c ≤ 122) ∨ c = 95) := by rw [← key]; simp
  generalize letterB c = r at *
  by_cases h1 : 65 ≤ c
  · have d1 : decide (65 ≤ (c : Int)) = true := decide_eq_true (by omega)
    by_cases h2 : c ≤ 90
    · have d2 : decide ((c : Int) ≤ 90) = true := decide_eq_true (by omega)
      obtain rfl : r = true := key.2 (.inl ⟨h1, h2⟩)
      clear key keyf
      go_enter Try.func98, Try.ntmps98
      go_wp2_with fail
      go_ret
      exact ⟨rfl, rfl⟩
    · have d2 : decide ((c : Int) ≤ 90) = false := decide_eq_false (by omega)
      by_cases h3 : 97 ≤ c
      · have d3 : decide (97 ≤ (c : Int)) = true := decide_eq_true (by omega)
        by_cases h4 : c ≤ 122
        · have d4 : decide ((c : Int) ≤ 122) = true := decide_eq_true (by omega)
          obtain rfl : r = true := key.2 (.inr (.inl ⟨h3, h4⟩))
          clear key keyf
          go_enter Try.func98, Try.ntmps98
          go_wp2_with fail
          go_ret
          exact ⟨rfl, rfl⟩
        · have d4 : decide ((c : Int) ≤ 122) = false := decide_eq_false (by omega)
          have d5 : ((c : Int) == 95) = false := beq_eq_false_iff_ne.2 (by omega)
          obtain rfl : r = false := keyf.2 (by omega)
          clear key keyf
          go_enter Try.func98, Try.ntmps98
          go_wp2_with fail
          go_ret
          exact ⟨rfl, rfl⟩
      · have d3 : decide (97 ≤ (c : Int)) = false := decide_eq_false (by omega)
        by_cases h5 : c = 95
        · have d5 : ((c : Int) == 95) = true := beq_iff_eq.2 (by omega)
          obtain rfl : r = true := key.2 (.inr (.inr h5))
          clear key keyf h5
          go_enter Try.func98, Try.ntmps98
          go_wp2_with fail
          go_ret
          exact ⟨rfl, rfl⟩
        · have d5 : ((c : Int) == 95) = false := beq_eq_false_iff_ne.2 (by omega)
          obtain rfl : r = false := keyf.2 (by omega)
          clear key keyf
          go_enter Try.func98, Try.ntmps98
          go_wp2_with fail
          go_ret
          exact ⟨rfl, rfl⟩
  · have d1 : decide (65 ≤ (c : Int)) = false := decide_eq_false (by omega)
    have d3 : decide (97 ≤ (c : Int)) = false := decide_eq_false (by omega)
    have d5 : ((c : Int) == 95) = false := beq_eq_false_iff_ne.2 (by omega)
    obtain rfl : r = false := keyf.2 (by omega)
    clear key keyf
    go_enter Try.func98, Try.ntmps98
    go_wp2_with fail
    go_ret
    exact ⟨rfl, rfl⟩

theorem isName_any (s : ByteArray) (w : World) : Calls Try.prog 88 #[.string s] w fun e w' => e = .returned (.bool (isNameB s)) ∧ w' = w := by
  have hL := lenOK_any s w
  cases hl : lenOK s with
  | false =>
    rw [hl] at hL
    have e : isNameB s = false := by simp [isNameB, hl]
    rw [e]
    clear e hl
    go_enter Try.func88, Try.ntmps88
    go_wp2_with (go_at_call 97; refine hL.mono ?_; rintro e w' ⟨rfl, rfl⟩)
    go_ret
    exact ⟨rfl, rfl⟩
  | true =>
    rw [hl] at hL
    have hsz : s.size ≤ 16 := by simp [lenOK] at hl; omega
    have e : isNameB s = (List.range s.size).all (fun i => nameB i (chr s i)) := by simp [isNameB, hl]
    rw [e]
    clear e hl
    generalize hr : (List.range s.size).all (fun i => nameB i (chr s i)) = r
    have HR : Hid ((List.range s.size).all (fun i => nameB i (chr s i)) = r) := hr
    clear hr
    go_enter Try.func88, Try.ntmps88
    go_wp2_with (go_at_call 97; refine hL.mono ?_; rintro e w' ⟨rfl, rfl⟩)
    go_loopw [10] (fun i wr => ∃ k : Nat, k ≤ s.size ∧ i = .int .i64 k ∧ wr = w' ∧ ∀ j, j < k → nameB j (chr s j) = true) (fun i _ => s.size - (intOf i).toNat)
    case atStart => exact ⟨0, Nat.zero_le _, rfl, rfl, fun j hj => by omega⟩
    case round =>
      obtain ⟨k, hk, rfl, rfl, hall⟩ := hrel
      by_cases hlt : k < s.size
      · have hix := fun w => index_at s k hlt w
        have hno : nameB k (chr s k) = false → r = false := fun h => by
          rw [← HR.out, Bool.eq_false_iff]
          intro h2
          have := List.all_eq_true.1 h2 k (by simpa using hlt)
          rw [h] at this
          cases this
        have hup : nameB k (chr s k) = true → ∀ j, j < k + 1 → nameB j (chr s j) = true := fun h j hj => by
          by_cases e : j = k
          · subst e; exact h
          · exact hall j (by omega)
        clear hall
        generalize hx : chr s k = c at *
        have HLT := isLetter_any c wr
        have HDG := isDigit_any c wr
        cases hlet : letterB c with
        | true =>
          have hup' := hup (by simp [nameB, hlet])
          rw [hlet] at HLT
          clear hno hup
          go_wp2_with (go_at_call 98; refine HLT.mono ?_; rintro e w' ⟨rfl, rfl⟩)
          go_roundw
          case rel => exact ⟨k + 1, by omega, by go_num, trivial, hup'⟩
          case measure => simp [intOf]; omega
        | false =>
          rw [hlet] at HLT
          by_cases h0 : k = 0
          · have hrf := hno (by simp [nameB, hlet, h0])
            have hd0 : ((k : Int) == 0) = true := beq_iff_eq.2 (by omega)
            clear h0 hup
            go_wp2_with (go_at_call 98; refine HLT.mono ?_; rintro e w' ⟨rfl, rfl⟩)
            go_ret
            exact ⟨by rw [hrf]; rfl, rfl⟩
          · have hd0 : ((k : Int) == 0) = false := beq_eq_false_iff_ne.2 (by omega)
            cases hdig : digitB c with
            | true =>
              have hup' := hup (by simp [nameB, hdig]; omega)
              rw [hdig] at HDG
              clear hno hup
              go_wp2_with (first | (go_at_call 98; refine HLT.mono ?_; rintro e w' ⟨rfl, rfl⟩) | (go_at_call 99; refine HDG.mono ?_; rintro e w' ⟨rfl, rfl⟩))
              go_roundw
              case rel => exact ⟨k + 1, by omega, by go_num, trivial, hup'⟩
              case measure => simp [intOf]; omega
            | false =>
              have hrf := hno (by simp [nameB, hlet, hdig])
              rw [hdig] at HDG
              clear hup
              go_wp2_with (first | (go_at_call 98; refine HLT.mono ?_; rintro e w' ⟨rfl, rfl⟩) | (go_at_call 99; refine HDG.mono ?_; rintro e w' ⟨rfl, rfl⟩))
              go_ret
              exact ⟨by rw [hrf]; rfl, rfl⟩
      · obtain rfl : k = s.size := by omega
        go_wp2_with fail
        go_ret
        have he : r = true := HR.out.symm.trans (List.all_eq_true.2 fun i hi => hall i (by simpa using hi))
        rw [he]
        exact ⟨rfl, rfl⟩

end Go.Proofs.Ytmkimeojcpadpaa

namespace Go.Proofs.Ytmkimeojcpadpaa
open Go.RowKit

/-- A world of which p holds. -/
structure WBox (p : World → Prop) where
  w : World
  ok : p w

theorem wp_region_class {p : World → Prop} {id : Nat} {Q : Exit → Act → World → Prop} {a : Act} {w : World} {l : List Oper} (hm : Try.prog.follows .mixedOrders = true) (hB : Region.lexB .any l.toArray = true) (hC : p w.drew)
    (h : wpQuiet Try.prog l.toArray (fun w' => ∃ s : WBox p, w' = s.w) (fun a' => ∀ w', (∃ s : WBox p, w' = s.w) → Q .normal a' w') l a) : (Code.region id l.toArray true).wp Try.prog Q a w :=
  wp_region_quiet (C := fun w' => ∃ s : WBox p, w' = s.w) hm hB ⟨⟨_, hC⟩, rfl⟩ (by simpa using h)

theorem calls_class {p : World → Prop} {f : FuncId} {args : Array Value} {v : Value} {s : WBox p} (h : Calls Try.prog f args s.w fun e w' => e = .returned v ∧ p w') : Calls Try.prog f args s.w fun e w'' => e = .returned v ∧ ∃ s' : WBox p, w'' = s'.w :=
  h.mono fun _ _ ⟨he, hp⟩ => ⟨he, ⟨_, hp⟩, rfl⟩

end Go.Proofs.Ytmkimeojcpadpaa
