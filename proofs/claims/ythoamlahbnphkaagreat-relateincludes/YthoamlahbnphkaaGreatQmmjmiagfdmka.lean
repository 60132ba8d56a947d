/-
  What Size, value, holds, Has do, of the nil set and of one in memory.
-/
import Derived.Test.YthoamlahbnphkaaGreatQkacbldikianj
import Derived.Deep.QuietTactic
import Derived.BigQuiet
namespace Go.Proofs.YthoamlahbnphkaaGreat.B
open Go.RowKit

/-- The pointer p leads to a set of size n whose members are the bits of m; nil: to none. -/
def SetM (w : World) (p : Option Addr) (n m : Nat) : Prop :=
  n ≤ 1024 ∧ m < 2 ^ n ∧ ((p = none ∧ n = 0) ∨ ∃ b, p = some ⟨b, 0, none⟩ ∧ RowAt w b n (wd m))

theorem SetM.zero {w : World} {p : Option Addr} {m : Nat} (h : SetM w p 0 m) : m = 0 := by
  have := h.2.1; simpa using this

theorem wd_zero' : wd 0 = fun _ => 0 := funext wd_zero

theorem SetM.nil (w : World) : SetM w none 0 0 := ⟨by decide, by decide, .inl ⟨rfl, rfl⟩⟩
theorem SetM.of {w : World} {b n m : Nat} (hr : RowAt w b n (wd m)) (hn : n ≤ 1024) (hm : m < 2 ^ n) : SetM w (some ⟨b, 0, none⟩) n m := ⟨hn, hm, .inr ⟨b, rfl, hr⟩⟩

theorem size_any (p : Option Addr) (n m : Nat) (w : World) (h : SetM w p n m) :
    Calls Tryz.prog 128 #[.pointer p] w fun e w' => e = .returned (.int .i64 n) ∧ w' = w := by
  rcases h.2.2 with ⟨rfl, rfl⟩ | ⟨b, rfl, hr⟩
  · exact size_nil w
  · exact size_some b n _ w hr

theorem value_any (p : Option Addr) (n m : Nat) (w : World) (h : SetM w p n m) :
    Calls Tryz.prog 152 #[.pointer p] w fun e w' => e = .returned (.agg (rowL n (wd m)).toArray) ∧ Below w.heap.size w w' := by
  rcases h.2.2 with ⟨rfl, rfl⟩ | ⟨b, rfl, hr⟩
  · rw [h.zero, wd_zero']; exact value_nil w
  · exact value_some b n _ w hr

/-- May x be a member? -/
def inB (n : Nat) (x : Int) : Bool := decide (0 ≤ x) && decide (x < n)
/-- Is x a member? -/
def hasB (m : Nat) (x : Int) : Bool := decide (0 ≤ x) && m.testBit x.toNat

theorem holds_any (p : Option Addr) (n m : Nat) (x : Int) (w : World) (h : SetM w p n m) :
    Calls Tryz.prog 103 #[.pointer p, .int .i64 x] w fun e w' => e = .returned (.bool (inB n x)) ∧ w' = w := by
  by_cases h0 : 0 ≤ x
  · have hd : decide (0 ≤ x) = true := decide_eq_true h0
    have hS := size_any p n m w h
    clear h
    go_enter Tryz.func103, Tryz.ntmps103
    go_wp2_with (go_at_call 128; refine hS.mono ?_; rintro e w' ⟨rfl, rfl⟩)
    go_ret
    exact ⟨by simp [inB, h0], rfl⟩
  · have hd : decide (0 ≤ x) = false := decide_eq_false h0
    go_enter Tryz.func103, Tryz.ntmps103
    go_wp2_with fail
    go_ret
    exact ⟨by simp [inB, hd], rfl⟩

theorem SetM.drewN {w : World} {p : Option Addr} {n m : Nat} (h : SetM w p n m) (k : Nat) : SetM (w.drewN k) p n m := by
  unfold SetM RowAt at *
  simpa using h

theorem holds_no {p : Option Addr} {n m : Nat} {x : Int} {w : World} (h : SetM w p n m) (hx : inB n x = false) :
    Calls Tryz.prog 103 #[.pointer p, .int .i64 x] w fun e w' => e = .returned (.bool false) ∧ w' = w := by
  have := holds_any p n m x w h
  rwa [hx] at this
theorem holds_yes {p : Option Addr} {n m : Nat} {x : Int} {w : World} (h : SetM w p n m) (hx : inB n x = true) :
    Calls Tryz.prog 103 #[.pointer p, .int .i64 x] w fun e w' => e = .returned (.bool true) ∧ w' = w := by
  have := holds_any p n m x w h
  rwa [hx] at this

theorem has_no (p : Option Addr) (n m : Nat) (x : Int) (w : World) (h : SetM w p n m) (hx : inB n x = false) :
    Calls Tryz.prog 68 #[.pointer p, .int .i64 x] w fun e w' => e = .returned (.bool false) ∧ ∃ k, w' = w.drewN k := by
  have H : Hid (SetM w p n m) := h
  have HX : Hid (inB n x = false) := hx
  clear h hx
  go_enter Tryz.func68, Tryz.ntmps68
  go_wp2_with fail
  go_quiet ((go_at_call 103; exact Calls.quiet_of_same (holds_no (SetM.drewN H.out _) HX.out)))
  go_wp2
  go_ret
  exact ⟨rfl, _, rfl⟩

theorem has_yes (b n m k : Nat) (w : World) (hr : RowAt w b n (wd m)) (hn : n ≤ 1024) (hm : m < 2 ^ n) (hk : k < n) :
    Calls Tryz.prog 68 #[.pointer (some ⟨b, 0, none⟩), .int .i64 k] w fun e w' => e = .returned (.bool (m.testBit k)) ∧ ∃ k, w' = w.drewN k := by
  have H : Hid (SetM w (some ⟨b, 0, none⟩) n m) := SetM.of hr hn hm
  have HX : Hid (inB n (k : Int) = true) := by show inB n k = true; simp [inB, hk]
  have hc := hr.word (k / 64) (by omega)
  have hk2 : (k : Int) < 1024 := by omega
  have hk3 : (k : Int) / 64 < 16 := by omega
  have hb := test_bit m k
  clear hr hm
  go_enter Tryz.func68, Tryz.ntmps68
  go_wp2_with fail
  go_quiet (first | (go_at_call 103; exact Calls.quiet_of_same (holds_yes (SetM.drewN H.out _) HX.out)) | (go_at_call 104; exact Calls.quiet_of_same (bit_any k (by omega) _)))
  go_wp2
  go_ret
  exact ⟨rfl, _, rfl⟩

theorem has_any (p : Option Addr) (n m : Nat) (x : Int) (w : World) (h : SetM w p n m) :
    Calls Tryz.prog 68 #[.pointer p, .int .i64 x] w fun e w' => e = .returned (.bool (hasB m x)) ∧ ∃ k, w' = w.drewN k := by
  cases hx : inB n x with
  | false =>
    have e : hasB m x = false := by
      unfold hasB
      by_cases h0 : 0 ≤ x
      · have h1 : n ≤ x.toNat := by simp [inB, h0] at hx; omega
        rw [Nat.testBit_lt_two_pow (Nat.lt_of_lt_of_le h.2.1 (Nat.pow_le_pow_right (by decide) h1)), Bool.and_false]
      · rw [decide_eq_false h0, Bool.false_and]
    rw [e]
    exact has_no p n m x w h hx
  | true =>
    obtain ⟨h0, h1⟩ : 0 ≤ x ∧ x < n := by simpa [inB] using hx
    obtain ⟨k, rfl⟩ := Int.eq_ofNat_of_zero_le h0
    have hk : k < n := by omega
    rcases h.2.2 with ⟨_, rfl⟩ | ⟨b, rfl, hr⟩
    · omega
    · have := has_yes b n m k w hr h.1 h.2.1 hk
      have e : hasB m (k : Int) = m.testBit k := by simp [hasB]
      rw [e]
      exact this

end Go.Proofs.YthoamlahbnphkaaGreat.B
