/-
  Which of n things a number speaks of.
-/
import Derived.Test.YtpjckjggmcijjabDoorSEachIter
namespace Go.Proofs.YtpjckjggmcijjabDoor
open Go.RowKit

attribute [local go_sem] Oper.semAt_some

set_option maxRecDepth 100000 in
theorem pick_any (c : Int) (hlo : -9223372036854775808 ≤ c) (hhi : c ≤ 9223372036854775807) (n : Nat) (hn : 0 < n) (hn2 : n ≤ 10000) (w : World) : Calls Tryd.prog 14 #[.int .i64 c, .int .i64 n] w fun e w' => (∃ r : Nat, r < n ∧ e = .returned (.int .i64 r)) ∧ w' = w := by
  by_cases h : c < 0
  · have hd : decide (c < 0) = true := decide_eq_true h
    go_enter Tryd.func14, Tryd.ntmps14
    go_wp2_with fail
    go_ret
    have e : -((c + 1).tmod (n : Int)) = (-(c + 1)) % (n : Int) := by rw [← Int.neg_tmod, Int.tmod_eq_emod_of_nonneg (by omega)]
    refine ⟨⟨((-(c + 1)) % (n : Int)).toNat, ?_, ?_⟩, rfl⟩
    · have h1 := Int.emod_lt_of_pos (-(c + 1)) (show (0 : Int) < n by omega)
      have h2 := Int.emod_nonneg (-(c + 1)) (show (n : Int) ≠ 0 by omega)
      omega
    · have h2 := Int.emod_nonneg (-(c + 1)) (show (n : Int) ≠ 0 by omega)
      rw [Int.toNat_of_nonneg h2, ← e]
      rfl
  · have hd : decide (c < 0) = false := decide_eq_false h
    go_enter Tryd.func14, Tryd.ntmps14
    go_wp2_with fail
    go_ret
    refine ⟨⟨(c % (n : Int)).toNat, ?_, ?_⟩, rfl⟩
    · have h1 := Int.emod_lt_of_pos c (show (0 : Int) < n by omega)
      have h2 := Int.emod_nonneg c (show (n : Int) ≠ 0 by omega)
      omega
    · have h2 := Int.emod_nonneg c (show (n : Int) ≠ 0 by omega)
      rw [Int.toNat_of_nonneg h2]
      rfl

end Go.Proofs.YtpjckjggmcijjabDoor
