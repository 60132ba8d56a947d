/-
  The document's own tests of names and terminals' texts.
-/
import Derived.Test.YtdlbeffkgdjihaaNames
namespace Go.Proofs.Ytdlbeffkgdjihaa
open Go.RowKit

attribute [local go_sem] Oper.semAt_some

set_option maxRecDepth 100000 in
theorem rIsTerm_any (s : ByteArray) (w : World) (hs : s.size ≤ 140737488355328) : Calls Try.prog 89 #[.string s] w fun e w' => e = .returned (.bool (isTextB s)) ∧ w' = w := by
  have HT : Hid ((∀ j, j < s.size → textB (chr s j) = true) → isTextB s = (decide (1 ≤ s.size) && decide (s.size ≤ 16))) := fun h => by
    unfold isTextB lenOK
    rw [show (List.range s.size).all (fun i => textB (chr s i)) = true from List.all_eq_true.2 fun i hi => h i (by simpa using hi), Bool.and_true]
  have HF : Hid (∀ k, k < s.size → textB (chr s k) = false → isTextB s = false) := fun k hk h => by
    unfold isTextB
    have hx : (List.range s.size).all (fun i => textB (chr s i)) = false := Bool.eq_false_iff.2 fun h2 => by
      have := List.all_eq_true.1 h2 k (by simpa using hk)
      rw [h] at this
      cases this
    rw [hx, Bool.and_false]
  generalize isTextB s = v at *
  go_enter Try.func89, Try.ntmps89
  go_wp2_with fail
  go_loopw [3] (fun i wr => ∃ k : Nat, k ≤ s.size ∧ i = .int .i64 k ∧ wr = w ∧ ∀ j, j < k → textB (chr s j) = true) (fun i _ => s.size - (intOf i).toNat)
  case atStart => exact ⟨0, Nat.zero_le _, rfl, rfl, fun j hj => by omega⟩
  case round =>
    obtain ⟨k, hk, rfl, rfl, hall⟩ := hrel
    have HA : Hid (∀ j, j < k → textB (chr s j) = true) := hall
    clear hall
    by_cases hlt : k < s.size
    · have hix := fun w => index_at s k hlt w
      have HK : Hid (textB (chr s k) = true → ∀ j, j < k + 1 → textB (chr s j) = true) := fun h j hj => by
        by_cases e : j = k
        · rw [e]; exact h
        · exact HA.out j (by omega)
      have HFK : Hid (textB (chr s k) = false → v = false) := HF.out k hlt
      generalize chr s k = c at *
      by_cases h1 : c < 32
      · have d1 : decide ((c : Int) < 32) = true := decide_eq_true (by omega)
        have hv := HFK.out (by simp [textB]; omega)
        go_wp2_with fail
        go_ret
        exact ⟨by rw [hv]; rfl, rfl⟩
      · have d1 : decide ((c : Int) < 32) = false := decide_eq_false (by omega)
        by_cases h2 : 126 < c
        · have d2 : decide (126 < (c : Int)) = true := decide_eq_true (by omega)
          have hv := HFK.out (by simp [textB]; omega)
          go_wp2_with fail
          go_ret
          exact ⟨by rw [hv]; rfl, rfl⟩
        · have d2 : decide (126 < (c : Int)) = false := decide_eq_false (by omega)
          by_cases h3 : c = 39
          · have d3 : ((c : Int) == 39) = true := beq_iff_eq.2 (by omega)
            have hv := HFK.out (by simp [textB, h3])
            clear h3
            go_wp2_with fail
            go_ret
            exact ⟨by rw [hv]; rfl, rfl⟩
          · have d3 : ((c : Int) == 39) = false := beq_eq_false_iff_ne.2 (by omega)
            have HK2 : Hid (∀ j, j < k + 1 → textB (chr s j) = true) := HK.out (by simp [textB, h3]; omega)
            clear HK HFK h3
            go_wp2_with fail
            go_roundw
            case rel => exact ⟨k + 1, by omega, by go_num, trivial, HK2.out⟩
            case measure => simp [intOf]; omega
    · obtain rfl : k = s.size := by omega
      have hv := HT.out HA.out
      by_cases h1 : 1 ≤ s.size
      · have d1 : decide (1 ≤ (s.size : Int)) = true := decide_eq_true (by omega)
        go_wp2_with fail
        go_ret
        refine ⟨?_, rfl⟩
        rw [hv]
        refine congrArg (fun b => Ending.returned (Value.bool b)) (Bool.eq_iff_iff.2 ?_)
        simp
        omega
      · have d1 : decide (1 ≤ (s.size : Int)) = false := decide_eq_false (by omega)
        go_wp2_with fail
        go_ret
        refine ⟨?_, rfl⟩
        rw [hv, decide_eq_false h1]
        rfl

set_option maxRecDepth 100000 in
set_option maxHeartbeats 1000000 in
theorem rIsName_any (s : ByteArray) (w : World) (hs : s.size ≤ 140737488355328) : Calls Try.prog 90 #[.string s] w fun e w' => e = .returned (.bool (isNameB s)) ∧ w' = w := by
  have HT : Hid ((∀ j, j < s.size → nameB j (chr s j) = true) → isNameB s = (decide (1 ≤ s.size) && decide (s.size ≤ 16))) := fun h => by
    unfold isNameB lenOK
    rw [show (List.range s.size).all (fun i => nameB i (chr s i)) = true from List.all_eq_true.2 fun i hi => h i (by simpa using hi), Bool.and_true]
  have HF : Hid (∀ k, k < s.size → nameB k (chr s k) = false → isNameB s = false) := fun k hk h => by
    unfold isNameB
    have hx : (List.range s.size).all (fun i => nameB i (chr s i)) = false := Bool.eq_false_iff.2 fun h2 => by
      have := List.all_eq_true.1 h2 k (by simpa using hk)
      rw [h] at this
      cases this
    rw [hx, Bool.and_false]
  generalize isNameB s = v at *
  go_enter Try.func90, Try.ntmps90
  go_wp2_with fail
  go_loopw [3] (fun i wr => ∃ k : Nat, k ≤ s.size ∧ i = .int .i64 k ∧ wr = w ∧ ∀ j, j < k → nameB j (chr s j) = true) (fun i _ => s.size - (intOf i).toNat)
  case atStart => exact ⟨0, Nat.zero_le _, rfl, rfl, fun j hj => by omega⟩
  case round =>
    obtain ⟨k, hk, rfl, rfl, hall⟩ := hrel
    have HA : Hid (∀ j, j < k → nameB j (chr s j) = true) := hall
    clear hall
    by_cases hlt : k < s.size
    · have hix := fun w => index_at s k hlt w
      have HK : Hid (nameB k (chr s k) = true → ∀ j, j < k + 1 → nameB j (chr s j) = true) := fun h j hj => by
        by_cases e : j = k
        · rw [e]; exact h
        · exact HA.out j (by omega)
      have HFK : Hid (nameB k (chr s k) = false → v = false) := HF.out k hlt
      generalize chr s k = c at *
      have hcl : c < 48 ∨ ((48 ≤ c ∧ c ≤ 57) ∧ 0 < k) ∨ ((48 ≤ c ∧ c ≤ 57) ∧ ¬ 0 < k) ∨ (58 ≤ c ∧ c ≤ 64) ∨ (65 ≤ c ∧ c ≤ 90) ∨ (91 ≤ c ∧ c ≤ 94) ∨ (95 ≤ c ∧ c ≤ 95) ∨ (96 ≤ c ∧ c ≤ 96) ∨ (97 ≤ c ∧ c ≤ 122) ∨ 122 < c := by omega
      rcases hcl with h | h | h | h | h | h | h | h | h | h
      all_goals
        first | (have d1 : decide (65 ≤ (c : Int)) = true := decide_eq_true (by omega)) | (have d1 : decide (65 ≤ (c : Int)) = false := decide_eq_false (by omega))
        first | (have d2 : decide ((c : Int) ≤ 90) = true := decide_eq_true (by omega)) | (have d2 : decide ((c : Int) ≤ 90) = false := decide_eq_false (by omega))
        first | (have d3 : decide (97 ≤ (c : Int)) = true := decide_eq_true (by omega)) | (have d3 : decide (97 ≤ (c : Int)) = false := decide_eq_false (by omega))
        first | (have d4 : decide ((c : Int) ≤ 122) = true := decide_eq_true (by omega)) | (have d4 : decide ((c : Int) ≤ 122) = false := decide_eq_false (by omega))
        first | (have d5 : ((c : Int) == 95) = true := beq_iff_eq.2 (by omega)) | (have d5 : ((c : Int) == 95) = false := beq_eq_false_iff_ne.2 (by omega))
        first | (have d6 : decide (48 ≤ (c : Int)) = true := decide_eq_true (by omega)) | (have d6 : decide (48 ≤ (c : Int)) = false := decide_eq_false (by omega))
        first | (have d7 : decide ((c : Int) ≤ 57) = true := decide_eq_true (by omega)) | (have d7 : decide ((c : Int) ≤ 57) = false := decide_eq_false (by omega))
        try first | (have d8 : decide (0 < k) = true := decide_eq_true (by omega)) | (have d8 : decide (0 < k) = false := decide_eq_false (by omega))
        first
        | (have hn : nameB k c = true := by (simp [nameB, letterB, digitB]; omega)
           have HK2 : Hid (∀ j, j < k + 1 → nameB j (chr s j) = true) := HK.out hn
           clear HK HFK hn h
           go_wp2_with fail
           go_roundw
           case rel => exact ⟨k + 1, by omega, by go_num, trivial, HK2.out⟩
           case measure => simp [intOf]; omega)
        | (have hn : nameB k c = false := by (simp [nameB, letterB, digitB]; omega)
           have hv := HFK.out hn
           clear HK HFK hn h
           go_wp2_with fail
           go_ret
           exact ⟨by rw [hv]; rfl, rfl⟩)
    · obtain rfl : k = s.size := by omega
      have hv := HT.out HA.out
      by_cases h1 : 1 ≤ s.size
      · have d1 : decide (1 ≤ (s.size : Int)) = true := decide_eq_true (by omega)
        go_wp2_with fail
        go_ret
        refine ⟨?_, rfl⟩
        rw [hv]
        refine congrArg (fun b => Ending.returned (Value.bool b)) (Bool.eq_iff_iff.2 ?_)
        simp
        omega
      · have d1 : decide (1 ≤ (s.size : Int)) = false := decide_eq_false (by omega)
        go_wp2_with fail
        go_ret
        refine ⟨?_, rfl⟩
        rw [hv, decide_eq_false h1]
        rfl

end Go.Proofs.Ytdlbeffkgdjihaa
