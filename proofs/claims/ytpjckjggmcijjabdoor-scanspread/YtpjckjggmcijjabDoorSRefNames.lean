/-
  The document's own tests of names and terminals' texts.
-/
import Derived.Test.YtpjckjggmcijjabDoorSAwake
namespace Go.Proofs.YtpjckjggmcijjabDoor
open Go.RowKit

attribute [local go_sem] Oper.semAt_some

theorem rletter_any (c : Nat) (w : World) : Calls Tryd.prog 28 #[.int .u8 c] w fun e w' => e = .returned (.bool (letterB c)) ∧ w' = w := by
  go_enter Tryd.func28, Tryd.ntmps28
  go_wp2_with fail
  all_goals
    go_ret
    refine ⟨?_, rfl⟩
    refine congrArg (fun b => Ending.returned (Value.bool b)) (Bool.eq_iff_iff.2 ?_)
    simp_all [letterB]
    try omega
theorem rinner_any (c : Nat) (w : World) : Calls Tryd.prog 29 #[.int .u8 c] w fun e w' => e = .returned (.bool (innerB c)) ∧ w' = w := by
  have hI := rletter_any c w
  cases hb : letterB c with
  | true =>
    rw [hb] at hI
    have HB : Hid (letterB c = true) := hb
    clear hb
    go_enter Tryd.func29, Tryd.ntmps29
    go_wp2_with (go_at_call 28; refine hI.mono ?_; rintro e w' ⟨rfl, rfl⟩)
    all_goals
      go_ret
      refine ⟨?_, rfl⟩
      refine congrArg (fun b => Ending.returned (Value.bool b)) (Bool.eq_iff_iff.2 ?_)
      have hb := HB.out
      simp_all [innerB, startB, digitB]
      try omega
  | false =>
    rw [hb] at hI
    have HB : Hid (letterB c = false) := hb
    clear hb
    go_enter Tryd.func29, Tryd.ntmps29
    go_wp2_with (go_at_call 28; refine hI.mono ?_; rintro e w' ⟨rfl, rfl⟩)
    all_goals
      go_ret
      refine ⟨?_, rfl⟩
      refine congrArg (fun b => Ending.returned (Value.bool b)) (Bool.eq_iff_iff.2 ?_)
      have hb := HB.out
      simp_all [innerB, startB, digitB]
      try omega

theorem runL_full {p : Nat → Bool} {s : ByteArray} (h : ∀ j, j < s.size → p (chr s j) = true) : runL p (bs s) = s.size := runL_eq p (bs s) s.size (by rw [bs_length]; exact Nat.le_refl _) h (.inl (bs_length s).symm)
theorem runL_short {p : Nat → Bool} {s : ByteArray} {k : Nat} (hk : k < s.size) (h : p (chr s k) = false) : runL p (bs s) ≠ s.size := fun e => by
  have := runL_all p (bs s) k (by omega)
  have h' : p ((bs s).getD k 0) = false := h
  rw [h'] at this
  cases this

set_option maxRecDepth 100000 in
theorem rterm_any (s : ByteArray) (w : World) (hs : s.size ≤ 140737488355328) : Calls Tryd.prog 18 #[.string s] w fun e w' => e = .returned (.bool (termOK s)) ∧ w' = w := by
  have HT : Hid (runL termB (bs s) = s.size → termOK s = (decide (1 ≤ s.size) && decide (s.size ≤ 16))) := fun h => by unfold termOK; rw [decide_eq_true h]; simp
  have HF : Hid (∀ k, k < s.size → termB (chr s k) = false → termOK s = false) := fun k hk h => by unfold termOK; rw [decide_eq_false (runL_short hk h)]; simp
  generalize termOK s = v at *
  go_enter Tryd.func18, Tryd.ntmps18
  go_wp2_with fail
  go_loopw [3] (fun i wr => ∃ k : Nat, k ≤ s.size ∧ i = .int .i64 k ∧ wr = w ∧ ∀ j, j < k → termB (chr s j) = true) (fun i _ => s.size - (intOf i).toNat)
  case atStart => exact ⟨0, Nat.zero_le _, rfl, rfl, fun j hj => by omega⟩
  case round =>
    obtain ⟨k, hk, rfl, rfl, hall⟩ := hrel
    have HA : Hid (∀ j, j < k → termB (chr s j) = true) := hall
    clear hall
    by_cases hlt : k < s.size
    · have hix := fun w => index_at s k hlt w
      have HK : Hid (termB (chr s k) = true → ∀ j, j < k + 1 → termB (chr s j) = true) := fun h j hj => by
        by_cases e : j = k
        · rw [e]; exact h
        · exact HA.out j (by omega)
      have HFK : Hid (termB (chr s k) = false → v = false) := HF.out k hlt
      generalize chr s k = c at *
      by_cases h1 : c < 32
      · have d1 : decide ((c : Int) < 32) = true := decide_eq_true (by omega)
        have hv := HFK.out (by simp [termB]; omega)
        go_wp2_with fail
        go_ret
        exact ⟨by rw [hv]; rfl, rfl⟩
      · have d1 : decide ((c : Int) < 32) = false := decide_eq_false (by omega)
        by_cases h2 : 126 < c
        · have d2 : decide (126 < (c : Int)) = true := decide_eq_true (by omega)
          have hv := HFK.out (by simp [termB]; omega)
          go_wp2_with fail
          go_ret
          exact ⟨by rw [hv]; rfl, rfl⟩
        · have d2 : decide (126 < (c : Int)) = false := decide_eq_false (by omega)
          by_cases h3 : c = 39
          · have d3 : ((c : Int) == 39) = true := beq_iff_eq.2 (by omega)
            have hv := HFK.out (by simp [termB, quoteB, h3])
            clear h3
            go_wp2_with fail
            go_ret
            exact ⟨by rw [hv]; rfl, rfl⟩
          · have d3 : ((c : Int) == 39) = false := beq_eq_false_iff_ne.2 (by omega)
            have HK2 : Hid (∀ j, j < k + 1 → termB (chr s j) = true) := HK.out (by simp [termB, quoteB, h3]; omega)
            clear HK HFK h3
            go_wp2_with fail
            go_roundw
            case rel => exact ⟨k + 1, by omega, by go_num, trivial, HK2.out⟩
            case measure => simp [intOf]; omega
    · obtain rfl : k = s.size := by omega
      have hv := HT.out (runL_full HA.out)
      by_cases h1 : 1 ≤ s.size
      · have d1 : decide (1 ≤ (s.size : Int)) = true := decide_eq_true (by omega)
        go_wp2_with fail
        go_ret
        refine ⟨?_, rfl⟩
        rw [hv]
        refine congrArg (fun b => Ending.returned (Value.bool b)) (Bool.eq_iff_iff.2 ?_)
        simp
        omega
      · have d1 : decide (1 ≤ (s.size : Int)) = false := decide_eq_false (by omega)
        go_wp2_with fail
        go_ret
        refine ⟨?_, rfl⟩
        rw [hv, decide_eq_false h1]
        rfl

set_option maxRecDepth 100000 in
theorem rname_any (s : ByteArray) (w : World) : Calls Tryd.prog 17 #[.string s] w fun e w' => e = .returned (.bool (nameOK s)) ∧ w' = w := by
  have hem := isEmpty_iff s
  by_cases h0 : s.size = 0
  · have hd : s.toList.isEmpty = true := by rw [hem]; simp [h0]
    have e : nameOK s = false := by unfold nameOK; rw [decide_eq_false (by omega)]; rfl
    rw [e]
    clear e h0 hem
    go_enter Tryd.func17, Tryd.ntmps17
    go_wp2_with fail
    go_ret
    exact ⟨rfl, rfl⟩
  · have hd : s.toList.isEmpty = false := by rw [hem]; simp [h0]
    clear hem
    by_cases h1 : 16 < s.size
    · have d1 : decide (16 < (s.size : Int)) = true := decide_eq_true (by omega)
      have e : nameOK s = false := by unfold nameOK; rw [decide_eq_false (show ¬ s.size ≤ 16 by omega)]; simp
      rw [e]
      clear e h0
      go_enter Tryd.func17, Tryd.ntmps17
      go_wp2_with fail
      go_ret
      exact ⟨rfl, rfl⟩
    · have d1 : decide (16 < (s.size : Int)) = false := decide_eq_false (by omega)
      have hix0 : ∀ w, (Instr.index 9 (.string s) (.int .i64 0)).run Tryd.prog w = .ok (.int .u8 (chr s 0)) w := fun w => index_at s 0 (by omega) w
      have hL := rletter_any (chr s 0) w
      have HST : Hid (startB (chr s 0) = (letterB (chr s 0) || decide (chr s 0 = 95))) := rfl
      have HT : Hid (startB (chr s 0) = true → runL innerB (bs s) = s.size → nameOK s = true) := fun h2 h => by unfold nameOK; rw [h2, decide_eq_true h, decide_eq_true (show 1 ≤ s.size by omega), decide_eq_true (show s.size ≤ 16 by omega)]; rfl
      have HF0 : Hid (startB (chr s 0) = false → nameOK s = false) := fun h => by unfold nameOK; rw [h]; simp
      have HF : Hid (∀ k, k < s.size → innerB (chr s k) = false → nameOK s = false) := fun k hk h => by unfold nameOK; rw [decide_eq_false (runL_short hk h)]; simp
      generalize nameOK s = v at *
      generalize hc0 : chr s 0 = c0 at *
      by_cases hst : startB c0 = true
      · have HT2 := HT.out hst
        have HT3 : Hid (runL innerB (bs s) = s.size → v = true) := HT2
        have key : letterB c0 = true ∨ (letterB c0 = false ∧ ((c0 : Int) != 95) = false) := by
          have := HST.out
          rw [hst] at this
          cases hl : letterB c0 with
          | true => exact .inl rfl
          | false => rw [hl] at this; simp at this; exact .inr ⟨rfl, by simp; omega⟩
        clear HT HT2 HF0 HST hst hc0
        have main : ∀ (b : Bool), letterB c0 = b → (b = false → ((c0 : Int) != 95) = false) → Calls Tryd.prog 17 #[.string s] w fun e w' => e = .returned (.bool v) ∧ w' = w := by
          intro b hb hb2
          rw [hb] at hL
          clear hb key
          cases b with
          | true =>
            clear hb2
            go_enter Tryd.func17, Tryd.ntmps17
            go_wp2_with (go_at_call 28; refine hL.mono ?_; rintro e w' ⟨rfl, rfl⟩)
            go_loopw [3] (fun i wr => ∃ k : Nat, k ≤ s.size ∧ i = .int .i64 k ∧ wr = w' ∧ ∀ j, j < k → innerB (chr s j) = true) (fun i _ => s.size - (intOf i).toNat)
            case atStart => exact ⟨0, Nat.zero_le _, rfl, rfl, fun j hj => by omega⟩
            case round =>
              obtain ⟨k, hk, rfl, rfl, hall⟩ := hrel
              have HA : Hid (∀ j, j < k → innerB (chr s j) = true) := hall
              clear hall
              by_cases hlt : k < s.size
              · have hix := fun w => index_at s k hlt w
                have hI := rinner_any (chr s k) wr
                have HK : Hid (innerB (chr s k) = true → ∀ j, j < k + 1 → innerB (chr s j) = true) := fun h j hj => by
                  by_cases e : j = k
                  · rw [e]; exact h
                  · exact HA.out j (by omega)
                have HFK : Hid (innerB (chr s k) = false → v = false) := HF.out k hlt
                generalize chr s k = c at *
                cases hic : innerB c with
                | true =>
                  rw [hic] at hI
                  have HK2 : Hid (∀ j, j < k + 1 → innerB (chr s j) = true) := HK.out hic
                  clear HK HFK hic
                  go_wp2_with (go_at_call 29; refine hI.mono ?_; rintro e w' ⟨rfl, rfl⟩)
                  go_roundw
                  case rel => exact ⟨k + 1, by omega, by go_num, trivial, HK2.out⟩
                  case measure => simp [intOf]; omega
                | false =>
                  rw [hic] at hI
                  have hv := HFK.out hic
                  clear HK HFK hic
                  go_wp2_with (go_at_call 29; refine hI.mono ?_; rintro e w' ⟨rfl, rfl⟩)
                  go_ret
                  exact ⟨by rw [hv]; rfl, rfl⟩
              · obtain rfl : k = s.size := by omega
                have hv := HT3.out (runL_full HA.out)
                go_wp2_with fail
                go_ret
                exact ⟨by rw [hv]; rfl, rfl⟩
          | false =>
            have d95 := hb2 rfl
            clear hb2
            go_enter Tryd.func17, Tryd.ntmps17
            go_wp2_with (go_at_call 28; refine hL.mono ?_; rintro e w' ⟨rfl, rfl⟩)
            go_loopw [3] (fun i wr => ∃ k : Nat, k ≤ s.size ∧ i = .int .i64 k ∧ wr = w' ∧ ∀ j, j < k → innerB (chr s j) = true) (fun i _ => s.size - (intOf i).toNat)
            case atStart => exact ⟨0, Nat.zero_le _, rfl, rfl, fun j hj => by omega⟩
            case round =>
              obtain ⟨k, hk, rfl, rfl, hall⟩ := hrel
              have HA : Hid (∀ j, j < k → innerB (chr s j) = true) := hall
              clear hall
              by_cases hlt : k < s.size
              · have hix := fun w => index_at s k hlt w
                have hI := rinner_any (chr s k) wr
                have HK : Hid (innerB (chr s k) = true → ∀ j, j < k + 1 → innerB (chr s j) = true) := fun h j hj => by
                  by_cases e : j = k
                  · rw [e]; exact h
                  · exact HA.out j (by omega)
                have HFK : Hid (innerB (chr s k) = false → v = false) := HF.out k hlt
                generalize chr s k = c at *
                cases hic : innerB c with
                | true =>
                  rw [hic] at hI
                  have HK2 : Hid (∀ j, j < k + 1 → innerB (chr s j) = true) := HK.out hic
                  clear HK HFK hic
                  go_wp2_with (go_at_call 29; refine hI.mono ?_; rintro e w' ⟨rfl, rfl⟩)
                  go_roundw
                  case rel => exact ⟨k + 1, by omega, by go_num, trivial, HK2.out⟩
                  case measure => simp [intOf]; omega
                | false =>
                  rw [hic] at hI
                  have hv := HFK.out hic
                  clear HK HFK hic
                  go_wp2_with (go_at_call 29; refine hI.mono ?_; rintro e w' ⟨rfl, rfl⟩)
                  go_ret
                  exact ⟨by rw [hv]; rfl, rfl⟩
              · obtain rfl : k = s.size := by omega
                have hv := HT3.out (runL_full HA.out)
                go_wp2_with fail
                go_ret
                exact ⟨by rw [hv]; rfl, rfl⟩
        rcases key with h | ⟨h, h'⟩
        · exact main true h (fun e => by cases e)
        · exact main false h (fun _ => h')
      · have hv := HF0.out (by simpa using hst)
        have hl : letterB c0 = false := by
          cases hl : letterB c0 with
          | true => exact absurd (by rw [HST.out, hl]; rfl) hst
          | false => rfl
        have d95 : ((c0 : Int) != 95) = true := by
          have := HST.out
          rw [hl] at this
          have h2 : startB c0 = false := by simpa using hst
          rw [h2] at this
          simp at this
          simp
          omega
        rw [hl] at hL
        clear HT HF0 HST hst hc0 hl HF
        go_enter Tryd.func17, Tryd.ntmps17
        go_wp2_with (go_at_call 28; refine hL.mono ?_; rintro e w' ⟨rfl, rfl⟩)
        go_ret
        exact ⟨by rw [hv]; rfl, rfl⟩

end Go.Proofs.YtpjckjggmcijjabDoor
