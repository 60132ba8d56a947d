/-
  The document's quoted words, walked.
-/
import Derived.Test.YtpjckjggmcijjabDoorSRefOne
namespace Go.Proofs.YtpjckjggmcijjabDoor
open Go.RowKit

attribute [local go_sem] Oper.semAt_some

set_option maxRecDepth 100000 in
set_option maxHeartbeats 1000000 in
theorem rone_quote (s : ByteArray) (i : Nat) (w : World) (hi : i < s.size) (hs : s.size ≤ 10000) (v : Value) (HV : Hid (OneV s i v)) (h0 : chr s i = 39) : Calls Tryd.prog 21 #[.string s, .int .i64 i] w fun e w' => e = .returned v ∧ w.grownBy w' none := by
  have H0 : Hid (chr s i = 39) := h0
  have hix : ∀ W : World, (Instr.index 9 (.string s) (.int .i64 i)).run Tryd.prog W = .ok (.int .u8 39) W := fun W => by rw [index_at s i hi W, h0]; rfl
  have hw := wrap_fits (x := (i : Int) + 1) (by omega) (by omega)
  have hl : ∀ W, Calls Tryd.prog 28 #[.int .u8 39] W fun e w' => e = .returned (.bool false) ∧ w' = W := fun W => rletter_any 39 W
  clear h0
  go_enter Tryd.func21, Tryd.ntmps21
  go_wp2_with (go_at_call 28; refine (hl _).mono ?_; rintro e w' ⟨rfl, hw⟩; subst hw)
  go_loopw [8] (fun v8 wr => ∃ k : Nat, i + 1 ≤ k ∧ k ≤ i + 1 + 16 ∧ k ≤ s.size ∧ v8 = .int .i64 k ∧ wr = w.alloc (.cells #[.int .i64 0, .string ⟨#[]⟩, .int .i64 0] 42) ∧ ∀ j, i + 1 ≤ j → j < k → termB (chr s j) = true) (fun v8 _ => s.size - (intOf v8).toNat)
  case atStart => exact ⟨i + 1, by omega, by omega, by omega, by go_num, rfl, fun j hj1 hj2 => by omega⟩
  case round =>
    obtain ⟨k, hk1, hk2, hk3, rfl, rfl, hall⟩ := hrel
    have HALL : Hid (∀ j, i + 1 ≤ j → j < k → termB (chr s j) = true) := hall
    have hwk := wrap_fits (x := (k : Int) - (i : Int)) (by omega) (by omega)
    clear hall hix hl
    by_cases hlt : k < s.size
    · have hix := fun w => index_at s k hlt w
      have hkk : decide ((s.size : Int) ≤ (k : Int)) = false := decide_eq_false (by omega)
      have hkk' : decide (s.size ≤ k) = false := decide_eq_false (by omega)
      cases hin : termB (chr s k) with
      | true =>
        have ht : 32 ≤ chr s k ∧ chr s k ≤ 126 ∧ chr s k ≠ 39 := by simpa [termB, quoteB, and_assoc] using hin
        by_cases h16 : k ≤ i + 16
        · have hd : decide ((k : Int) - (i : Int) ≤ 16) = true := decide_eq_true (by omega)
          have HN : Hid (∀ j, i + 1 ≤ j → j < k + 1 → termB (chr s j) = true) := fun j h1 h2 => by
            by_cases e : j = k
            · rw [e]; exact hin
            · exact HALL.out j h1 (by omega)
          clear hin HALL
          generalize chr s k = c at *
          have b1 : ((c : Int) != 39) = true := by simp; omega
          have b2 : decide (32 ≤ (c : Int)) = true := decide_eq_true (by omega)
          have b3 : decide ((c : Int) ≤ 126) = true := decide_eq_true (by omega)
          clear ht
          go_wp2_with fail
          go_roundw
          case rel => exact ⟨k + 1, by omega, by omega, by omega, by go_num, trivial, HN.out⟩
          case measure => simp [intOf]; omega
        · have hd : decide ((k : Int) - (i : Int) ≤ 16) = false := decide_eq_false (by omega)
          have hv := oneV_noquote HV.out H0.out hk1 hk2 hk3 HALL.out (.inl (by omega)) (.inr ht.2.2)
          clear hin HALL HV H0
          subst hv
          generalize chr s k = c at *
          have b1 : ((c : Int) != 39) = true := by simp; omega
          have b2 : decide (32 ≤ (c : Int)) = true := decide_eq_true (by omega)
          have b3 : decide ((c : Int) ≤ 126) = true := decide_eq_true (by omega)
          clear ht
          go_wp2_with fail
          refine bodyPost_ret (results_one _ _ w.heap.size _ _ _ rfl rfl rfl (heap_alloc_new w _) rfl) rfl ?_
          exact ⟨rfl, World.grownBy_alloc _ _ none⟩
      | false =>
        by_cases h39 : chr s k = 39
        · by_cases hk : k = i + 1
          · have hv := oneV_noquote HV.out H0.out hk1 hk2 hk3 HALL.out (.inr hin) (.inl hk)
            have hd : ((k : Int) == (i : Int) + 1) = true := by simp; omega
            rw [h39] at hix
            clear hin HALL HV H0 h39 hk
            subst hv
            go_wp2_with fail
            refine bodyPost_ret (results_one _ _ w.heap.size _ _ _ rfl rfl rfl (heap_alloc_new w _) rfl) rfl ?_
            exact ⟨rfl, World.grownBy_alloc _ _ none⟩
          · have hv := oneV_quote HV.out H0.out (by omega) hk2 hk3 HALL.out h39
            have hd : ((k : Int) == (i : Int) + 1) = false := by simp; omega
            have hwk1 := wrap_fits (x := (k : Int) + 1) (by omega) (by omega)
            rw [h39] at hix
            clear hin HALL HV H0 h39 hk
            subst hv
            go_wp2_with fail
            refine bodyPost_ret (results_one _ _ w.heap.size _ _ _ rfl rfl rfl (heap_alloc_new w _) rfl) rfl ?_
            exact ⟨rfl, World.grownBy_alloc _ _ none⟩
        · have hv := oneV_noquote HV.out H0.out hk1 hk2 hk3 HALL.out (.inr hin) (.inr h39)
          have ht : chr s k < 32 ∨ 126 < chr s k := by
            apply Classical.byContradiction
            intro hn
            have : termB (chr s k) = true := by simp [termB, quoteB]; omega
            rw [hin] at this
            cases this
          clear hin HALL HV H0
          subst hv
          generalize chr s k = c at *
          have b1 : ((c : Int) != 39) = true := by simp; omega
          by_cases h32 : 32 ≤ c
          · have b2 : decide (32 ≤ (c : Int)) = true := decide_eq_true (by omega)
            have b3 : decide ((c : Int) ≤ 126) = false := decide_eq_false (by omega)
            clear ht h32 h39
            go_wp2_with fail
            refine bodyPost_ret (results_one _ _ w.heap.size _ _ _ rfl rfl rfl (heap_alloc_new w _) rfl) rfl ?_
            exact ⟨rfl, World.grownBy_alloc _ _ none⟩
          · have b2 : decide (32 ≤ (c : Int)) = false := decide_eq_false (by omega)
            clear ht h32 h39
            go_wp2_with fail
            refine bodyPost_ret (results_one _ _ w.heap.size _ _ _ rfl rfl rfl (heap_alloc_new w _) rfl) rfl ?_
            exact ⟨rfl, World.grownBy_alloc _ _ none⟩
    · have hz : chr s k = 0 := chr_out (by omega)
      have hv := oneV_noquote HV.out H0.out hk1 hk2 hk3 HALL.out (.inr (by rw [hz]; rfl)) (.inr (by rw [hz]; decide))
      have hkk : decide ((s.size : Int) ≤ (k : Int)) = true := decide_eq_true (by omega)
      have hkk' : decide (s.size ≤ k) = true := decide_eq_true (by omega)
      clear HV H0 HALL hz
      subst hv
      go_wp2_with fail
      refine bodyPost_ret (results_one _ _ w.heap.size _ _ _ rfl rfl rfl (heap_alloc_new w _) rfl) rfl ?_
      exact ⟨rfl, World.grownBy_alloc _ _ none⟩

end Go.Proofs.YtpjckjggmcijjabDoor
