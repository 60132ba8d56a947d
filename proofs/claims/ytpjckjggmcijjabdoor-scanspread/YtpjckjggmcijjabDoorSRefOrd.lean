/-
  The document's orders, walked; One of any place.
-/
import Derived.Test.YtpjckjggmcijjabDoorSRefQuote
namespace Go.Proofs.YtpjckjggmcijjabDoor
open Go.RowKit

attribute [local go_sem] Oper.semAt_some

theorem hit_b {P : Prop} [Decidable P] {s : ByteArray} {wh : Bool} (h : (∃ o, o < 7 ∧ hitB s wh (ordAt o)) ↔ P) : Hid ((decide P = true → ∃ o, o < 7 ∧ hitB s wh (ordAt o)) ∧ (∀ o, o < 7 → hitB s wh (ordAt o) → decide P = true)) :=
  ⟨fun hd => h.2 (of_decide_eq_true hd), fun o ho hh => decide_eq_true (h.1 ⟨o, ho, hh⟩)⟩

/-- The box of One's word lies as it was laid. -/
def OX (w W : World) : Prop := W.heap[w.heap.size]? = some (.cells #[.int .i64 0, .string ⟨#[]⟩, .int .i64 0] 42 (0, 0)) ∧ w.grownBy W none
theorem OX.grown {w W W' : World} (h : OX w W) (hg : W.grownBy W' none) : OX w W' := ⟨(hg.block _ (Array.getElem?_eq_some_iff.1 h.1).1 (by simp)).trans h.1, grown_trans h.2 hg⟩
theorem OX.new (w : World) : OX w (w.alloc (.cells #[.int .i64 0, .string ⟨#[]⟩, .int .i64 0] 42)) := ⟨heap_alloc_new w _, World.grownBy_alloc _ _ none⟩
theorem OX.out {w W : World} (h : OX w W) (a b c : Value) : w.grownBy (((W.setCell ⟨w.heap.size, 0, none⟩ a).setCell ⟨w.heap.size, 1, none⟩ b).setCell ⟨w.heap.size, 2, none⟩ c) none := grown_new h.2 (grown_trans (grown_trans (grown_setCell _ _ _) (grown_setCell _ _ _)) (grown_setCell _ _ _)) (Nat.le_refl _)

set_option maxRecDepth 100000 in
set_option maxHeartbeats 2000000 in
theorem rone_order (s : ByteArray) (i : Nat) (w : World) (hi : i < s.size) (hs : s.size ≤ 10000) (v : Value) (HV : Hid (OneV s i v)) (h0 : chr s i = 37) : Calls Tryd.prog 21 #[.string s, .int .i64 i] w fun e w' => e = .returned v ∧ w.grownBy w' none := by
  have H0 : Hid (chr s i = 37) := h0
  obtain ⟨near, L, hbe⟩ : ∃ near L, bestTo ((bs s).drop i) 7 = (near, L) := ⟨_, _, rfl⟩
  have hL : 0 < L := by have := best_pos (t := (bs s).drop i) (by rw [chr_drop]; exact h0); rw [hbe] at this; exact this
  have hLs : i + L ≤ s.size := by have := (bestTo_le ((bs s).drop i) 7).1; rw [hbe, List.length_drop, bs_length] at this; simp only at this; omega
  have HBE : Hid (bestTo ((bs s).drop i) 7 = (near, L)) := hbe
  have hix : ∀ W : World, (Instr.index 9 (.string s) (.int .i64 i)).run Tryd.prog W = .ok (.int .u8 37) W := fun W => by rw [index_at s i hi W, h0]; rfl
  have hw := wrap_fits (x := (i : Int) + 1) (by omega) (by omega)
  have hl : ∀ W, Calls Tryd.prog 28 #[.int .u8 37] W fun e w' => e = .returned (.bool false) ∧ w' = W := fun W => rletter_any 37 W
  clear h0 hbe
  go_enter Tryd.func21, Tryd.ntmps21
  go_wp2_with (go_at_call 28; refine (hl _).mono ?_; rintro e w' ⟨rfl, hw⟩; subst hw)
  go_loopw [8] (fun v8 wr => ∃ k : Nat, i < k ∧ k ≤ i + L ∧ v8 = .int .i64 k ∧ OX w wr) (fun v8 _ => s.size - (intOf v8).toNat)
  case atStart => exact ⟨i + 1, by omega, by omega, by go_num, OX.new w⟩
  case round =>
    obtain ⟨k, hk1, hk2, rfl, hox⟩ := hrel
    have HOX : Hid (OX w wr) := hox
    have hwk1 := wrap_fits (x := (k : Int) + 1) (by omega) (by omega)
    clear hox hix hl hw
    have hend : ∀ (hlet : letterB (chr s k) = false), k = i + L := fun hlet => by
      have hb2 : (bestTo ((bs s).drop i) 7).2 = L := by rw [HBE.out]
      have := order_end (s := s) (i := i) (n := k - i) (by omega) (by omega) (by rw [show i + (k - i) = k by omega]; exact hlet)
      omega
    by_cases hlt : k < s.size ∧ letterB (chr s k) = true
    · obtain ⟨hlt, hlet⟩ := hlt
      have hix := fun w => index_at s k hlt w
      have hI : ∀ W, Calls Tryd.prog 28 #[.int .u8 (chr s k)] W fun e w' => e = .returned (.bool true) ∧ w' = W := fun W => by rw [← hlet]; exact rletter_any _ W
      have hiff := hit_some (s := s) (i := i) (n := k + 1 - i) (by omega) (by omega)
      rw [show i + (k + 1 - i) = k + 1 by omega, HBE.out] at hiff
      by_cases hL2 : k + 1 ≤ i + L
      · have HB : Hid (∀ W, Calls Tryd.prog 31 #[.string (s.extract i (k + 1)), .bool false] W fun e w' => e = .returned (.bool true) ∧ W.grownBy w' none) := fun W => begun_any _ false true W ⟨fun _ => hiff.2 (by simp only; omega), fun _ _ _ => rfl⟩
        clear hiff hlet hend HV H0
        generalize chr s k = c at *
        go_wp2_with (go_at_call 28; refine (hI _).mono ?_; rintro e w' ⟨rfl, hw⟩; subst hw)
        refine (HB.out _).mono ?_
        rintro e W2 ⟨rfl, hg⟩
        have HO2 : Hid (OX w W2) := HOX.out.grown hg
        clear hg HOX HB
        go_wp2_with fail
        go_roundw
        case rel => exact ⟨k + 1, by omega, by omega, by go_num, HO2.out⟩
        case measure => simp [intOf]; omega
      · have HB : Hid (∀ W, Calls Tryd.prog 31 #[.string (s.extract i (k + 1)), .bool false] W fun e w' => e = .returned (.bool false) ∧ W.grownBy w' none) := fun W => begun_any _ false false W ⟨fun h => (by cases h), fun o ho hh => by have := hiff.1 ⟨o, ho, hh⟩; simp only at this; omega⟩
        have hv := oneV_noorder HV.out H0.out HBE.out (k := k) (by omega) (.inr hlet)
        clear hiff hlet hend HV H0
        subst hv
        generalize chr s k = c at *
        go_wp2_with (go_at_call 28; refine (hI _).mono ?_; rintro e w' ⟨rfl, hw⟩; subst hw)
        refine (HB.out _).mono ?_
        rintro e W2 ⟨rfl, hg⟩
        have HO2 : Hid (OX w W2) := HOX.out.grown hg
        have hc := three_cells HO2.out.1
        obtain ⟨hc0, hc1, hc2⟩ := hc
        have hf := fun j => frozen_of_row W2 w.heap.size j _ _ HO2.out.1
        clear hg HOX HB
        go_wp2_with fail
        refine bodyPost_ret (results_one _ _ w.heap.size _ _ _ rfl rfl rfl (set3_heap HO2.out.1) rfl) rfl ?_
        exact ⟨rfl, HO2.out.out _ _ _⟩
    · have hlet : letterB (chr s k) = false := by
        by_cases hk : k < s.size
        · exact Bool.eq_false_iff.2 fun h => hlt ⟨hk, h⟩
        · rw [chr_out (by omega)]; rfl
      have hke := hend hlet
      have hiff := hit_whole HBE.out hL hLs
      rw [← hke] at hiff
      have hI : ∀ W, Calls Tryd.prog 28 #[.int .u8 (chr s k)] W fun e w' => e = .returned (.bool false) ∧ w' = W := fun W => by rw [← hlet]; exact rletter_any _ W
      have hix : k < s.size → ∀ W : World, (Instr.index 9 (.string s) (.int .i64 k)).run Tryd.prog W = .ok (.int .u8 (chr s k)) W := fun hk W => index_at s k hk W
      have hik : i ≤ k := by omega
      have hks : k ≤ s.size := by omega
      clear hend hlt
      by_cases hnear : L < near.size
      · have HB : Hid (∀ W, Calls Tryd.prog 31 #[.string (s.extract i k), .bool true] W fun e w' => e = .returned (.bool false) ∧ W.grownBy w' none) := fun W => begun_any _ true false W ⟨fun h => (by cases h), fun o ho hh => absurd hnear (hiff.1 ⟨o, ho, hh⟩)⟩
        have hv := oneV_noorder HV.out H0.out HBE.out hke (.inl hnear)
        clear hiff hlet HV H0 hnear hke hk1 hk2
        subst hv
        generalize chr s k = c at *
        by_cases hk : k < s.size
        · have hiy := hix hk
          clear hix
          go_wp2_with (go_at_call 28; refine (hI _).mono ?_; rintro e w' ⟨rfl, hw⟩; subst hw)
          refine (HB.out _).mono ?_
          rintro e W2 ⟨rfl, hg⟩
          have HO2 : Hid (OX w W2) := HOX.out.grown hg
          have hc := three_cells HO2.out.1
          obtain ⟨hc0, hc1, hc2⟩ := hc
          have hf := fun j => frozen_of_row W2 w.heap.size j _ _ HO2.out.1
          clear hg HOX HB
          go_wp2_with fail
          refine bodyPost_ret (results_one _ _ w.heap.size _ _ _ rfl rfl rfl (set3_heap HO2.out.1) rfl) rfl ?_
          exact ⟨rfl, HO2.out.out _ _ _⟩
        · clear hix hI
          go_wp2_with fail
          refine (HB.out _).mono ?_
          rintro e W2 ⟨rfl, hg⟩
          have HO2 : Hid (OX w W2) := HOX.out.grown hg
          have hc := three_cells HO2.out.1
          obtain ⟨hc0, hc1, hc2⟩ := hc
          have hf := fun j => frozen_of_row W2 w.heap.size j _ _ HO2.out.1
          clear hg HOX HB
          go_wp2_with fail
          refine bodyPost_ret (results_one _ _ w.heap.size _ _ _ rfl rfl rfl (set3_heap HO2.out.1) rfl) rfl ?_
          exact ⟨rfl, HO2.out.out _ _ _⟩
      · have HB : Hid (∀ W, Calls Tryd.prog 31 #[.string (s.extract i k), .bool true] W fun e w' => e = .returned (.bool true) ∧ W.grownBy w' none) := fun W => begun_any _ true true W ⟨fun _ => hiff.2 hnear, fun _ _ _ => rfl⟩
        have hv := oneV_order HV.out H0.out HBE.out hke hL hnear hlet
        clear hiff hlet HV H0 hnear hke hk1 hk2
        subst hv
        generalize chr s k = c at *
        by_cases hk : k < s.size
        · have hiy := hix hk
          clear hix
          go_wp2_with (go_at_call 28; refine (hI _).mono ?_; rintro e w' ⟨rfl, hw⟩; subst hw)
          refine (HB.out _).mono ?_
          rintro e W2 ⟨rfl, hg⟩
          have HO2 : Hid (OX w W2) := HOX.out.grown hg
          have hc := three_cells HO2.out.1
          obtain ⟨hc0, hc1, hc2⟩ := hc
          have hf := fun j => frozen_of_row W2 w.heap.size j _ _ HO2.out.1
          clear hg HOX HB
          go_wp2_with fail
          refine bodyPost_ret (results_one _ _ w.heap.size _ _ _ rfl rfl rfl (set3_heap HO2.out.1) rfl) rfl ?_
          exact ⟨rfl, HO2.out.out _ _ _⟩
        · clear hix hI
          go_wp2_with fail
          refine (HB.out _).mono ?_
          rintro e W2 ⟨rfl, hg⟩
          have HO2 : Hid (OX w W2) := HOX.out.grown hg
          have hc := three_cells HO2.out.1
          obtain ⟨hc0, hc1, hc2⟩ := hc
          have hf := fun j => frozen_of_row W2 w.heap.size j _ _ HO2.out.1
          clear hg HOX HB
          go_wp2_with fail
          refine bodyPost_ret (results_one _ _ w.heap.size _ _ _ rfl rfl rfl (set3_heap HO2.out.1) rfl) rfl ?_
          exact ⟨rfl, HO2.out.out _ _ _⟩

theorem rone_any (s : ByteArray) (i : Nat) (w : World) (hi : i < s.size) (hs : s.size ≤ 10000) (v : Value) (hv : OneV s i v) : Calls Tryd.prog 21 #[.string s, .int .i64 i] w fun e w' => e = .returned v ∧ w.grownBy w' none := by
  by_cases h1 : signB (chr s i) = true
  · exact rone_sign s i w hi hs v hv h1
  · by_cases h2 : startB (chr s i) = true
    · exact rone_name s i w hi hs v hv h2
    · by_cases h3 : chr s i = 39
      · exact rone_quote s i w hi hs v hv h3
      · by_cases h4 : chr s i = 37
        · exact rone_order s i w hi hs v hv h4
        · exact rone_none s i w hi hs v hv (Bool.eq_false_iff.2 h2) h3 h4 (Bool.eq_false_iff.2 h1)

end Go.Proofs.YtpjckjggmcijjabDoor
