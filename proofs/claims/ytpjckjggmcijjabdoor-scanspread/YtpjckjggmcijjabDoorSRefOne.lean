/-
  The document's word at a place, walked: One.
-/
import Derived.Test.YtpjckjggmcijjabDoorSRefMath
import Derived.Deep.CutRange
namespace Go.Proofs.YtpjckjggmcijjabDoor
open Go.RowKit

attribute [local go_sem] Oper.semAt_some

theorem infoRWord : (Tryd.prog.info? 42).map (·.size) = some 3 := by kernel_rfl
theorem results_one (tmps : Array Value) (w : World) (g : Nat) (x y : Value) (cs : Array Value) (h4 : tmps.getD 4 undef = .pointer (some ⟨g, 0, none⟩)) (h5 : tmps.getD 5 undef = x) (h6 : tmps.getD 6 undef = y) (hg : w.heap[g]? = some (.cells cs 42 (0, 0))) (hs : cs.size = 3) :
    (results Tryd.f21 tmps).run Tryd.prog w = .ok (.tuple #[.agg cs, x, y]) w := by
  have h4' : tmps[4]?.getD undef = .pointer (some ⟨g, 0, none⟩) := by simpa using h4
  have h5' : tmps[5]?.getD undef = x := by simpa using h5
  have h6' : tmps[6]?.getD undef = y := by simpa using h6
  have hl := run_loadVar_row (P := Tryd.prog) w g 42 42 cs (0, 0) _ hg Tryd.underlying42 rfl (by rw [infoRWord, hs])
  simp [results, Tryd.results21, h4', h5', h6', asAddr, hl]

/-- What One answers. -/
def OneV (s : ByteArray) (i : Nat) (v : Value) : Prop := (∀ x, one s i = .inl x → v = .tuple #[.agg #[.int .i64 x.1, .string x.2.1, .int .i64 i], .int .i64 x.2.2, .int .i64 (-1)]) ∧ (∀ p, one s i = .inr p → v = .tuple #[.agg #[.int .i64 0, .string ⟨#[]⟩, .int .i64 0], .int .i64 0, .int .i64 p])

theorem oneV_sign {s : ByteArray} {i : Nat} {v : Value} (h : OneV s i v) (hs : signB (chr s i) = true) : v = .tuple #[.agg #[.int .i64 4, .string (s.extract i (i + 1)), .int .i64 i], .int .i64 ((i + 1 : Nat) : Int), .int .i64 (-1)] := by
  have h' : chr s i = 58 ∨ chr s i = 124 ∨ chr s i = 59 := by simpa [signB, or_assoc] using hs
  refine h.1 (4, s.extract i (i + 1), i + 1) ?_
  unfold one
  rw [if_neg (by rcases h' with h | h | h <;> rw [h] <;> decide), if_neg (by omega), if_neg (by omega), if_pos hs]
theorem oneV_none {s : ByteArray} {i : Nat} {v : Value} (h : OneV s i v) (h1 : startB (chr s i) = false) (h2 : chr s i ≠ 39) (h3 : chr s i ≠ 37) (h4 : signB (chr s i) = false) : v = .tuple #[.agg #[.int .i64 0, .string ⟨#[]⟩, .int .i64 0], .int .i64 0, .int .i64 i] := by
  refine h.2 i ?_
  unfold one
  rw [if_neg (by rw [h1]; simp), if_neg h2, if_neg h3, if_neg (by rw [h4]; simp)]

set_option maxRecDepth 100000 in
set_option maxHeartbeats 1000000 in
theorem rone_sign (s : ByteArray) (i : Nat) (w : World) (hi : i < s.size) (hs : s.size ≤ 10000) (v : Value) (HV : Hid (OneV s i v)) (h : signB (chr s i) = true) : Calls Tryd.prog 21 #[.string s, .int .i64 i] w fun e w' => e = .returned v ∧ w.grownBy w' none := by
  obtain rfl := oneV_sign HV.out h
  have hix := fun w => index_at s i hi w
  have hw := wrap_fits (x := (i : Int) + 1) (by omega) (by omega)
  have h' : chr s i = 58 ∨ chr s i = 124 ∨ chr s i = 59 := by simpa [signB, or_assoc] using h
  clear HV h
  generalize chr s i = c at *
  rcases h' with rfl | rfl | rfl
  all_goals
    go_enter Tryd.func21, Tryd.ntmps21
    go_wp2_with fail
    refine bodyPost_ret (results_one _ _ w.heap.size _ _ _ rfl rfl rfl (heap_alloc_new w _) rfl) rfl ?_
    exact ⟨rfl, World.grownBy_alloc _ _ none⟩

theorem minrun_eq {p : Nat → Bool} {s : ByteArray} {i k m : Nat} (hik : i ≤ k) (hn : k ≤ i + m) (hs : k ≤ s.size) (hall : ∀ j, i ≤ j → j < k → p (chr s j) = true) (hb : k = i + m ∨ p (chr s k) = false) : min (runL p ((bs s).drop i)) m = k - i := by
  have hge := runL_ge p ((bs s).drop i) (k - i) (by rw [List.length_drop, bs_length]; omega) (fun j hj => by rw [drop_getD]; exact hall (i + j) (by omega) (by omega))
  rcases hb with hb | hb
  · omega
  · have : ¬ k - i < runL p ((bs s).drop i) := fun hlt => by
      have := runL_all p ((bs s).drop i) (k - i) hlt
      rw [drop_getD, show i + (k - i) = k by omega] at this
      exact absurd (this.symm.trans hb) (by simp)
    omega
theorem oneV_name {s : ByteArray} {i k : Nat} {v : Value} (h : OneV s i v) (h0 : startB (chr s i) = true) (h1 : i ≤ k) (h2 : k ≤ i + 16) (h3 : k ≤ s.size) (hall : ∀ j, i ≤ j → j < k → innerB (chr s j) = true) (hb : innerB (chr s k) = false) : v = .tuple #[.agg #[.int .i64 1, .string (s.extract i k), .int .i64 i], .int .i64 k, .int .i64 (-1)] := by
  have hk : nmK s i = k - i := minrun_eq h1 h2 h3 hall (.inr hb)
  refine h.1 (1, s.extract i k, k) ?_
  unfold one
  rw [if_pos h0, hk, show i + (k - i) = k by omega, if_neg (by rw [hb]; simp)]
theorem oneV_long {s : ByteArray} {i k : Nat} {v : Value} (h : OneV s i v) (h0 : startB (chr s i) = true) (h2 : k = i + 16) (h3 : k ≤ s.size) (hall : ∀ j, i ≤ j → j < k → innerB (chr s j) = true) (hb : innerB (chr s k) = true) : v = .tuple #[.agg #[.int .i64 0, .string ⟨#[]⟩, .int .i64 0], .int .i64 0, .int .i64 k] := by
  have hk : nmK s i = k - i := minrun_eq (by omega) (by omega) h3 hall (.inl h2)
  refine h.2 k ?_
  unfold one
  rw [if_pos h0, hk, show i + (k - i) = k by omega, if_pos hb]
theorem oneV_quote {s : ByteArray} {i k : Nat} {v : Value} (h : OneV s i v) (h0 : chr s i = 39) (h1 : i + 1 < k) (h2 : k ≤ i + 1 + 16) (h3 : k ≤ s.size) (hall : ∀ j, i + 1 ≤ j → j < k → termB (chr s j) = true) (hb : chr s k = 39) : v = .tuple #[.agg #[.int .i64 2, .string (s.extract (i + 1) k), .int .i64 i], .int .i64 ((k + 1 : Nat) : Int), .int .i64 (-1)] := by
  have hk : qtK s (i + 1) = k - (i + 1) := minrun_eq (by omega) h2 h3 hall (.inr (by rw [hb]; rfl))
  refine h.1 (2, s.extract (i + 1) k, k + 1) ?_
  unfold one
  rw [h0, if_neg (by decide), if_pos rfl, hk, show i + 1 + (k - (i + 1)) = k by omega, if_neg (by rw [hb]; omega)]
theorem oneV_noquote {s : ByteArray} {i k : Nat} {v : Value} (h : OneV s i v) (h0 : chr s i = 39) (h1 : i + 1 ≤ k) (h2 : k ≤ i + 1 + 16) (h3 : k ≤ s.size) (hall : ∀ j, i + 1 ≤ j → j < k → termB (chr s j) = true) (hst : k = i + 1 + 16 ∨ termB (chr s k) = false) (hb : k = i + 1 ∨ chr s k ≠ 39) : v = .tuple #[.agg #[.int .i64 0, .string ⟨#[]⟩, .int .i64 0], .int .i64 0, .int .i64 k] := by
  have hk : qtK s (i + 1) = k - (i + 1) := minrun_eq h1 h2 h3 hall hst
  refine h.2 k ?_
  unfold one
  rw [h0, if_neg (by decide), if_pos rfl, hk, show i + 1 + (k - (i + 1)) = k by omega, if_pos (by rcases hb with hb | hb; exact .inl (by omega); exact .inr hb)]
theorem oneV_order {s : ByteArray} {i k L : Nat} {near : ByteArray} {v : Value} (h : OneV s i v) (h0 : chr s i = 37) (hbe : bestTo ((bs s).drop i) 7 = (near, L)) (hk : k = i + L) (hL : 0 < L) (h1 : ¬ L < near.size) (h2 : letterB (chr s k) = false) : v = .tuple #[.agg #[.int .i64 3, .string (s.extract i k), .int .i64 i], .int .i64 k, .int .i64 (-1)] := by
  subst hk
  refine h.1 (3, s.extract i (i + L), i + L) ?_
  unfold one
  rw [h0, if_neg (by decide), if_neg (by decide), if_pos rfl, hbe]
  simp only
  rw [if_neg (by rw [h2, decide_eq_false h1]; simp), near_text hbe hL h1]
theorem oneV_noorder {s : ByteArray} {i k L : Nat} {near : ByteArray} {v : Value} (h : OneV s i v) (h0 : chr s i = 37) (hbe : bestTo ((bs s).drop i) 7 = (near, L)) (hk : k = i + L) (h1 : L < near.size ∨ letterB (chr s k) = true) : v = .tuple #[.agg #[.int .i64 0, .string ⟨#[]⟩, .int .i64 0], .int .i64 0, .int .i64 k] := by
  subst hk
  refine h.2 (i + L) ?_
  unfold one
  rw [h0, if_neg (by decide), if_neg (by decide), if_pos rfl, hbe]
  simp only
  rw [if_pos (by rcases h1 with h1 | h1; rw [decide_eq_true h1]; rfl; rw [h1]; simp)]

set_option maxRecDepth 100000 in
set_option maxHeartbeats 1000000 in
theorem rone_none (s : ByteArray) (i : Nat) (w : World) (hi : i < s.size) (hs : s.size ≤ 10000) (v : Value) (HV : Hid (OneV s i v)) (h1 : startB (chr s i) = false) (h2 : chr s i ≠ 39) (h3 : chr s i ≠ 37) (h4 : signB (chr s i) = false) : Calls Tryd.prog 21 #[.string s, .int .i64 i] w fun e w' => e = .returned v ∧ w.grownBy w' none := by
  obtain rfl := oneV_none HV.out h1 h2 h3 h4
  have hix := fun w => index_at s i hi w
  have hw := wrap_fits (x := (i : Int) + 1) (by omega) (by omega)
  clear HV
  generalize chr s i = c at *
  have h' : c ≠ 58 ∧ c ≠ 124 ∧ c ≠ 59 := by simpa [signB, and_assoc] using h4
  have h'' : letterB c = false ∧ c ≠ 95 := by simpa [startB] using h1
  have b1 : ((c : Int) == 58) = false := by simp; omega
  have b2 : ((c : Int) == 124) = false := by simp; omega
  have b3 : ((c : Int) == 59) = false := by simp; omega
  have b4 : ((c : Int) == 95) = false := by simp; omega
  have b5 : ((c : Int) == 39) = false := by simp; omega
  have b6 : ((c : Int) == 37) = false := by simp; omega
  have hl : ∀ W, Calls Tryd.prog 28 #[.int .u8 c] W fun e w' => e = .returned (.bool false) ∧ w' = W := fun W => by rw [← h''.1]; exact rletter_any c W
  clear h' h'' h1 h2 h3 h4
  go_enter Tryd.func21, Tryd.ntmps21
  go_wp2_with (go_at_call 28; refine (hl _).mono ?_; rintro e w' ⟨rfl, hw⟩; subst hw)
  refine bodyPost_ret (results_one _ _ w.heap.size _ _ _ rfl rfl rfl (heap_alloc_new w _) rfl) rfl ?_
  exact ⟨rfl, World.grownBy_alloc _ _ none⟩

set_option maxRecDepth 100000 in
set_option maxHeartbeats 1000000 in
theorem rone_name (s : ByteArray) (i : Nat) (w : World) (hi : i < s.size) (hs : s.size ≤ 10000) (v : Value) (HV : Hid (OneV s i v)) (h1 : startB (chr s i) = true) : Calls Tryd.prog 21 #[.string s, .int .i64 i] w fun e w' => e = .returned v ∧ w.grownBy w' none := by
  have HST : Hid (startB (chr s i) = true) := h1
  have hix := fun w => index_at s i hi w
  have hw := wrap_fits (x := (i : Int) + 1) (by omega) (by omega)
  obtain ⟨c, hc⟩ : ∃ c, chr s i = c := ⟨_, rfl⟩
  rw [hc] at hix h1
  clear hc
  have h' : letterB c = true ∨ c = 95 := by simpa [startB] using h1
  have h'' : (65 ≤ c ∧ c ≤ 90) ∨ (97 ≤ c ∧ c ≤ 122) ∨ c = 95 := by simpa [startB, letterB, or_assoc] using h1
  have b1 : ((c : Int) == 58) = false := by simp; omega
  have b2 : ((c : Int) == 124) = false := by simp; omega
  have b3 : ((c : Int) == 59) = false := by simp; omega
  clear h'' h1
  go_enter Tryd.func21, Tryd.ntmps21
  go_upto_region 5 with fail
  go_cut [32] from 33 to 38 (fun v32 wx => v32 = .bool true ∧ wx = w.alloc (.cells #[.int .i64 0, .string ⟨#[]⟩, .int .i64 0] 42))
  case first =>
    have hl0 : ∀ W, Calls Tryd.prog 28 #[.int .u8 c] W fun e w' => e = .returned (.bool (letterB c)) ∧ w' = W := fun W => rletter_any c W
    cases hlc : letterB c with
    | true =>
      rw [hlc] at hl0
      clear h'
      go_wp2_with (go_at_call 28; refine (hl0 _).mono ?_; rintro e w' ⟨rfl, hw⟩; subst hw)
      go_meet
      exact ⟨rfl, rfl⟩
    | false =>
      rw [hlc] at hl0
      have b4 : ((c : Int) == 95) = true := by rcases h' with h | h; rw [hlc] at h; cases h; simp; omega
      clear h'
      go_wp2_with (go_at_call 28; refine (hl0 _).mono ?_; rintro e w' ⟨rfl, hw⟩; subst hw)
      go_meet
      exact ⟨rfl, rfl⟩
  case rest =>
    obtain ⟨hv32, hwc⟩ := hcut
    subst hwc
    rw [hv32]
    clear hv32 h'
    go_wp2_with fail
    go_loopw [8] (fun v8 wr => ∃ k : Nat, i < k ∧ k ≤ i + 16 ∧ k ≤ s.size ∧ v8 = .int .i64 k ∧ wr = w.alloc (.cells #[.int .i64 0, .string ⟨#[]⟩, .int .i64 0] 42) ∧ ∀ j, i ≤ j → j < k → innerB (chr s j) = true) (fun v8 _ => s.size - (intOf v8).toNat)
    case atStart => exact ⟨i + 1, by omega, by omega, by omega, by go_num, rfl, fun j hj1 hj2 => by rw [show j = i by omega]; exact start_inner HST.out⟩
    case round =>
      obtain ⟨k, hk1, hk2, hk3, rfl, rfl, hall⟩ := hrel
      have HALL : Hid (∀ j, i ≤ j → j < k → innerB (chr s j) = true) := hall
      have hwk := wrap_fits (x := (k : Int) - (i : Int)) (by omega) (by omega)
      clear hall hix b1 b2 b3 hw
      by_cases hlt : k < s.size
      · have hix := fun w => index_at s k hlt w
        cases hin : innerB (chr s k) with
        | true =>
          have hI : ∀ W, Calls Tryd.prog 29 #[.int .u8 (chr s k)] W fun e w' => e = .returned (.bool true) ∧ w' = W := fun W => by rw [← hin]; exact rinner_any _ W
          by_cases h16 : k = i + 16
          · have hv := oneV_long HV.out HST.out h16 hk3 HALL.out hin
            have hd : (((k : Int) - (i : Int)) == 16) = true := by simp; omega
            clear hin h16 HV
            subst hv
            generalize chr s k = c' at *
            go_wp2_with (go_at_call 29; refine (hI _).mono ?_; rintro e w' ⟨rfl, hw⟩; subst hw)
            refine bodyPost_ret (results_one _ _ w.heap.size _ _ _ rfl rfl rfl (heap_alloc_new w _) rfl) rfl ?_
            exact ⟨rfl, World.grownBy_alloc _ _ none⟩
          · have hd : (((k : Int) - (i : Int)) == 16) = false := by simp; omega
            have HN : Hid (∀ j, i ≤ j → j < k + 1 → innerB (chr s j) = true) := fun j h1 h2 => by
              by_cases e : j = k
              · rw [e]; exact hin
              · exact HALL.out j h1 (by omega)
            clear hin HALL
            generalize chr s k = c' at *
            go_wp2_with (go_at_call 29; refine (hI _).mono ?_; rintro e w' ⟨rfl, hw⟩; subst hw)
            go_roundw
            case rel => exact ⟨k + 1, by omega, by omega, by omega, by go_num, trivial, HN.out⟩
            case measure => simp [intOf]; omega
        | false =>
          have hI : ∀ W, Calls Tryd.prog 29 #[.int .u8 (chr s k)] W fun e w' => e = .returned (.bool false) ∧ w' = W := fun W => by rw [← hin]; exact rinner_any _ W
          have hv := oneV_name HV.out HST.out (by omega) hk2 hk3 HALL.out hin
          clear hin HV
          subst hv
          generalize chr s k = c' at *
          go_wp2_with (go_at_call 29; refine (hI _).mono ?_; rintro e w' ⟨rfl, hw⟩; subst hw)
          refine bodyPost_ret (results_one _ _ w.heap.size _ _ _ rfl rfl rfl (heap_alloc_new w _) rfl) rfl ?_
          exact ⟨rfl, World.grownBy_alloc _ _ none⟩
      · have hv := oneV_name HV.out HST.out (by omega) hk2 hk3 HALL.out (by rw [chr_out (by omega)]; rfl)
        clear HV
        subst hv
        go_wp2_with fail
        refine bodyPost_ret (results_one _ _ w.heap.size _ _ _ rfl rfl rfl (heap_alloc_new w _) rfl) rfl ?_
        exact ⟨rfl, World.grownBy_alloc _ _ none⟩

end Go.Proofs.YtpjckjggmcijjabDoor
