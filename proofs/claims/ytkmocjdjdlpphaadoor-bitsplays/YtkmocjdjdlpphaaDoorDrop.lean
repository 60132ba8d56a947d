/-
  What Drop does; Add and Drop of sets without room.
-/
import Derived.Test.YtkmocjdjdlpphaaDoorAdd
namespace Go.Proofs.YtkmocjdjdlpphaaDoor
open Go.RowKit

theorem andNot_u64_nat (a b : Nat) (ha : a < 18446744073709551616) (hb : b < 18446744073709551616) (hs : a &&& b = b) :
    bits .andNot .u64 (a : Int) (b : Int) = ((a ^^^ b : Nat) : Int) := by
  have h1 : (BitVec.ofInt 64 (a : Int)).toNat = a := by
    rw [BitVec.ofInt_natCast, BitVec.toNat_ofNat]; exact Nat.mod_eq_of_lt (by omega)
  have h2 : (BitVec.ofInt 64 (b : Int)).toNat = b := by
    rw [BitVec.ofInt_natCast, BitVec.toNat_ofNat]; exact Nat.mod_eq_of_lt (by omega)
  have h3 : (BitVec.ofInt 64 (a : Int) &&& ~~~ BitVec.ofInt 64 (b : Int)).toNat = a ^^^ b := by
    rw [BitVec.toNat_and, BitVec.toNat_not, h1, h2]
    apply Nat.eq_of_testBit_eq
    intro i
    rw [show 2 ^ 64 - 1 - b = 2 ^ 64 - (b + 1) by omega, Nat.testBit_and, Nat.testBit_two_pow_sub_succ (by omega), Nat.testBit_xor]
    have h4 := congrArg (fun x => x.testBit i) hs
    simp only [Nat.testBit_and] at h4
    by_cases hi : i < 64
    · simp only [hi, decide_true, Bool.true_and]
      cases ea : a.testBit i <;> cases eb : b.testBit i <;> simp_all
    · have e1 : a.testBit i = false := Nat.testBit_lt_two_pow (Nat.lt_of_lt_of_le ha (by
        have : 2 ^ 64 ≤ 2 ^ i := Nat.pow_le_pow_right (by decide) (by omega)
        exact this))
      have e2 : b.testBit i = false := by rw [e1] at h4; simpa using h4.symm
      simp [e1, e2]
  show IntKind.u64.wrap ((BitVec.ofInt 64 (a : Int) &&& ~~~ BitVec.ofInt 64 (b : Int)).toNat : Int) = _
  rw [h3, IntKind.wrap_u64]
  have : a ^^^ b < 2 ^ 64 := lt_xor ha hb
  omega

/-- What is stored when n is dropped. -/
theorem xor_bit (m n : Nat) (h : m.testBit n = true) : bits BinOp.andNot IntKind.u64 (wd m (n / 64) : Int) (bt n : Int) = (wd (m ^^^ 2 ^ n) (n / 64) : Nat) := by
  have hs : wd m (n / 64) &&& bt n = bt n := by
    apply Nat.eq_of_testBit_eq
    intro j
    unfold bt
    rw [Nat.testBit_and, testBit_wd, Nat.testBit_two_pow]
    by_cases e : n % 64 = j
    · subst e
      have e2 : 64 * (n / 64) + n % 64 = n := by omega
      have e3 : n % 64 < 64 := by omega
      simp [e2, e3, h]
    · simp [e]
  rw [andNot_u64_nat _ _ (wd_lt _ _) (bt_lt _) hs, wd_xor, wd_two_pow, if_pos rfl]; rfl

theorem RowAt.dropped {w : World} {b n m : Nat} (h : RowAt w b n (wd m)) (k : Nat) (hk : k < 1024) : RowAt (w.setCell ⟨b, 1 + k / 64, none⟩ (.int .u64 (wd (m ^^^ 2 ^ k) (k / 64) : Nat))) b n (wd (m ^^^ 2 ^ k)) :=
  (h.setWord (k / 64) _ (by omega)).congr fun i _ => by
    by_cases e : i = k / 64
    · subst e; simp
    · simp only [e, if_false]; exact (xor_other m k i e).symm

theorem drop_none (a : Option Addr) (cap : Nat) (p : Option Addr) (w : World) :
    Calls Tryd.prog 16 #[.pointer p, .slice a 0 cap] w fun e w' => e = .returned (.int .i64 0) ∧ w' = w := by
  go_enter Tryd.func16, Tryd.ntmps16
  go_wp2
  go_loop [5, 10] (fun a i => a = .int .i64 0 ∧ i = .int .i64 0) (fun _ _ => 0)
  case atStart => exact ⟨rfl, rfl⟩
  case round =>
    obtain ⟨rfl, rfl⟩ := hrel
    go_wp2
    go_ret
    exact ⟨rfl, rfl⟩

set_option maxHeartbeats 1000000 in
theorem drop_row (b n m bl off cap : Nat) (l : List Int) (w : World) (hn : n ≤ 1024) (hm : m < 2 ^ n) (hr : RowAt w b n (wd m)) (hne : bl ≠ b) (hlen : l.length < 1152921504606846976)
    (hc : ∀ i, i < l.length → w.cell? ⟨bl, off + i, none⟩ = some (.int .i64 (l.getD i 0))) :
    Calls Tryd.prog 16 #[.pointer (some ⟨b, 0, none⟩), .slice (some ⟨bl, off, none⟩) l.length cap] w fun e w' =>
      e = .returned (.int .i64 ((dropS m l).2 : Nat)) ∧ RowAt w' b n (wd (dropS m l).1) ∧ (dropS m l).1 < 2 ^ n ∧ But b w w' := by
  have HC : Hid (∀ i, i < l.length → w.cell? ⟨bl, off + i, none⟩ = some (.int .i64 (l.getD i 0))) := hc
  have HR : Hid (RowAt w b n (wd m)) := hr
  have HM : Hid (m < 2 ^ n) := hm
  clear hc hr hm
  go_enter Tryd.func16, Tryd.ntmps16
  go_wp2
  go_loopw [5, 10] (fun a i wr => ∃ k : Nat, k ≤ l.length ∧ i = .int .i64 k ∧ a = .int .i64 ((dropS m (l.take k)).2 : Nat) ∧ (dropS m (l.take k)).2 ≤ k ∧ (dropS m (l.take k)).1 < 2 ^ n ∧ RowAt wr b n (wd (dropS m (l.take k)).1) ∧ But b w wr)
    (fun _ i _ => l.length - (intOf i).toNat)
  case atStart => exact ⟨0, Nat.zero_le _, rfl, rfl, Nat.zero_le _, HM.out, HR.out, But.refl _ _⟩
  case round =>
    obtain ⟨k, hk, rfl, rfl, hle, hlt2, hrow, hbut⟩ := hrel
    by_cases hlt : k < l.length
    · have hsn := dropS_snoc m l k hlt
      have hcell : wr.cell? ⟨bl, off + k, none⟩ = some (.int .i64 (l.getD k 0)) := by
        have h1 := HC.out k hlt
        have h2 : bl < w.heap.size := World.block_lt_of_cell? w _ h1
        rw [World.cell?_of_block (w := w) (hbut.block bl h2 hne)]; exact h1
      generalize l.getD k 0 = x at hsn hcell
      generalize dropS m (l.take k) = s at *
      obtain ⟨sm, sk⟩ := s
      have HSN : Hid (dropS m (l.take (k + 1)) = dropStep (sm, sk) x) := hsn
      have HS : Hid (SetM wr (some ⟨b, 0, none⟩) n sm) := SetM.of hrow hn hlt2
      have HROW : Hid (RowAt wr b n (wd sm)) := hrow
      have HLT2 : Hid (sm < 2 ^ n) := hlt2
      have HBUT : Hid (But b w wr) := hbut
      clear hsn hrow hlt2 hbut
      cases hh : hasB sm x with
      | false =>
        have HH : Hid (hasB sm x = false) := hh
        clear hh
        go_wp2_with (go_at_call 25; refine (has_isnt HS.out HH.out).mono ?_; rintro e w2 ⟨rfl, j, rfl⟩)
        go_roundw
        case rel =>
          have e : dropS m (l.take (k + 1)) = (sm, sk) := by rw [HSN.out]; simp [dropStep, HH.out]
          exact ⟨k + 1, by omega, by go_num, by rw [e], by rw [e]; simp; omega, by rw [e]; exact HLT2.out, by rw [e]; exact HROW.out, HBUT.out.drewN _⟩
        case measure => simp [intOf]; omega
      | true =>
        have HH : Hid (hasB sm x = true) := hh
        obtain ⟨h0, h1⟩ : 0 ≤ x ∧ sm.testBit x.toNat = true := by simpa [hasB] using hh
        clear hh
        obtain ⟨y, rfl⟩ := Int.eq_ofNat_of_zero_le h0
        have h2 : sm.testBit y = true := by simpa using h1
        have hyn : y < n := by
          apply Classical.byContradiction
          intro hc
          rw [Nat.testBit_lt_two_pow (Nat.lt_of_lt_of_le HLT2.out (Nat.pow_le_pow_right (by decide) (by omega)))] at h2
          cases h2
        have hy : y < 1024 := by omega
        have hyi : (y : Int) / 64 < 16 := by omega
        have hyi0 : (0 : Int) ≤ (y : Int) / 64 := by omega
        have hq1 : (y : Int).tdiv 64 = (y : Int) / 64 := Int.tdiv_eq_ediv_of_nonneg (by omega)
        have hq2 : IntKind.i64.wrap ((y : Int) / 64) = (y : Int) / 64 := by rw [IntKind.wrap_i64]; omega
        have hq3 : ((y : Int) / 64).toNat = y / 64 := by omega
        have hw := HROW.out.word (y / 64) (by omega)
        have hfz := HROW.out.free (1 + y / 64)
        have ho := xor_bit sm y h2
        clear h1 h2
        go_wp2_with (go_at_call 25; refine (has_is HS.out HH.out).mono ?_; rintro e w2 ⟨rfl, j, rfl⟩)
        go_region_with (go_at_call 41; refine (bit_any y hy _).mono ?_; rintro e w' ⟨rfl, rfl⟩)
        all_goals go_wp2
        all_goals go_roundw
        case' rel =>
          have e : dropS m (l.take (k + 1)) = (sm ^^^ 2 ^ y, sk + 1) := by rw [HSN.out]; simp [dropStep, HH.out]
          exact ⟨k + 1, by omega, by go_num, by rw [e]; go_num, by rw [e]; simp; omega, by rw [e]; exact lt_xor HLT2.out (two_pow_lt (by omega)), by rw [e]; exact RowAt.dropped (RowAt.drewN HROW.out _) y hy, (But.drewN HBUT.out _).setCell _ _⟩
        case' measure => simp [intOf]; omega
        case' rel =>
          have e : dropS m (l.take (k + 1)) = (sm ^^^ 2 ^ y, sk + 1) := by rw [HSN.out]; simp [dropStep, HH.out]
          exact ⟨k + 1, by omega, by go_num, by rw [e]; go_num, by rw [e]; simp; omega, by rw [e]; exact lt_xor HLT2.out (two_pow_lt (by omega)), by rw [e]; exact RowAt.dropped (RowAt.drewN HROW.out _) y hy, (But.drewN HBUT.out _).setCell _ _⟩
        case' measure => simp [intOf]; omega
    · have : k = l.length := by omega
      subst this
      rw [List.take_length] at *
      go_wp2
      go_ret
      exact ⟨rfl, hrow, hlt2, hbut⟩

/-! ### A set without room (nil among them): nothing is taken, nothing is there. -/
theorem inB_zero (x : Int) : inB 0 x = false := by
  unfold inB
  by_cases h : 0 ≤ x
  · have : ¬ x < ((0 : Nat) : Int) := by omega
    rw [decide_eq_false this, Bool.and_false]
  · simp [h]
theorem hasB_zero (x : Int) : hasB 0 x = false := by simp [hasB]

theorem add_zero (p : Option Addr) (bl off cap : Nat) (l : List Int) (w : World) (h : SetM w p 0 0) (hlen : l.length < 1152921504606846976)
    (hc : ∀ i, i < l.length → w.cell? ⟨bl, off + i, none⟩ = some (.int .i64 (l.getD i 0))) :
    Calls Tryd.prog 15 #[.pointer p, .slice (some ⟨bl, off, none⟩) l.length cap] w fun e w' => e = .returned (.int .i64 0) ∧ w' = w := by
  have H : Hid (SetM w p 0 0) := h
  have HC : Hid (∀ i, i < l.length → w.cell? ⟨bl, off + i, none⟩ = some (.int .i64 (l.getD i 0))) := hc
  clear hc h
  go_enter Tryd.func15, Tryd.ntmps15
  go_wp2
  go_loop [5, 10] (fun a i => ∃ k : Nat, k ≤ l.length ∧ i = .int .i64 k ∧ a = .int .i64 0) (fun _ i => l.length - (intOf i).toNat)
  case atStart => exact ⟨0, Nat.zero_le _, rfl, rfl⟩
  case round =>
    obtain ⟨k, hk, rfl, rfl⟩ := hrel
    by_cases hlt : k < l.length
    · have hcell := HC.out k hlt
      generalize l.getD k 0 = x at hcell
      go_wp2_with (go_at_call 40; refine (holds_no H.out (inB_zero _)).mono ?_; rintro e w2 ⟨rfl, rfl⟩)
      go_round
      case rel => exact ⟨k + 1, by omega, by go_num, rfl⟩
      case measure => simp [intOf]; omega
    · go_wp2
      go_ret
      exact ⟨rfl, rfl⟩

theorem drop_zero (p : Option Addr) (bl off cap : Nat) (l : List Int) (w : World) (h : SetM w p 0 0) (hlen : l.length < 1152921504606846976)
    (hc : ∀ i, i < l.length → w.cell? ⟨bl, off + i, none⟩ = some (.int .i64 (l.getD i 0))) :
    Calls Tryd.prog 16 #[.pointer p, .slice (some ⟨bl, off, none⟩) l.length cap] w fun e w' => e = .returned (.int .i64 0) ∧ ∃ k, w' = w.drewN k := by
  have H : Hid (SetM w p 0 0) := h
  have HC : Hid (∀ i, i < l.length → w.cell? ⟨bl, off + i, none⟩ = some (.int .i64 (l.getD i 0))) := hc
  clear hc h
  go_enter Tryd.func16, Tryd.ntmps16
  go_wp2
  go_loopw [5, 10] (fun a i wr => ∃ k j : Nat, k ≤ l.length ∧ i = .int .i64 k ∧ a = .int .i64 0 ∧ wr = w.drewN j) (fun _ i _ => l.length - (intOf i).toNat)
  case atStart => exact ⟨0, 0, Nat.zero_le _, rfl, rfl, rfl⟩
  case round =>
    obtain ⟨k, j, hk, rfl, rfl, rfl⟩ := hrel
    by_cases hlt : k < l.length
    · have hcell := HC.out k hlt
      generalize l.getD k 0 = x at hcell
      go_wp2_with (go_at_call 25; refine (has_isnt (SetM.drewN H.out _) (hasB_zero _)).mono ?_; rintro e w2 ⟨rfl, j2, rfl⟩)
      go_roundw
      case rel => exact ⟨k + 1, j + j2, by omega, by go_num, rfl, by simp⟩
      case measure => simp [intOf]; omega
    · go_wp2
      go_ret
      exact ⟨rfl, _, rfl⟩

end Go.Proofs.YtkmocjdjdlpphaaDoor
