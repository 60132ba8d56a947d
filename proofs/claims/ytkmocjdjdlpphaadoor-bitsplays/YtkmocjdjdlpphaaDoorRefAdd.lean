/-
  The document's own sets: Add and Drop of lists.
-/
import Derived.Test.YtkmocjdjdlpphaaDoorRef
import Derived.BigRegion
namespace Go.Proofs.YtkmocjdjdlpphaaDoor
open Go.RowKit

set_option maxHeartbeats 1000000 in
theorem radd_row (br bi n m bl off cap : Nat) (l : List Int) (w : World) (hr : RefAt w br bi n m) (hne : bl ≠ bi) (hlen : l.length < 1152921504606846976)
    (hc : ∀ i, i < l.length → w.cell? ⟨bl, off + i, none⟩ = some (.int .i64 (l.getD i 0))) :
    Calls Tryd.prog 18 #[.pointer (some ⟨br, 0, none⟩), .slice (some ⟨bl, off, none⟩) l.length cap] w fun e w' =>
      e = .returned (.int .i64 ((addS n m l).2 : Nat)) ∧ RefAt w' br bi n (addS n m l).1 ∧ But bi w w' := by
  have HC : Hid (∀ i, i < l.length → w.cell? ⟨bl, off + i, none⟩ = some (.int .i64 (l.getD i 0))) := hc
  have HR : Hid (RefAt w br bi n m) := hr
  have hn := hr.le
  clear hc hr
  go_enter Tryd.func18, Tryd.ntmps18
  go_wp2
  go_loopw [5, 6] (fun a i wr => ∃ k : Nat, k ≤ l.length ∧ i = .int .i64 k ∧ a = .int .i64 ((addS n m (l.take k)).2 : Nat) ∧ (addS n m (l.take k)).2 ≤ k ∧ RefAt wr br bi n (addS n m (l.take k)).1 ∧ But bi w wr)
    (fun _ i _ => l.length - (intOf i).toNat)
  case atStart => exact ⟨0, Nat.zero_le _, rfl, rfl, Nat.zero_le _, HR.out, But.refl _ _⟩
  case round =>
    obtain ⟨k, hk, rfl, rfl, hle, hrow, hbut⟩ := hrel
    by_cases hlt : k < l.length
    · have hsn := addS_snoc n m l k hlt
      have hcell : wr.cell? ⟨bl, off + k, none⟩ = some (.int .i64 (l.getD k 0)) := by
        have h1 := HC.out k hlt
        have h2 : bl < w.heap.size := World.block_lt_of_cell? w _ h1
        rw [World.cell?_of_block (w := w) (hbut.block bl h2 hne)]; exact h1
      generalize l.getD k 0 = x at hsn hcell
      generalize addS n m (l.take k) = s at *
      obtain ⟨sm, sk⟩ := s
      have HSN : Hid (addS n m (l.take (k + 1)) = addStep n (sm, sk) x) := hsn
      have HROW : Hid (RefAt wr br bi n sm) := hrow
      have HBUT : Hid (But bi w wr) := hbut
      have hh := hrow.hcell
      clear hsn hrow hbut
      by_cases h0 : 0 ≤ x
      · have hd : decide (0 ≤ x) = true := decide_eq_true h0
        by_cases h1 : x < n
        · obtain ⟨y, rfl⟩ := Int.eq_ofNat_of_zero_le h0
          have hyn : y < n := by omega
          have hcy := HROW.out.cell y hyn
          have hfz := HROW.out.free y
          have hdy : decide ((y : Int) < (n : Int)) = true := decide_eq_true h1
          cases hb : sm.testBit y with
          | true =>
            rw [hb] at hcy
            have HB : Hid (sm.testBit y = true) := hb
            clear hb
            go_wp2
            go_roundw
            case rel =>
              have e : addS n m (l.take (k + 1)) = (sm, sk) := by rw [HSN.out]; simp [addStep, hasB, HB.out]
              exact ⟨k + 1, by omega, by go_num, by rw [e], by rw [e]; simp; omega, by rw [e]; exact HROW.out, HBUT.out⟩
            case measure => simp [intOf]; omega
          | false =>
            rw [hb] at hcy
            have HB : Hid (sm.testBit y = false) := hb
            clear hb
            go_wp2
            go_roundw
            case rel =>
              have e : addS n m (l.take (k + 1)) = (sm ||| 2 ^ y, sk + 1) := by rw [HSN.out]; simp [addStep, hasB, inB, HB.out, hyn]
              have hst := HROW.out.store y hyn (add_bits sm y) (lt_or HROW.out.lt (two_pow_lt hyn))
              rw [add_bit] at hst
              exact ⟨k + 1, by omega, by go_num, by rw [e]; go_num, by rw [e]; simp; omega, by rw [e]; exact hst, HBUT.out.setCell _ _⟩
            case measure => simp [intOf]; omega
        · have hdy : decide (x < (n : Int)) = false := decide_eq_false h1
          have HIN : Hid (inB n x = false) := by show _ = _; unfold inB; rw [hdy, Bool.and_false]
          go_wp2
          go_roundw
          case rel =>
            have e : addS n m (l.take (k + 1)) = (sm, sk) := by rw [HSN.out]; simp [addStep, HIN.out]
            exact ⟨k + 1, by omega, by go_num, by rw [e], by rw [e]; simp; omega, by rw [e]; exact HROW.out, HBUT.out⟩
          case measure => simp [intOf]; omega
      · have hd : decide (0 ≤ x) = false := decide_eq_false h0
        have HIN : Hid (inB n x = false) := by show _ = _; unfold inB; rw [hd, Bool.false_and]
        go_wp2
        go_roundw
        case rel =>
          have e : addS n m (l.take (k + 1)) = (sm, sk) := by rw [HSN.out]; simp [addStep, HIN.out]
          exact ⟨k + 1, by omega, by go_num, by rw [e], by rw [e]; simp; omega, by rw [e]; exact HROW.out, HBUT.out⟩
        case measure => simp [intOf]; omega
    · have : k = l.length := by omega
      subst this
      rw [List.take_length] at *
      go_wp2
      go_ret
      exact ⟨rfl, hrow, hbut⟩

theorem rhas_is {br bi n m : Nat} {x : Int} {w : World} (h : RefAt w br bi n m) (hx : hasB m x = true) :
    Calls Tryd.prog 35 #[.pointer (some ⟨br, 0, none⟩), .int .i64 x] w fun e w' => e = .returned (.bool true) ∧ w' = w := by
  have := ref_has br bi n m x w h
  rwa [hx] at this
theorem rhas_isnt {br bi n m : Nat} {x : Int} {w : World} (h : RefAt w br bi n m) (hx : hasB m x = false) :
    Calls Tryd.prog 35 #[.pointer (some ⟨br, 0, none⟩), .int .i64 x] w fun e w' => e = .returned (.bool false) ∧ w' = w := by
  have := ref_has br bi n m x w h
  rwa [hx] at this

set_option maxHeartbeats 1000000 in
theorem rdrop_row (br bi n m bl off cap : Nat) (l : List Int) (w : World) (hr : RefAt w br bi n m) (hne : bl ≠ bi) (hlen : l.length < 1152921504606846976)
    (hc : ∀ i, i < l.length → w.cell? ⟨bl, off + i, none⟩ = some (.int .i64 (l.getD i 0))) :
    Calls Tryd.prog 19 #[.pointer (some ⟨br, 0, none⟩), .slice (some ⟨bl, off, none⟩) l.length cap] w fun e w' =>
      e = .returned (.int .i64 ((dropS m l).2 : Nat)) ∧ RefAt w' br bi n (dropS m l).1 ∧ But bi w w' := by
  have HC : Hid (∀ i, i < l.length → w.cell? ⟨bl, off + i, none⟩ = some (.int .i64 (l.getD i 0))) := hc
  have HR : Hid (RefAt w br bi n m) := hr
  have hn := hr.le
  clear hc hr
  go_enter Tryd.func19, Tryd.ntmps19
  go_wp2
  go_loopw [5, 6] (fun a i wr => ∃ k : Nat, k ≤ l.length ∧ i = .int .i64 k ∧ a = .int .i64 ((dropS m (l.take k)).2 : Nat) ∧ (dropS m (l.take k)).2 ≤ k ∧ RefAt wr br bi n (dropS m (l.take k)).1 ∧ But bi w wr)
    (fun _ i _ => l.length - (intOf i).toNat)
  case atStart => exact ⟨0, Nat.zero_le _, rfl, rfl, Nat.zero_le _, HR.out, But.refl _ _⟩
  case round =>
    obtain ⟨k, hk, rfl, rfl, hle, hrow, hbut⟩ := hrel
    by_cases hlt : k < l.length
    · have hsn := dropS_snoc m l k hlt
      have hcell : wr.cell? ⟨bl, off + k, none⟩ = some (.int .i64 (l.getD k 0)) := by
        have h1 := HC.out k hlt
        have h2 : bl < w.heap.size := World.block_lt_of_cell? w _ h1
        rw [World.cell?_of_block (w := w) (hbut.block bl h2 hne)]; exact h1
      generalize l.getD k 0 = x at hsn hcell
      generalize dropS m (l.take k) = s at *
      obtain ⟨sm, sk⟩ := s
      have HSN : Hid (dropS m (l.take (k + 1)) = dropStep (sm, sk) x) := hsn
      have HROW : Hid (RefAt wr br bi n sm) := hrow
      have HBUT : Hid (But bi w wr) := hbut
      have hh := hrow.hcell
      clear hsn hrow hbut
      cases hx : hasB sm x with
      | false =>
        have HX : Hid (hasB sm x = false) := hx
        clear hx
        go_wp2_with (go_at_call 35; refine (rhas_isnt HROW.out HX.out).mono ?_; rintro e w2 ⟨rfl, hw2⟩; subst hw2)
        go_roundw
        case rel =>
          have e : dropS m (l.take (k + 1)) = (sm, sk) := by rw [HSN.out]; simp [dropStep, HX.out]
          exact ⟨k + 1, by omega, by go_num, by rw [e], by rw [e]; simp; omega, by rw [e]; exact HROW.out, HBUT.out⟩
        case measure => simp [intOf]; omega
      | true =>
        have HX : Hid (hasB sm x = true) := hx
        obtain ⟨h0, h1⟩ : 0 ≤ x ∧ sm.testBit x.toNat = true := by simpa [hasB] using hx
        clear hx
        obtain ⟨y, rfl⟩ := Int.eq_ofNat_of_zero_le h0
        have h2 : sm.testBit y = true := by simpa using h1
        have hyn : y < n := by
          apply Classical.byContradiction
          intro hc
          rw [Nat.testBit_lt_two_pow (Nat.lt_of_lt_of_le HROW.out.lt (Nat.pow_le_pow_right (by decide) (by omega)))] at h2
          cases h2
        have hyi : (y : Int) < (n : Int) := by omega
        have hyi0 : (0 : Int) ≤ (y : Int) := by omega
        have hki : (k : Int) < (l.length : Int) := by omega
        have hki0 : (0 : Int) ≤ (k : Int) := by omega
        have hfz := HROW.out.free y
        have hcy := HROW.out.cell y hyn
        have HB : Hid (sm.testBit y = true) := h2
        clear h1 h2
        go_wp2_with (go_at_call 35; refine (rhas_is HROW.out HX.out).mono ?_; rintro e w2 ⟨rfl, hw2⟩; subst hw2)
        go_region
        all_goals go_wp2
        all_goals go_roundw
        all_goals first
          | (simp [intOf]; omega)
          | skip
        all_goals
          have e : dropS m (l.take (k + 1)) = (sm ^^^ 2 ^ y, sk + 1) := by rw [HSN.out]; simp [dropStep, HX.out]
          have hst := (HROW.out).store y hyn (drop_bits sm y) (lt_xor HROW.out.lt (two_pow_lt hyn))
          rw [drop_bit _ _ HB.out] at hst
          refine ⟨k + 1, by omega, by go_num, by rw [e]; go_num, by rw [e]; simp; omega, ?_, (But.drewN HBUT.out 1).setCell _ _⟩
          rw [e]
          exact ⟨hst.head, hst.row, hst.ne, hst.le, hst.lt⟩
    · have : k = l.length := by omega
      subst this
      rw [List.take_length] at *
      go_wp2
      go_ret
      exact ⟨rfl, hrow, hbut⟩

end Go.Proofs.YtkmocjdjdlpphaaDoor
