/-
  The document's own sets: Equal, Copy.
-/
import Derived.Test.YtkmocjdjdlpphaaDoorPlaysMath
namespace Go.Proofs.YtkmocjdjdlpphaaDoor
open Go.RowKit

theorem requal_ne (b1 i1 n1 m1 b2 i2 n2 m2 : Nat) (w : World) (h1 : RefAt w b1 i1 n1 m1) (h2 : RefAt w b2 i2 n2 m2) (hne : n1 ≠ n2) :
    Calls Tryd.prog 33 #[.pointer (some ⟨b1, 0, none⟩), .pointer (some ⟨b2, 0, none⟩)] w fun e w' => e = .returned (.bool false) ∧ ∃ k, w' = w.drewN k := by
  have hh1 := h1.hcell
  have hh2 := h2.hcell
  have hb : ((n1 : Int) != (n2 : Int)) = true := by rw [bne_iff_ne]; omega
  clear h1 h2
  go_enter Tryd.func33, Tryd.ntmps33
  go_wp2_with fail
  go_quiet (fail)
  go_wp2
  go_ret
  exact ⟨rfl, _, rfl⟩

set_option maxHeartbeats 1000000 in
theorem requal_same (b1 i1 n m1 b2 i2 m2 : Nat) (w : World) (h1 : RefAt w b1 i1 n m1) (h2 : RefAt w b2 i2 n m2) :
    Calls Tryd.prog 33 #[.pointer (some ⟨b1, 0, none⟩), .pointer (some ⟨b2, 0, none⟩)] w fun e w' => e = .returned (.bool (decide (m1 = m2))) ∧ ∃ k, w' = w.drewN k := by
  have hh1 := h1.hcell
  have hh2 := h2.hcell
  have hb : ((n : Int) != (n : Int)) = false := by simp
  have hn := h1.le
  have H1 : Hid (∀ i, i < n → w.cell? ⟨i1, i, none⟩ = some (.bool (m1.testBit i))) := h1.cell
  have H2 : Hid (∀ i, i < n → w.cell? ⟨i2, i, none⟩ = some (.bool (m2.testBit i))) := h2.cell
  have HL1 : Hid (m1 < 2 ^ n) := h1.lt
  have HL2 : Hid (m2 < 2 ^ n) := h2.lt
  clear h1 h2
  go_enter Tryd.func33, Tryd.ntmps33
  go_wp2_with fail
  go_quiet (fail)
  go_wp2_with fail
  go_loopw [5] (fun i wr => ∃ k j : Nat, k ≤ n ∧ i = .int .i64 k ∧ (∀ i, i < k → m1.testBit i = m2.testBit i) ∧ wr = w.drewN j) (fun i _ => n - (intOf i).toNat)
  case atStart => exact ⟨0, _, Nat.zero_le _, rfl, fun i hi => absurd hi (Nat.not_lt_zero i), rfl⟩
  case round =>
    obtain ⟨k, j, hk, rfl, hsame, rfl⟩ := hrel
    have HSAME : Hid (∀ i, i < k → m1.testBit i = m2.testBit i) := hsame
    clear hsame
    by_cases hlt : k < n
    · have hc1 := H1.out k hlt
      have hc2 := H2.out k hlt
      by_cases hxy : m1.testBit k = m2.testBit k
      · have HXY : Hid (m1.testBit k = m2.testBit k) := hxy
        rw [hxy] at hc1
        clear hxy
        have hbb : ((m2.testBit k) != (m2.testBit k)) = false := by simp
        go_wp2_with fail
        go_quiet (fail)
        go_wp2
        go_roundw
        case rel =>
          refine ⟨k + 1, _, by omega, by go_num, fun i hi => ?_, rfl⟩
          by_cases e : i = k
          · subst e; exact HXY.out
          · exact HSAME.out i (by omega)
        case measure => simp [intOf]; omega
      · have hbb : ((m1.testBit k) != (m2.testBit k)) = true := by rw [bne_iff_ne]; exact hxy
        have hbb2 : ((m1.testBit k) == (m2.testBit k)) = false := by rw [beq_eq_false_iff_ne]; exact hxy
        have HNE : Hid (m1 ≠ m2) := fun e => hxy (by rw [e])
        clear hxy
        go_wp2_with fail
        go_quiet (fail)
        go_wp2
        go_ret
        rw [decide_eq_false HNE.out]
        exact ⟨rfl, drewN2 _ _ _⟩
    · have hE : m1 = m2 := by
        apply Nat.eq_of_testBit_eq
        intro i
        by_cases hi : i < n
        · exact HSAME.out i (by omega)
        · rw [Nat.testBit_lt_two_pow (Nat.lt_of_lt_of_le HL1.out (Nat.pow_le_pow_right (by decide) (by omega))), Nat.testBit_lt_two_pow (Nat.lt_of_lt_of_le HL2.out (Nat.pow_le_pow_right (by decide) (by omega)))]
      have HE : Hid (m1 = m2) := hE
      clear hE
      go_wp2
      go_ret
      rw [decide_eq_true HE.out]
      exact ⟨rfl, _, rfl⟩

theorem requal_any (b1 i1 n1 m1 b2 i2 n2 m2 : Nat) (w : World) (h1 : RefAt w b1 i1 n1 m1) (h2 : RefAt w b2 i2 n2 m2) :
    Calls Tryd.prog 33 #[.pointer (some ⟨b1, 0, none⟩), .pointer (some ⟨b2, 0, none⟩)] w fun e w' => e = .returned (.bool (eqB n1 m1 n2 m2)) ∧ ∃ k, w' = w.drewN k := by
  by_cases hne : n1 = n2
  · subst hne
    have := requal_same b1 i1 n1 m1 b2 i2 m2 w h1 h2
    unfold eqB
    simpa using this
  · have := requal_ne b1 i1 n1 m1 b2 i2 n2 m2 w h1 h2 hne
    unfold eqB
    simpa [hne] using this

theorem rc_members {W0 w : World} {br bi n m : Nat} {M : List Int} (hM : mems 1024 m = M) (hb0 : Below W0.heap.size W0 w) (hr : RefAt W0 br bi n m) :
    Calls Tryd.prog 12 #[.pointer (some ⟨br, 0, none⟩)] w fun e w' => ∃ a cap, e = .returned (.slice a M.length cap) ∧ IntsAt w' a M ∧ Below W0.heap.size W0 w' := by
  subst hM
  refine (rmembers_ints br bi n m w (hr.keep hb0)).mono ?_
  rintro e w' ⟨a, cap, rfl, hi, hb⟩
  exact ⟨a, cap, rfl, hi, hb0.trans (hb.mono hb0.size)⟩
theorem rc_of {W0 w : World} {n m cap : Nat} {a : Option Addr} {M : List Int} (hn : n ≤ 1024) (hm : m < 2 ^ n) (hM : mems 1024 m = M) (hb0 : Below W0.heap.size W0 w) (hi : IntsAt w a M) :
    Calls Tryd.prog 11 #[.int .i64 n, .slice a M.length cap] w fun e w' => ∃ br bi, e = .returned (.pointer (some ⟨br, 0, none⟩)) ∧ W0.heap.size ≤ bi ∧ bi < br ∧ RefAt w' br bi n m ∧ Below W0.heap.size W0 w' := by
  subst hM
  have := refOf_any (n : Int) a cap (mems 1024 m) w hi (by rw [mems_length]; have := pc_le 1024 m; omega)
  have hc : clampN (n : Int) = n := by unfold clampN; omega
  rw [hc, add_all hn hm] at this
  refine this.mono ?_
  rintro e w' ⟨br, rfl, hlt, hr, hb⟩
  exact ⟨br, w.heap.size, rfl, hb0.size, hlt, hr, hb0.trans (hb.mono hb0.size)⟩

theorem rcopy_core (br bi n m : Nat) (M : List Int) (w : World) (h : RefAt w br bi n m) (hM : mems 1024 m = M) :
    Calls Tryd.prog 34 #[.pointer (some ⟨br, 0, none⟩)] w fun e w' => ∃ br' bi', e = .returned (.pointer (some ⟨br', 0, none⟩)) ∧ w.heap.size ≤ bi' ∧ bi' < br' ∧ RefAt w' br' bi' n m ∧ Below w.heap.size w w' := by
  have hh := h.hcell
  have hn := h.le
  have hl : Hid (m < 2 ^ n) := h.lt
  have HR : Hid (RefAt w br bi n m) := h
  have HM : Hid (mems 1024 m = M) := hM
  have hb0 : Below w.heap.size w w.drew := (Below.refl _ w).drew
  have hbr := h.ltr
  clear h hM
  go_enter Tryd.func34, Tryd.ntmps34
  go_wp2_with fail
  go_region_with (first
    | (go_at_call 12; refine (rc_members HM.out (by assumption) HR.out).mono ?_; rintro e w1 ⟨a, cap, rfl, hi, hb1⟩; have hh1 : w1.cell? ⟨br, 0, none⟩ = some (.slice (some ⟨bi, 0, none⟩) n n) := (by rw [hb1.cell (by exact hbr)]; exact hh))
    | (go_at_call 11; refine (rc_of hn hl.out HM.out (by assumption) (by assumption)).mono ?_; rintro e w2 ⟨br', bi', rfl, hlo, hlt, hr2, hb2⟩))
  all_goals go_wp2
  all_goals go_ret
  all_goals exact ⟨br', bi', rfl, hlo, hlt, hr2, hb2⟩

end Go.Proofs.YtkmocjdjdlpphaaDoor
