/-
  GramFull, walked.
-/
import Derived.Test.YtpjckjggmcijjaaFullMath
import Derived.Laws.BytesArg
namespace Go.Proofs.Ytpjckjggmcijjaa
open Go.RowKit Go.Maps Go.Shelf

theorem conv_two (W : World) (c1 c2 : Int) : (convert 65 9 (.slice (some ⟨W.heap.size, 0, none⟩) 2 2)).run Try.prog (W.alloc (.cells #[.int .u8 c1, .int .u8 c2] 5)) = .ok (.string (strOfNums [c1, c2])) (W.alloc (.cells #[.int .u8 c1, .int .u8 c2] 5)) :=
  run_convert_bytes_arg _ 65 5 Try.underlying65 Try.underlying5 W.heap.size 0 2 2 [c1, c2] rfl (fun i hi => by
    rw [cell_of_row _ _ _ _ _ _ (heap_alloc_last W _)]
    match i, hi with
    | 0, _ => rfl
    | 1, _ => rfl) 9 Try.underlying9

theorem nm_made : ∀ k : Nat, k < 64 → (ByteArray.mk #[110]) ++ strOfNums [97 + (k : Int) / 26, 97 + (k : Int) % 26] = nm k := by
  intro k hk
  apply bytes_ext
  revert k
  decide
theorem non_fs (b : Nat) {n k : Nat} (w : World) (hk : k ≤ n) (hn : n < 64) (hB : BAt w b (FS n k)) : Calls Try.prog 23 #[.pointer (some ⟨b, 0, none⟩), .string (nm k)] w fun e w' => e = .returned (.tuple #[.int .i64 (-1 - (k : Int)), .int .i64 0]) ∧ BAt w' b (FS n (k + 1)) ∧ w.grownBy w' (some b) := by
  have := non_any b (FS n k) (nm k) w hB
  rwa [fs_non hk hn] at this
theorem term_fs (b : Nat) {n k : Nat} (w : World) (hk : n < k) (hn : k < 64) (hB : BAt w b (FS n k)) : Calls Try.prog 22 #[.pointer (some ⟨b, 0, none⟩), .string (nm k)] w fun e w' => e = .returned (.tuple #[.int .i64 ((k : Int) - n), .int .i64 0]) ∧ BAt w' b (FS n (k + 1)) ∧ w.grownBy w' (some b) := by
  have := term_any b (FS n k) (nm k) w hB
  rwa [fs_term hk hn] at this
theorem non_more (b : Nat) {n : Nat} (w : World) (hn : n < 64) (hB : BAt w b (FS n 64)) : Calls Try.prog 23 #[.pointer (some ⟨b, 0, none⟩), .string { data := #[109, 111, 114, 101] }] w fun e w' => e = .returned (.tuple #[.int .i64 0, .int .i64 11]) ∧ BAt w' b (FS n 64) ∧ w.grownBy w' (some b) := by
  have := non_any b (FS n 64) moreB w hB
  rwa [fs_more_non hn] at this
theorem term_more (b : Nat) {n : Nat} (w : World) (hn : n < 64) (hB : BAt w b (FS n 64)) : Calls Try.prog 22 #[.pointer (some ⟨b, 0, none⟩), .string { data := #[109, 111, 114, 101] }] w fun e w' => e = .returned (.tuple #[.int .i64 0, .int .i64 11]) ∧ BAt w' b (FS n 64) ∧ w.grownBy w' (some b) := by
  have := term_any b (FS n 64) moreB w hB
  rwa [fs_more_term hn] at this
theorem non_naa (b : Nat) {n : Nat} (w : World) (hn : n < 64) (hB : BAt w b (FS n 64)) : Calls Try.prog 23 #[.pointer (some ⟨b, 0, none⟩), .string { data := #[110, 97, 97] }] w fun e w' => e = .returned (.tuple #[.int .i64 (-1), .int .i64 0]) ∧ BAt w' b (FS n 64) ∧ w.grownBy w' (some b) := by
  have := non_any b (FS n 64) (nm 0) w hB
  rwa [fs_again hn] at this
theorem rule_fr (b : Nat) {n m : Nat} (w : World) (hn : n < 64) (hm : m < 96) (hB : BAt w b (FR n m)) (x : Int) (hx : x = -1 - ((m % (n + 1) : Nat) : Int)) : Calls Try.prog 26 #[.pointer (some ⟨b, 0, none⟩), .int .i64 x, .slice none 0 0] w fun e w' => e = .returned (.tuple #[.int .i64 m, .int .i64 0]) ∧ BAt w' b (FR n (m + 1)) ∧ w.grownBy w' (some b) := by
  subst hx
  have := rule_any b (FR n m) (-1 - ((m % (n + 1) : Nat) : Int)) none 0 [] w hB (.inl rfl) (fun _ => rfl) (by decide)
  rwa [fr_rule hn hm] at this
theorem rule_over (b : Nat) {n : Nat} (w : World) (hn : n < 64) (hB : BAt w b (FR n 96)) : Calls Try.prog 26 #[.pointer (some ⟨b, 0, none⟩), .int .i64 (-1), .slice none 0 0] w fun e w' => e = .returned (.tuple #[.int .i64 0, .int .i64 11]) ∧ w.grownBy w' (some b) := by
  have := rule_any b (FR n 96) (-1) none 0 [] w hB (.inl rfl) (fun _ => rfl) (by decide)
  rw [fr_over hn] at this
  exact this.mono fun e w' h => ⟨h.1, h.2.2⟩
theorem rule_last (b : Nat) {n : Nat} (w : World) (hn : n < 64) (hB : BAt w b (FR n 95)) : Calls Try.prog 26 #[.pointer (some ⟨b, 0, none⟩), .int .i64 (-1), .slice none 0 0] w fun e w' => e = .returned (.tuple #[.int .i64 95, .int .i64 0]) ∧ w.grownBy w' (some b) := by
  have := rule_any b (FR n 95) (-1) none 0 [] w hB (.inl rfl) (fun _ => rfl) (by decide)
  rw [fr_last hn] at this
  exact this.mono fun e w' h => ⟨h.1, h.2.2⟩

theorem tmod_abs (t : Int) : ∃ n : Nat, n < 64 ∧ ((t.tmod 64 = (n : Int)) ∨ (t.tmod 64 = -(n : Int) ∧ 0 < n)) := by
  have h1 : -64 < t.tmod 64 := Int.lt_tmod_of_pos t (by decide)
  have h2 : t.tmod 64 < 64 := Int.tmod_lt_of_pos t (by decide)
  by_cases h : 0 ≤ t.tmod 64
  · exact ⟨(t.tmod 64).toNat, by omega, .inl (by omega)⟩
  · exact ⟨(-(t.tmod 64)).toNat, by omega, .inr ⟨by omega, by omega⟩⟩
theorem tmodn (k n : Nat) : (k : Int).tmod ((n : Int) + 1) = ((k % (n + 1) : Nat) : Int) := rfl
theorem tmodb (k n : Nat) : 0 ≤ ((k % (n + 1) : Nat) : Int) ∧ ((k % (n + 1) : Nat) : Int) ≤ n := by
  have := Nat.mod_lt k (show 0 < n + 1 by omega)
  omega
theorem div26 (k : Nat) : (k : Int).tdiv 26 = ((k / 26 : Nat) : Int) := rfl
theorem mod26 (k : Nat) : (k : Int).tmod 26 = ((k % 26 : Nat) : Int) := rfl

set_option maxRecDepth 100000 in
set_option maxHeartbeats 1000000 in
theorem full_any (t r : Int) (w : World) : Calls Try.prog 7 #[.int .i64 t, .int .i64 r] w fun e w' => e = .returned (.bool true) ∧ w.grownBy w' none := by
  have hcv := conv_two
  obtain ⟨n, hn, hx⟩ := tmod_abs t
  rcases hx with hx | ⟨hx, h0⟩
  all_goals
    go_enter Try.func7, Try.ntmps7
    go_wp2_with fail
    refine (awake_any w).mono ?_
    rintro e w1 ⟨rfl, hg1⟩
    have HG1 : Hid (w.grownBy w1 none) := hg1
    clear hg1
    go_wp2_with fail
    refine (new_any w1).mono ?_
    rintro e w2 ⟨rfl, hB2, hg2⟩
    have HB2 : Hid (BAt w2 w1.heap.size (FS n 0)) := by rw [fs_zero]; exact hB2
    have HG2 : Hid (w.grownBy w2 none) := grown_trans HG1.out hg2
    have HS1 : Hid (w.heap.size ≤ w1.heap.size) := HG1.out.size
    clear hB2 hg2 HG1
    go_wp2_with fail
    go_loopw [8] (fun i wr => ∃ k : Nat, k ≤ 64 ∧ i = .int .i64 k ∧ BAt wr w1.heap.size (FS n k) ∧ w.grownBy wr none) (fun i _ => 64 - (intOf i).toNat)
    case atStart => exact ⟨0, Nat.zero_le _, rfl, HB2.out, HG2.out⟩
    case round =>
      obtain ⟨k, hk, rfl, hB, hG⟩ := hrel
      have HB : Hid (BAt wr w1.heap.size (FS n k)) := hB
      have HG : Hid (w.grownBy wr none) := hG
      clear hB hG
      by_cases hlt : k < 64
      · have e1 := div26 k
        have e2 := mod26 k
        by_cases hkn : k ≤ n
        · have d0 : (-1 - (k : Int) != -1 - (k : Int)) = false := bne_self_eq_false _
          go_wp2_with fail
          rw [nm_made k hlt]
          refine (non_fs w1.heap.size _ hkn hn (HB.out.kept (World.grownBy_alloc _ _ none))).mono ?_
          rintro e w3 ⟨rfl, hB3, hg3⟩
          have HB3 : Hid (BAt w3 w1.heap.size (FS n (k + 1))) := hB3
          have HG3 : Hid (w.grownBy w3 none) := grown_new (grown_trans HG.out (World.grownBy_alloc _ _ none)) hg3 HS1.out
          clear hB3 hg3 HB HG
          go_wp2_with fail
          go_roundw
          case rel => exact ⟨k + 1, by omega, by go_num, HB3.out, HG3.out⟩
          case measure => simp [intOf]; omega
        · go_wp2_with fail
          rw [nm_made k hlt]
          refine (term_fs w1.heap.size _ (by omega) hlt (HB.out.kept (World.grownBy_alloc _ _ none))).mono ?_
          rintro e w3 ⟨rfl, hB3, hg3⟩
          have HB3 : Hid (BAt w3 w1.heap.size (FS n (k + 1))) := hB3
          have HG3 : Hid (w.grownBy w3 none) := grown_new (grown_trans HG.out (World.grownBy_alloc _ _ none)) hg3 HS1.out
          clear hB3 hg3 HB HG
          go_wp2_with fail
          go_roundw
          case rel => exact ⟨k + 1, by omega, by go_num, HB3.out, HG3.out⟩
          case measure => simp [intOf]; omega
      · obtain rfl : k = 64 := by omega
        clear hlt hk
        go_wp2_with fail
        refine (non_more w1.heap.size _ hn HB.out).mono ?_
        rintro e w3 ⟨rfl, hB3, hg3⟩
        go_wp2_with fail
        refine (term_more w1.heap.size _ hn hB3).mono ?_
        rintro e w4 ⟨rfl, hB4, hg4⟩
        go_wp2_with fail
        refine (non_naa w1.heap.size _ hn hB4).mono ?_
        rintro e w5 ⟨rfl, hB5, hg5⟩
        have HB5 : Hid (BAt w5 w1.heap.size (FR n 0)) := by rw [fr_zero]; exact hB5
        have HG5 : Hid (w.grownBy w5 none) := grown_new (grown_new (grown_new HG.out hg3 HS1.out) hg4 HS1.out) hg5 HS1.out
        clear hB3 hB4 hB5 hg3 hg4 hg5 HB HG HB2 HG2
        by_cases hr3 : r.tmod 3 = 0
        · have d3 : (r.tmod 3 == 0) = true := beq_iff_eq.2 hr3
          clear hr3
          go_wp2_with fail
          go_loopw [21] (fun i wr => ∃ k : Nat, k ≤ 95 ∧ i = .int .i64 k ∧ BAt wr w1.heap.size (FR n k) ∧ w.grownBy wr none) (fun i _ => 95 - (intOf i).toNat)
          case atStart => exact ⟨0, Nat.zero_le _, rfl, HB5.out, HG5.out⟩
          case round =>
            clear HB5 HG5
            obtain ⟨k, hk, rfl, hB, hG⟩ := hrel
            have HB : Hid (BAt wr w1.heap.size (FR n k)) := hB
            have HG : Hid (w.grownBy wr none) := hG
            clear hB hG
            by_cases hlt : k < 95
            · have e3 := tmodn k n
              have hb := tmodb k n
              generalize hy : ((k % (n + 1) : Nat) : Int) = y at *
              go_wp2_with fail
              refine (rule_fr w1.heap.size _ hn (by omega) HB.out _ (by rw [hy])).mono ?_
              rintro e w6 ⟨rfl, hB6, hg6⟩
              have HB6 : Hid (BAt w6 w1.heap.size (FR n (k + 1))) := hB6
              have HG6 : Hid (w.grownBy w6 none) := grown_new HG.out hg6 HS1.out
              clear hB6 hg6 HB HG e3 hb hy
              go_wp2_with fail
              go_roundw
              case rel => exact ⟨k + 1, by omega, by go_num, HB6.out, HG6.out⟩
              case measure => simp [intOf]; omega
            · obtain rfl : k = 95 := by omega
              clear hlt hk
              go_wp2_with fail
              refine (rule_last w1.heap.size _ hn HB.out).mono ?_
              rintro e w6 ⟨rfl, hg6⟩
              have HG6 : Hid (w.grownBy w6 none) := grown_new HG.out hg6 HS1.out
              clear hg6 HB HG
              go_wp2_with fail
              go_ret
              exact ⟨rfl, HG6.out⟩
        · have d3 : (r.tmod 3 == 0) = false := beq_eq_false_iff_ne.2 hr3
          clear hr3
          go_wp2_with fail
          go_loopw [21] (fun i wr => ∃ k : Nat, k ≤ 96 ∧ i = .int .i64 k ∧ BAt wr w1.heap.size (FR n k) ∧ w.grownBy wr none) (fun i _ => 96 - (intOf i).toNat)
          case atStart => exact ⟨0, Nat.zero_le _, rfl, HB5.out, HG5.out⟩
          case round =>
            clear HB5 HG5
            obtain ⟨k, hk, rfl, hB, hG⟩ := hrel
            have HB : Hid (BAt wr w1.heap.size (FR n k)) := hB
            have HG : Hid (w.grownBy wr none) := hG
            clear hB hG
            by_cases hlt : k < 96
            · have e3 := tmodn k n
              have hb := tmodb k n
              generalize hy : ((k % (n + 1) : Nat) : Int) = y at *
              go_wp2_with fail
              refine (rule_fr w1.heap.size _ hn (by omega) HB.out _ (by rw [hy])).mono ?_
              rintro e w6 ⟨rfl, hB6, hg6⟩
              have HB6 : Hid (BAt w6 w1.heap.size (FR n (k + 1))) := hB6
              have HG6 : Hid (w.grownBy w6 none) := grown_new HG.out hg6 HS1.out
              clear hB6 hg6 HB HG e3 hb hy
              go_wp2_with fail
              go_roundw
              case rel => exact ⟨k + 1, by omega, by go_num, HB6.out, HG6.out⟩
              case measure => simp [intOf]; omega
            · obtain rfl : k = 96 := by omega
              clear hlt hk
              go_wp2_with fail
              refine (rule_over w1.heap.size _ hn HB.out).mono ?_
              rintro e w6 ⟨rfl, hg6⟩
              have HG6 : Hid (w.grownBy w6 none) := grown_new HG.out hg6 HS1.out
              clear hg6 HB HG
              go_wp2_with fail
              go_ret
              exact ⟨rfl, HG6.out⟩

end Go.Proofs.Ytpjckjggmcijjaa
