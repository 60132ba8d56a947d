/-
  GramNames and GramNil, walked.
-/
import Derived.Test.YtejaobndcmpibaaNew
namespace Go.Proofs.Ytejaobndcmpibaa
open Go.RowKit Go.Maps

theorem num_any (e : Int) (w : World) : Calls Try.prog 13 #[.int .i64 e] w fun r w' => r = .returned (.int .i64 e) ∧ w' = w := by
  go_enter Try.func13, Try.ntmps13
  go_wp2_with fail
  go_ret
  exact ⟨rfl, rfl⟩

theorem term_empty (b : Nat) (w : World) (hB : BAt w b BS.zero) : Calls Try.prog 10 #[.pointer (some ⟨b, 0, none⟩), .string { data := #[] }] w fun e w' => e = .returned (.tuple #[.int .i64 0, .int .i64 1]) ∧ w.grownBy w' (some b) := by
  have e1 : BS.zero.term { data := #[] } = (0, 1, BS.zero) := rfl
  have := term_any b BS.zero { data := #[] } w hB
  rw [e1] at this
  exact this.mono fun e w' h => ⟨h.1, h.2.2⟩
theorem start_none (b : Nat) (w : World) (hB : BAt w b BS.zero) : Calls Try.prog 11 #[.pointer (some ⟨b, 0, none⟩), .int .i64 (-1)] w fun e w' => e = .returned (.int .i64 1) ∧ w.grownBy w' (some b) := by
  have e1 : BS.zero.isN (-1) = false := rfl
  have := start_at b BS.zero (-1) w hB
  rw [e1] at this
  exact this.mono fun e w' h => ⟨h.1, h.2.2⟩

set_option maxRecDepth 100000 in
theorem gramNames_any (w : World) : Calls Try.prog 3 #[] w fun e w' => e = .returned (.bool true) ∧ w.grownBy w' none := by
  go_enter Try.func3, Try.ntmps3
  go_wp2_with fail
  refine (new_any w).mono ?_
  rintro e w1 ⟨rfl, hB1, hg1⟩
  go_wp2_with fail
  refine (term_empty _ w1 hB1).mono ?_
  rintro e w2 ⟨rfl, hg2⟩
  have HG2 : Hid (w.grownBy w2 none) := grown_new hg1 hg2 (Nat.le_refl _)
  clear hB1 hg1 hg2
  go_wp2_with fail
  refine (new_any w2).mono ?_
  rintro e w3 ⟨rfl, hB3, hg3⟩
  go_wp2_with fail
  refine (start_none _ w3 hB3).mono ?_
  rintro e w4 ⟨rfl, hg4⟩
  have HG4 : Hid (w.grownBy w4 none) := grown_trans HG2.out (grown_new hg3 hg4 (Nat.le_refl _))
  clear hB3 hg3 hg4 HG2
  go_wp2_with fail
  refine (non_nil _ w4).mono ?_
  rintro e w5 ⟨rfl, rfl⟩
  go_wp2_with (go_at_call 13; refine (num_any _ _).mono ?_; rintro e w' ⟨rfl, rfl⟩)
  go_ret
  exact ⟨rfl, HG4.out⟩

theorem term_x (b : Nat) (w : World) (hB : BAt w b BS.zero) : Calls Try.prog 10 #[.pointer (some ⟨b, 0, none⟩), .string { data := #[120] }] w fun e w' => e = .returned (.tuple #[.int .i64 1, .int .i64 0]) ∧ w.grownBy w' (some b) := by
  have e1 : (BS.zero.term { data := #[120] }).1 = 1 := rfl
  have e2 : (BS.zero.term { data := #[120] }).2.1 = 0 := rfl
  have := term_any b BS.zero { data := #[120] } w hB
  rw [e1, e2] at this
  exact this.mono fun e w' h => ⟨h.1, h.2.2⟩

theorem zero_at' (w : World) : BAt (w.alloc (.cells Try.zeroCells49 49)) w.heap.size BS.zero := by rw [builtB]; exact zero_at w

set_option maxRecDepth 100000 in
theorem gramNil_any (s : ByteArray) (v : Value) (w : World) : Calls Try.prog 4 #[.string s, v] w fun e w' => e = .returned (.bool true) ∧ w.grownBy w' none := by
  go_enter Try.func4, Try.ntmps4
  go_wp2_with (first | (go_at_call 10; refine (term_nil s w).mono ?_; rintro e w' ⟨rfl, rfl⟩) | (go_at_call 14; refine (rule_nil _ _ _).mono ?_; rintro e w' ⟨rfl, rfl⟩))
  have hgn := grammar_nil w'
  unfold gramC at hgn
  refine hgn.mono ?_
  clear hgn
  rintro e w1 ⟨rfl, hg1⟩
  have HG1 : Hid (w'.grownBy w1 none) := hg1
  clear hg1
  go_wp2_with fail
  generalize hX : w1.alloc (.cells #[.slice none 0 0, .slice none 0 0, .slice none 0 0, .int .i64 0, .slice none 0 0] 36) = X
  have HG2 : Hid (w'.grownBy X none) := by rw [← hX]; exact grown_trans HG1.out (World.grownBy_alloc _ _ none)
  clear HG1 hX
  refine (sizes_nil X).mono ?_
  rintro e w'' ⟨rfl, hw⟩
  subst hw
  go_wp2_with fail
  refine (term_x _ _ (zero_at' w'')).mono ?_
  rintro e w3 ⟨rfl, hg3⟩
  have HG3 : Hid (w'.grownBy w3 none) := grown_trans HG2.out (grown_new (World.grownBy_alloc _ _ none) hg3 (Nat.le_refl _))
  clear hg3 HG2
  go_wp2_with (go_at_call 17; refine (grade_nil _ _ _).mono ?_; rintro e w4 ⟨rfl, rfl⟩)
  go_ret
  exact ⟨rfl, HG3.out⟩

end Go.Proofs.Ytejaobndcmpibaa
