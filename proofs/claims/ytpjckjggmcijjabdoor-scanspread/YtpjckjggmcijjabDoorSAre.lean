/-
  Are the words these? Is a mishap this place's?
-/
import Derived.Test.YtpjckjggmcijjabDoorSRefAll
import Derived.BigQuiet
namespace Go.Proofs.YtpjckjggmcijjabDoor
open Go.RowKit

attribute [local go_sem] Oper.semAt_some

theorem owns_words_t {W : World} {B c : Nat} {t : TypeId} {a : Option Addr} {ws : List El} (h : W.ownsRow B t 3 (.slice a ws.length c) ws.length (ws.flatMap elL)) : WordsAt W a ws := by
  have h' := h
  rcases h.2 with ⟨hv, h0⟩ | ⟨g, cap, cur, hv, _⟩
  · exact .inl (List.eq_nil_of_length_eq_zero h0)
  · simp only [Value.slice.injEq, true_and] at hv
    obtain ⟨rfl, rfl⟩ := hv
    refine .inr ⟨g, 0, rfl, fun i hi => ?_⟩
    obtain ⟨h1, h2, h3⟩ := elL_at ws i hi
    have hcs := World.ownsRow.cells h' rfl
    rw [Nat.zero_add]
    refine ⟨?_, ?_, ?_⟩
    · have := hcs _ _ h1; rwa [Addr.add_mid, Nat.zero_add] at this
    · have := hcs _ _ h2; rwa [Addr.add_mid, Nat.zero_add] at this
    · have := hcs _ _ h3; rwa [Addr.add_mid, Nat.zero_add] at this

theorem rall_any (s : ByteArray) (w : World) (ws : List El) (en : Option Nat) (hws : scanW s = (ws, en)) : Calls Tryd.prog 9 #[.string s] w fun e w' =>
    ∃ a c, e = .returned (.tuple #[.slice a ws.length c, .int .i64 (badAt en)]) ∧ WordsAt w' a ws ∧ w.grownBy w' none := by
  unfold scanW at hws
  split at hws
  · next h =>
    cases hws
    refine (rall_long s w h).mono ?_
    rintro e w' ⟨he, rfl⟩
    exact ⟨none, 0, he, .inl rfl, grown_refl _ _⟩
  · next h =>
    refine (rall_short s w (by omega) ws en hws).mono ?_
    rintro e w' ⟨a, c, he, ho, hg⟩
    exact ⟨a, c, he, owns_words_t ho, hg⟩

set_option maxRecDepth 100000 in
theorem bad_ok (w : World) : Calls Tryd.prog 11 #[.agg #[.int .i64 0, .int .i64 0, .slice none 0 0], .int .i64 (-1)] w fun e w' => e = .returned (.bool true) ∧ w.grownBy w' none := by
  go_enter Tryd.func11, Tryd.ntmps11
  go_wp2_with fail
  go_ret
  exact ⟨rfl, World.grownBy_alloc _ _ none⟩
set_option maxRecDepth 100000 in
theorem bad_err (p : Nat) (w : World) : Calls Tryd.prog 11 #[.agg #[.int .i64 10, .int .i64 p, .slice none 0 0], .int .i64 p] w fun e w' => e = .returned (.bool true) ∧ w.grownBy w' none := by
  have hd : decide ((p : Int) < 0) = false := decide_eq_false (by omega)
  go_enter Tryd.func11, Tryd.ntmps11
  go_wp2_with fail
  go_ret
  exact ⟨by simp, World.grownBy_alloc _ _ none⟩

set_option maxRecDepth 100000 in
set_option maxHeartbeats 1000000 in
theorem are_same (a b : Option Addr) (c c' : Nat) (ws : List El) (w : World) (h1 : WordsAt w a ws) (h2 : WordsAt w b ws) (hn : ws.length ≤ 8192) : Calls Tryd.prog 12 #[.slice a ws.length c, .slice b ws.length c'] w fun e w' => e = .returned (.bool true) ∧ w.grownBy w' none := by
  have HA : Hid (WordsAt w a ws) := h1
  have HB : Hid (WordsAt w b ws) := h2
  clear h1 h2
  obtain ⟨n, hnn⟩ : ∃ n, n = ws.length := ⟨_, rfl⟩
  rw [← hnn]
  rw [← hnn] at hn
  have HNN : Hid (n = ws.length) := hnn
  clear hnn
  go_enter Tryd.func12, Tryd.ntmps12
  go_wp2_with fail
  go_loopw [5] (fun v5 wr => ∃ k : Nat, k ≤ n ∧ v5 = .int .i64 k ∧ w.grownBy wr none) (fun v5 _ => n - (intOf v5).toNat)
  case atStart => exact ⟨0, Nat.zero_le _, rfl, grown_refl _ _⟩
  case round =>
    obtain ⟨k, hk, rfl, hg⟩ := hrel
    have HG : Hid (w.grownBy wr none) := hg
    by_cases hlt : k < n
    · have hA := HA.out.kept hg
      have hB := HB.out.kept hg
      have hlt' : k < ws.length := by rw [← HNN.out]; exact hlt
      rcases hA with h | ⟨ba, oa, rfl, hA⟩
      · rw [h] at hlt'; simp at hlt'
      · rcases hB with h | ⟨bb, ob, rfl, hB⟩
        · rw [h] at hlt'; simp at hlt'
        · obtain ⟨a0, a1, a2⟩ := hA k hlt'
          obtain ⟨b0, b1, b2⟩ := hB k hlt'
          generalize ws.getD k (0, ⟨#[]⟩, 0) = x at *
          have e1 : ((x.1 : Int) != (x.1 : Int)) = false := by simp
          have e2 : (x.2.1.toList != x.2.1.toList) = false := by simp
          have e3 : ((x.2.2 : Int) != (x.2.2 : Int)) = false := by simp
          clear hA hB hg hlt' HA HB HNN
          go_wp2_with fail
          go_quiet (fail)
          go_wp2_with fail
          exact ⟨⟨k + 1, by omega, by go_num, grown_trans HG.out (grown_drewN _ _)⟩, by simp [intOf]; omega⟩
    · go_wp2_with fail
      go_ret
      exact ⟨rfl, hg⟩

end Go.Proofs.YtpjckjggmcijjabDoor
