/-
  What a number is in a grammar; the left sides, in the order in which they first are; whether numbers are in order.
-/
import Derived.Test.YtdlbeffkgdjihaaCopied
import Derived.Test.YtdlbeffkgdjihaaSmall
namespace Go.Proofs.Ytdlbeffkgdjihaa
open Go.RowKit Go.Maps Go.Shelf

attribute [local go_sem] Oper.semAt_some

/-- A grammar by value. -/
def gramV (ta na la pa : Option Addr) (tn nn ln pn tc nc lc pc : Nat) (st : Int) : Value := .agg #[.slice ta tn tc, .slice na nn nc, .slice la ln lc, .int .i64 st, .slice pa pn pc]

theorem isLevel_any (ta na la pa : Option Addr) (tn nn ln pn tc nc lc pc : Nat) (st x : Int) (w : World) :
    Calls Try.prog 92 #[.agg #[.slice ta tn tc, .slice na nn nc, .slice la ln lc, .int .i64 st, .slice pa pn pc], .int .i64 x] w fun e w' => e = .returned (.bool (decide (0 ≤ x) && decide (x ≤ ln))) ∧ w.grownBy w' none := by
  by_cases h0 : 0 ≤ x
  · have hd : decide (0 ≤ x) = true := decide_eq_true h0
    go_enter Try.func92, Try.ntmps92
    go_wp2_with fail
    go_ret
    exact ⟨by simp [h0], World.grownBy_alloc _ _ none⟩
  · have hd : decide (0 ≤ x) = false := decide_eq_false h0
    go_enter Try.func92, Try.ntmps92
    go_wp2_with fail
    go_ret
    exact ⟨by simp, World.grownBy_alloc _ _ none⟩
theorem isTermOf_any (ta na la pa : Option Addr) (tn nn ln pn tc nc lc pc : Nat) (st x : Int) (w : World) :
    Calls Try.prog 96 #[.agg #[.slice ta tn tc, .slice na nn nc, .slice la ln lc, .int .i64 st, .slice pa pn pc], .int .i64 x] w fun e w' => e = .returned (.bool (decide (0 < x) && decide (x < tn))) ∧ w.grownBy w' none := by
  by_cases h0 : 0 < x
  · have hd : decide (0 < x) = true := decide_eq_true h0
    go_enter Try.func96, Try.ntmps96
    go_wp2_with fail
    go_ret
    exact ⟨by simp [h0], World.grownBy_alloc _ _ none⟩
  · have hd : decide (0 < x) = false := decide_eq_false h0
    go_enter Try.func96, Try.ntmps96
    go_wp2_with fail
    go_ret
    exact ⟨by simp, World.grownBy_alloc _ _ none⟩
theorem isNonOf_any (ta na la pa : Option Addr) (tn nn ln pn tc nc lc pc ad : Nat) (st x : Int) (w : World) (ht : tn ≤ 140737488355328) (hn : nn ≤ 140737488355328) (ha : ad ≤ 1) :
    Calls Try.prog 73 #[.agg #[.slice ta tn tc, .slice na nn nc, .slice la ln lc, .int .i64 st, .slice pa pn pc], .int .i64 x, .int .i64 ad] w fun e w' => e = .returned (.bool (decide ((tn : Int) + ad ≤ x) && decide (x < (tn : Int) + nn))) ∧ w.grownBy w' none := by
  by_cases h0 : (tn : Int) + ad ≤ x
  · have hd : decide ((tn : Int) + ad ≤ x) = true := decide_eq_true h0
    go_enter Try.func73, Try.ntmps73
    go_wp2_with fail
    go_ret
    exact ⟨by simp [h0], World.grownBy_alloc _ _ none⟩
  · have hd : decide ((tn : Int) + ad ≤ x) = false := decide_eq_false h0
    go_enter Try.func73, Try.ntmps73
    go_wp2_with fail
    go_ret
    exact ⟨by simp, World.grownBy_alloc _ _ none⟩

/-- Index: somewhere, or -1. -/
theorem index_any (a : Option Addr) (cap : Nat) (l : List Int) (x : Int) (w : World) (hl : IntsAt w a l) (hn : l.length ≤ 140737488355328) :
    Calls Try.prog 102 #[.slice a l.length cap, .int .i64 x] w fun e w' => (∃ r : Int, e = .returned (.int .i64 r) ∧ -1 ≤ r ∧ (0 ≤ r ↔ x ∈ l)) ∧ w' = w := by
  have HL : Hid (IntsAt w a l) := hl
  obtain ⟨n, hln⟩ : ∃ n, n = l.length := ⟨_, rfl⟩
  have HLN : Hid (l.length = n) := hln.symm
  rw [← hln] at hn ⊢
  clear hl hln
  go_enter Try.func102, Try.ntmps102
  go_wp2_with fail
  go_loopw [8] (fun i wr => ∃ k : Nat, k ≤ n ∧ i = .int .i64 k ∧ wr = w ∧ x ∉ l.take k) (fun i _ => n - (intOf i).toNat)
  case atStart => exact ⟨0, Nat.zero_le _, rfl, rfl, by simp⟩
  case round =>
    obtain ⟨k, hk, rfl, hw, hno⟩ := hrel
    subst hw
    have HA : Hid (x ∉ l.take k) := hno
    clear hno
    by_cases hlt : k < n
    · have hkl : k < l.length := by rw [HLN.out]; exact hlt
      obtain ⟨bl, off, rfl, hcells⟩ : ∃ b off, a = some ⟨b, off, none⟩ ∧ ∀ i, i < l.length → wr.cell? ⟨b, off + i, none⟩ = some (.int .i64 (l.getD i 0)) := by
        rcases HL.out with h | h
        · subst h; simp at hkl
        · exact h
      have hck := hcells k hkl
      have hmem : l.getD k 0 ∈ l := by
        have : l.getD k 0 = l[k] := by simp [List.getD, hkl]
        rw [this]; exact List.getElem_mem _
      have htk : l.take (k + 1) = l.take k ++ [l.getD k 0] := by rw [List.take_succ_eq_append_getElem hkl]; simp [List.getD, hkl]
      generalize l.getD k 0 = y at *
      by_cases he : x = y
      · have hb : (x == y) = true := beq_iff_eq.2 he
        have HM : Hid (x ∈ l) := by rw [he]; exact hmem
        clear hcells hmem htk he
        go_wp2_with fail
        go_ret
        exact ⟨⟨k, rfl, by omega, ⟨fun _ => HM.out, fun _ => by omega⟩⟩, rfl⟩
      · have hb : (x == y) = false := beq_eq_false_iff_ne.2 he
        have HA' : Hid (x ∉ l.take (k + 1)) := by
          show x ∉ l.take (k + 1)
          rw [htk, List.mem_append, not_or]
          exact ⟨HA.out, by simpa using he⟩
        clear hcells hmem htk he
        go_wp2_with fail
        go_roundw
        case rel => exact ⟨k + 1, by omega, by go_num, trivial, HA'.out⟩
        case measure => simp [intOf]; omega
    · obtain rfl : k = n := by omega
      have ht : l.take k = l := List.take_of_length_le (Nat.le_of_eq HLN.out)
      rw [ht] at HA
      go_wp2_with fail
      go_ret
      exact ⟨⟨-1, rfl, by omega, ⟨fun h => absurd h (by omega), fun h => absurd h HA.out⟩⟩, rfl⟩

theorem contains_any (a : Option Addr) (cap : Nat) (l : List Int) (x : Int) (w : World) (hl : IntsAt w a l) (hn : l.length ≤ 140737488355328) :
    Calls Try.prog 97 #[.slice a l.length cap, .int .i64 x] w fun e w' => e = .returned (.bool (decide (x ∈ l))) ∧ w' = w := by
  have hI := index_any a cap l x w hl hn
  clear hl
  go_enter Try.func97, Try.ntmps97
  go_wp2_with fail
  refine hI.mono ?_
  rintro e w' ⟨⟨r, rfl, h1, h2⟩, rfl⟩
  go_wp2_with fail
  go_ret
  refine ⟨?_, rfl⟩
  congr 2

theorem less_any (x y : Int) (w : World) : Calls Try.prog 98 #[.int .i64 x, .int .i64 y] w fun e w' => e = .returned (.bool (decide (x < y))) ∧ w' = w := by
  have hN : Calls Try.prog 103 #[.int .i64 x] w fun e w' => e = .returned (.bool false) ∧ w' = w := by
    go_enter Try.func103, Try.ntmps103
    go_wp2_with fail
    go_ret
    exact ⟨by simp, rfl⟩
  go_enter Try.func98, Try.ntmps98
  go_wp2_with (go_at_call 103; refine hN.mono ?_; rintro e w' ⟨rfl, rfl⟩)
  go_ret
  exact ⟨rfl, rfl⟩

end Go.Proofs.Ytdlbeffkgdjihaa
