/-
  Closed of a grammar whose first nonterminal has a name: it is not.
-/
import Derived.Test.YtdlbeffkgdjihaaValidWalk
namespace Go.Proofs.Ytdlbeffkgdjihaa
open Go.RowKit Go.Maps Go.Shelf

attribute [local go_sem] Oper.semAt_some

set_option maxRecDepth 100000 in
set_option maxHeartbeats 400000 in
theorem hasAdded_no (b off : Nat) (ta la pa : Option Addr) (tn nn ln pn tc nc lc pc : Nat) (st : Int) (s : ByteArray) (w : World) (hc : w.cell? ⟨b, off, none⟩ = some (.string s)) (h0 : 0 < nn) (hs : 0 < s.size) :
    Calls Try.prog 35 #[.agg #[.slice ta tn tc, .slice (some ⟨b, off, none⟩) nn nc, .slice la ln lc, .int .i64 st, .slice pa pn pc]] w fun e w' => e = .returned (.bool false) ∧ w.grownBy w' none := by
  have hc' : ∀ o, (w.alloc o).cell? ⟨b, off, none⟩ = some (.string s) := fun o => (World.grownBy_alloc w o none).cell hc (by simp)
  have hc2 : ∀ o, (w.alloc o).drew.cell? ⟨b, off, none⟩ = some (.string s) := fun o => hc' o
  have hd : decide (0 < (nn : Int)) = true := decide_eq_true (by omega)
  have hd' : decide (0 < nn) = true := decide_eq_true h0
  have hne : (s.toList == (ByteArray.mk #[]).toList) = false := by
    rw [Bool.eq_false_iff]
    intro h
    have := (toList_empty s).1 (by simpa using h)
    rw [this] at hs
    simp [ByteArray.size] at hs
  have hne2 : s.toList.isEmpty = false := by
    cases h : s.toList with
    | nil =>
      rw [ByteArray.toList_eq] at h
      have : s.size = 0 := by show s.data.size = 0; rw [← Array.length_toList, h]; rfl
      omega
    | cons x r => rfl
  clear hc hs
  go_enter Try.func35, Try.ntmps35
  go_wp2_with fail
  go_quiet (fail)
  go_wp2
  go_ret
  exact ⟨by first | rfl | simp, grown_trans (World.grownBy_alloc _ _ none) (grown_drewN _ _)⟩

theorem closed_no (b off : Nat) (ta la pa : Option Addr) (tn nn ln pn tc nc lc pc : Nat) (st : Int) (s : ByteArray) (w : World) (hc : w.cell? ⟨b, off, none⟩ = some (.string s)) (h0 : 0 < nn) (hs : 0 < s.size) :
    Calls Try.prog 13 #[.agg #[.slice ta tn tc, .slice (some ⟨b, off, none⟩) nn nc, .slice la ln lc, .int .i64 st, .slice pa pn pc]] w fun e w' => e = .returned (.bool false) ∧ w.grownBy w' none := by
  have HA : Hid (∀ o, Calls Try.prog 35 #[.agg #[.slice ta tn tc, .slice (some ⟨b, off, none⟩) nn nc, .slice la ln lc, .int .i64 st, .slice pa pn pc]] (w.alloc o) fun e w' => e = .returned (.bool false) ∧ (w.alloc o).grownBy w' none) := fun o => hasAdded_no b off ta la pa tn nn ln pn tc nc lc pc st s (w.alloc o) ((World.grownBy_alloc w o none).cell hc (by simp)) h0 hs
  clear hc h0 hs
  go_enter Try.func13, Try.ntmps13
  go_wp2_with fail
  refine (HA.out _).mono ?_
  rintro e w2 ⟨rfl, hg2⟩
  have HG2 : Hid (w.grownBy w2 none) := grown_trans (World.grownBy_alloc _ _ none) hg2
  clear hg2
  go_wp2_with fail
  go_ret
  exact ⟨rfl, HG2.out⟩

end Go.Proofs.Ytdlbeffkgdjihaa
