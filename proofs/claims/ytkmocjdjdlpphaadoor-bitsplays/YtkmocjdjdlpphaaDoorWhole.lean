/-
  The document's Whole, of a lent list that nobody has changed.
-/
import Derived.Test.YtkmocjdjdlpphaaDoorLent
namespace Go.Proofs.YtkmocjdjdlpphaaDoor
open Go.RowKit Go.Shelf

set_option maxHeartbeats 2000000 in
theorem whole_any (g capA : Nat) (a : Option Addr) (cap : Nat) (l : List Int) (w : World) (hL : LentAt w g l 8) (hl : IntsAt w a l) (hlen : l.length ≤ 17592186044416) :
    Calls Tryd.prog 29 #[.slice (some ⟨g, 0, none⟩) (l.length + 8) capA, .slice a l.length cap] w fun e w' => e = .returned (.bool true) ∧ ∃ k, w' = w.drewN k := by
  have HF : Hid (∀ i, i < l.length → w.cell? ⟨g, i, none⟩ = some (.int .i64 (l.getD i 0)) ∧ ∃ b off, a = some ⟨b, off, none⟩ ∧ w.cell? ⟨b, off + i, none⟩ = some (.int .i64 (l.getD i 0))) := by
    intro i hi
    refine ⟨?_, ?_⟩
    · rw [cell_of_row w g i _ _ _ hL]; simpa using lentL_front l 8 i hi
    · rcases hl with rfl | ⟨b, off, rfl, hc⟩
      · simp at hi
      · exact ⟨b, off, rfl, hc i hi⟩
  have HBK : Hid (∀ i, l.length ≤ i → i < l.length + 8 → w.cell? ⟨g, i, none⟩ = some (.int .i64 (7000 + (i : Int) - l.length))) := by
    intro i h1 h2
    rw [cell_of_row w g i _ _ _ hL]; simpa using lentL_back l i h1 h2
  clear hL hl
  go_enter Tryd.func29, Tryd.ntmps29
  go_wp2_with fail
  go_loopw [5] (fun i wr => ∃ k j : Nat, k ≤ l.length + 8 ∧ i = .int .i64 k ∧ wr = w.drewN j) (fun i _ => l.length + 8 - (intOf i).toNat)
  case atStart => exact ⟨0, 0, Nat.zero_le _, rfl, rfl⟩
  case round =>
    obtain ⟨k, j, hk, rfl, rfl⟩ := hrel
    by_cases hlt : k < l.length + 8
    · by_cases hkl : k < l.length
      · obtain ⟨hc1, b, off, ha, hc2⟩ := HF.out k hkl
        generalize l.getD k 0 = x at *
        have hd : decide (k < l.length) = true := decide_eq_true hkl
        have hd2 : decide (l.length ≤ k) = false := decide_eq_false (by omega)
        have hbb : (x != x) = false := by simp
        have hbb2 : (x == x) = true := by simp
        subst ha
        go_wp2_with fail
        go_quiet (fail)
        go_wp2
        go_roundw
        case rel => exact ⟨k + 1, _, by omega, by go_num, rfl⟩
        case measure => simp [intOf]; omega
      · have hc1 := HBK.out k (by omega) hlt
        have hd : decide (k < l.length) = false := decide_eq_false hkl
        have hd2 : decide (l.length ≤ k) = true := decide_eq_true (by omega)
        have hbb : ((7000 + (k : Int) - l.length) != (7000 + (k : Int) - l.length)) = false := by simp
        go_wp2_with fail
        go_quiet (fail)
        go_wp2
        go_roundw
        case rel => exact ⟨k + 1, _, by omega, by go_num, rfl⟩
        case measure => simp [intOf]; omega
    · go_wp2
      go_ret
      exact ⟨rfl, _, rfl⟩

end Go.Proofs.YtkmocjdjdlpphaaDoor
