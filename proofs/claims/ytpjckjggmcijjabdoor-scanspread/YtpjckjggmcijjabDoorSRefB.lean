/-
  The document's orders, walked: begun.
-/
import Derived.Test.YtpjckjggmcijjabDoorSRef
import Derived.Test.YtpjckjggmcijjabDoorSBegMath
namespace Go.Proofs.YtpjckjggmcijjabDoor
open Go.RowKit

attribute [local go_sem] Oper.semAt_some

/-- Does an order answer to a text: it is it, or begins with it? -/
def hitB (s : ByteArray) (whole : Bool) (o : ByteArray) : Prop := o = s ∨ (whole = false ∧ s.size < o.size ∧ o.extract 0 s.size = s)

theorem seven_cells {W : World} {B : Nat} {t : TypeId} (h : W.heap[B]? = some (.cells #[.string (ordAt 0), .string (ordAt 1), .string (ordAt 2), .string (ordAt 3), .string (ordAt 4), .string (ordAt 5), .string (ordAt 6)] t (0, 0))) (k : Nat) (hk : k < 7) : W.cell? ⟨B, k, none⟩ = some (.string (ordAt k)) := by
  obtain rfl | rfl | rfl | rfl | rfl | rfl | rfl : k = 0 ∨ k = 1 ∨ k = 2 ∨ k = 3 ∨ k = 4 ∨ k = 5 ∨ k = 6 := by omega
  all_goals (rw [cell_of_row _ _ _ _ _ _ h]; rfl)

set_option maxRecDepth 100000 in
set_option maxHeartbeats 1000000 in
theorem begun_any (s : ByteArray) (wh b : Bool) (w : World) (HB : Hid ((b = true → ∃ o, o < 7 ∧ hitB s wh (ordAt o)) ∧ (∀ o, o < 7 → hitB s wh (ordAt o) → b = true))) : Calls Tryd.prog 31 #[.string s, .bool wh] w fun e w' => e = .returned (.bool b) ∧ w.grownBy w' none := by
  go_enter Tryd.func31, Tryd.ntmps31
  go_wp2_with fail
  refine (rorders_any w).mono ?_
  rintro e W ⟨rfl, hrow, hg⟩
  have hcs := seven_cells hrow
  have HG : Hid (w.grownBy W none) := hg
  clear hrow hg
  go_wp2_with fail
  go_loopw [6] (fun i wr => ∃ k : Nat, k ≤ 7 ∧ i = .int .i64 k ∧ wr = W ∧ ∀ o, o < k → ¬ hitB s wh (ordAt o)) (fun i _ => 7 - (intOf i).toNat)
  case atStart => exact ⟨0, by omega, rfl, rfl, fun o ho => by omega⟩
  case round =>
    obtain ⟨k, hk, rfl, rfl, hno⟩ := hrel
    have HNO : Hid (∀ o, o < k → ¬ hitB s wh (ordAt o)) := hno
    clear hno
    by_cases hlt : k < 7
    · have hc := hcs k hlt
      have HHIT : Hid (hitB s wh (ordAt k) → b = true) := HB.out.2 k hlt
      have HNEXT : Hid (¬ hitB s wh (ordAt k) → ∀ o, o < k + 1 → ¬ hitB s wh (ordAt o)) := fun hn o ho => by
        by_cases e : o = k
        · rw [e]; exact hn
        · exact HNO.out o (by omega)
      clear hcs HB HNO
      generalize ordAt k = od at *
      by_cases h1 : od = s
      · have hb := HHIT.out (.inl h1)
        have he : (od.toList == s.toList) = true := by rw [h1]; simp
        subst hb
        clear h1
        go_wp2_with fail
        go_ret
        exact ⟨rfl, HG.out⟩
      · have he : (od.toList == s.toList) = false := by simpa [bytes_toList] using h1
        cases wh with
        | true =>
          have HN := HNEXT.out (fun hh => by rcases hh with h | ⟨h, _⟩; exact h1 h; cases h)
          have HN' : Hid _ := HN
          clear h1 HN HNEXT HHIT
          go_wp2_with fail
          go_roundw
          case rel => exact ⟨k + 1, by omega, by go_num, trivial, HN'.out⟩
          case measure => simp [intOf]; omega
        | false =>
          by_cases h2 : s.size < od.size
          · by_cases h3 : od.extract 0 s.size = s
            · have hb := HHIT.out (.inr ⟨rfl, h2, h3⟩)
              have he3 : ((od.extract 0 s.size).toList == s.toList) = true := by rw [h3]; simp
              subst hb
              clear h1 h3
              go_wp2_with fail
              go_ret
              exact ⟨rfl, HG.out⟩
            · have he3 : ((od.extract 0 s.size).toList == s.toList) = false := by simpa [bytes_toList] using h3
              have HN := HNEXT.out (fun hh => by rcases hh with h | ⟨_, _, h⟩; exact h1 h; exact h3 h)
              have HN' : Hid _ := HN
              clear h1 HN HNEXT HHIT h3
              go_wp2_with fail
              go_roundw
              case rel => exact ⟨k + 1, by omega, by go_num, trivial, HN'.out⟩
              case measure => simp [intOf]; omega
          · have HN := HNEXT.out (fun hh => by rcases hh with h | ⟨_, h, _⟩; exact h1 h; exact h2 h)
            have HN' : Hid _ := HN
            clear h1 HN HNEXT HHIT
            go_wp2_with fail
            go_roundw
            case rel => exact ⟨k + 1, by omega, by go_num, trivial, HN'.out⟩
            case measure => simp [intOf]; omega
    · obtain rfl : k = 7 := by omega
      have hb : b = false := Bool.eq_false_iff.2 fun hb => by
        obtain ⟨o, ho, hh⟩ := HB.out.1 hb
        exact HNO.out o ho hh
      subst hb
      clear hcs
      go_wp2_with fail
      go_ret
      exact ⟨rfl, HG.out⟩

end Go.Proofs.YtpjckjggmcijjabDoor
