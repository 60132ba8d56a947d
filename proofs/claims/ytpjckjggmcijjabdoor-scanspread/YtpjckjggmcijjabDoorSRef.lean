/-
  The document's words, walked: blanks.
-/
import Derived.Test.YtpjckjggmcijjabDoorSNamesMath
import Derived.Deep.CutRange
namespace Go.Proofs.YtpjckjggmcijjabDoor
open Go.RowKit

attribute [local go_sem] Oper.semAt_some

theorem drop_cons_at (s : ByteArray) (k : Nat) (hk : k < s.size) : (bs s).drop k = chr s k :: (bs s).drop (k + 1) := by
  have h : k < (bs s).length := by rw [bs_length]; exact hk
  rw [List.drop_eq_getElem_cons h]
  congr 1
  unfold chr
  simp [List.getD, h]

set_option maxRecDepth 100000 in
set_option maxHeartbeats 1000000 in
theorem rskip_any (s : ByteArray) (i : Nat) (w : World) (hi : i ≤ s.size) (hs : s.size ≤ 10000) : Calls Tryd.prog 20 #[.string s, .int .i64 i] w fun e w' => e = .returned (.int .i64 (skipTo s i)) ∧ w' = w := by
  obtain ⟨r, hr⟩ : ∃ r, r = skipTo s i := ⟨_, rfl⟩
  have HR : Hid (r = skipTo s i) := hr
  rw [← hr]
  clear hr
  go_enter Tryd.func20, Tryd.ntmps20
  go_wp2_with fail
  go_loopw [1, 5] (fun i v5 wr => ∃ (k : Nat) (f : Bool), k ≤ s.size ∧ i = .int .i64 k ∧ v5 = .bool f ∧ wr = w ∧ k + skipC f ((bs s).drop k) = r) (fun i _ _ => s.size - (intOf i).toNat)
  case atStart => exact ⟨i, false, hi, rfl, rfl, rfl, by rw [HR.out]; rfl⟩
  case round =>
    obtain ⟨k, f, hk, rfl, rfl, rfl, hinv⟩ := hrel
    have HI : Hid (k + skipC f ((bs s).drop k) = r) := hinv
    clear hinv
    by_cases hlt : k < s.size
    · have hix := fun w => index_at s k hlt w
      have HD : Hid ((bs s).drop k = chr s k :: (bs s).drop (k + 1)) := drop_cons_at s k hlt
      generalize chr s k = c at *
      go_upto_region 4 with fail
      go_cut [7] from 8 to 41 (fun v7 wx => v7 = .bool (blankB c) ∧ wx = wr)
      case first =>
        clear HI HD hix
        cases h32 : ((c : Int) == 32) with
        | true =>
          have HB : Hid (blankB c = true) := by show blankB c = true; simp [blankB] at *; omega
          go_wp2_with fail
          go_meet
          exact ⟨congrArg Value.bool HB.out.symm, rfl⟩
        | false => cases h9 : ((c : Int) == 9) with
          | true =>
            have HB : Hid (blankB c = true) := by show blankB c = true; simp [blankB] at *; omega
            go_wp2_with fail
            go_meet
            exact ⟨congrArg Value.bool HB.out.symm, rfl⟩
          | false => cases h10 : ((c : Int) == 10) with
            | true =>
              have HB : Hid (blankB c = true) := by show blankB c = true; simp [blankB] at *; omega
              go_wp2_with fail
              go_meet
              exact ⟨congrArg Value.bool HB.out.symm, rfl⟩
            | false => cases h13 : ((c : Int) == 13) with
              | true =>
                have HB : Hid (blankB c = true) := by show blankB c = true; simp [blankB] at *; omega
                go_wp2_with fail
                go_meet
                exact ⟨congrArg Value.bool HB.out.symm, rfl⟩
              | false =>
                have HB : Hid (blankB c = false) := by show blankB c = false; simp [blankB] at *; omega
                go_wp2_with fail
                go_meet
                exact ⟨congrArg Value.bool HB.out.symm, rfl⟩
      case rest =>
        obtain ⟨hv7, hwc⟩ := hcut
        subst hwc
        rw [hv7]
        clear hv7 hix
        cases f with
        | true =>
          have HN : Hid (k + 1 + skipC (!decide (c = 10)) ((bs s).drop (k + 1)) = r) := by
            have := HI.out
            rw [HD.out] at this
            conv at this => lhs; rhs; unfold skipC
            show _ = _
            omega
          by_cases h10 : c = 10
          · have hd : ((c : Int) != 10) = false := by simp; omega
            rw [decide_eq_true h10] at HN
            clear h10 HI HD
            go_wp2_with fail
            go_roundw
            case rel => exact ⟨k + 1, false, by omega, by go_num, rfl, trivial, HN.out⟩
            case measure => simp [intOf]; omega
          · have hd : ((c : Int) != 10) = true := by simp; omega
            rw [decide_eq_false h10] at HN
            clear h10 HI HD
            go_wp2_with fail
            go_roundw
            case rel => exact ⟨k + 1, true, by omega, by go_num, rfl, trivial, HN.out⟩
            case measure => simp [intOf]; omega
        | false =>
          by_cases h35 : c = 35
          · have hd : ((c : Int) == 35) = true := by simp; omega
            have HN : Hid (k + 1 + skipC true ((bs s).drop (k + 1)) = r) := by
              have := HI.out
              rw [HD.out] at this
              conv at this => lhs; rhs; unfold skipC
              rw [if_pos h35] at this
              show _ = _
              omega
            clear h35 HI HD
            go_wp2_with fail
            go_roundw
            case rel => exact ⟨k + 1, true, by omega, by go_num, rfl, trivial, HN.out⟩
            case measure => simp [intOf]; omega
          · have hd : ((c : Int) == 35) = false := by simp; omega
            cases hbl : blankB c with
            | true =>
              have HN : Hid (k + 1 + skipC false ((bs s).drop (k + 1)) = r) := by
                have := HI.out
                rw [HD.out] at this
                conv at this => lhs; rhs; unfold skipC
                rw [if_neg h35, if_pos hbl] at this
                show _ = _
                omega
              clear h35 HI HD hbl
              go_wp2_with fail
              go_roundw
              case rel => exact ⟨k + 1, false, by omega, by go_num, rfl, trivial, HN.out⟩
              case measure => simp [intOf]; omega
            | false =>
              have hrk : r = k := by
                have := HI.out
                rw [HD.out] at this
                conv at this => lhs; rhs; unfold skipC
                rw [if_neg h35, if_neg (by rw [hbl]; simp)] at this
                omega
              clear h35 HI HD hbl
              go_wp2_with fail
              go_ret
              exact ⟨by rw [hrk]; rfl, rfl⟩
    · have hrk : r = k := by
        have := HI.out
        have hnil : (bs s).drop k = [] := List.drop_eq_nil_of_le (by rw [bs_length]; omega)
        rw [hnil] at this
        have h0 : skipC f [] = 0 := by cases f <;> rfl
        omega
      go_wp2_with fail
      go_ret
      exact ⟨by rw [hrk]; rfl, rfl⟩

theorem rorders_any (w : World) : Calls Tryd.prog 37 #[] w fun e w' => e = .returned (.slice (some ⟨w.heap.size, 0, none⟩) 7 7) ∧ w'.heap[w.heap.size]? = some (.cells #[.string (ordAt 0), .string (ordAt 1), .string (ordAt 2), .string (ordAt 3), .string (ordAt 4), .string (ordAt 5), .string (ordAt 6)] 9 (0, 0)) ∧ w.grownBy w' none := by
  go_enter Tryd.func37, Tryd.ntmps37
  go_wp2_with fail
  go_ret
  exact ⟨rfl, heap_alloc_new w _, World.grownBy_alloc _ _ none⟩

end Go.Proofs.YtpjckjggmcijjabDoor
