/-
  Lists that are compared: slices.Equal of numbers, texts, terminals; the document's SameInts.
-/
import Derived.Test.YtkbpnafahimeiaaAwakeWalk
namespace Go.Proofs.Ytkbpnafahimeiaa
open Go.RowKit Go.Maps Go.Shelf

attribute [local go_sem] Oper.semAt_some

theorem list_same {α : Type} (d : α) {l m : List α} (hn : l.length = m.length) (h : ∀ i, i < l.length → l.getD i d = m.getD i d) : l = m := by
  apply List.ext_getElem hn
  intro i h1 h2
  have := h i h1
  simpa [List.getD, h1, h2] using this
theorem bytes_toList (s t : ByteArray) : (s.toList = t.toList) ↔ s = t := by
  rw [ByteArray.toList_eq, ByteArray.toList_eq]
  exact ⟨bytes_ext, fun h => by rw [h]⟩

set_option maxRecDepth 100000 in
set_option maxHeartbeats 1000000 in
theorem equalInt_any (a1 a2 : Option Addr) (c1 c2 : Nat) (l1 l2 : List Int) (w : World) (h1 : IntsAt w a1 l1) (h2 : IntsAt w a2 l2) (hb : l1.length ≤ 17592186044416) (r : Bool) (hr : r = true ↔ l1 = l2) :
    Calls Try.prog 39 #[.slice a1 l1.length c1, .slice a2 l2.length c2] w fun e w' => e = .returned (.bool r) ∧ ∃ q, w' = w.drewN q := by
  have H1 : Hid (IntsAt w a1 l1) := h1
  have H2 : Hid (IntsAt w a2 l2) := h2
  have HRT : Hid (l1.length = l2.length → (∀ i, i < l1.length → l1.getD i 0 = l2.getD i 0) → r = true) := fun hn h => hr.2 (list_same 0 hn h)
  have HRF : Hid (∀ i, l1.getD i 0 ≠ l2.getD i 0 → r = false) := fun i h => Bool.eq_false_iff.2 fun hh => h (by rw [hr.1 hh])
  have HRN : Hid (l1.length ≠ l2.length → r = false) := fun h => Bool.eq_false_iff.2 fun hh => h (by rw [hr.1 hh])
  obtain ⟨n, hn⟩ : ∃ n, n = l1.length := ⟨_, rfl⟩
  obtain ⟨m, hm⟩ : ∃ m, m = l2.length := ⟨_, rfl⟩
  have HN : Hid (l1.length = n ∧ l2.length = m) := ⟨hn.symm, hm.symm⟩
  rw [← hn] at hb ⊢
  rw [← hm]
  clear h1 h2 hr hn hm
  by_cases hnm : n = m
  · subst hnm
    go_enter Try.func39, Try.ntmps39
    go_wp2_with fail
    go_loopw [13] (fun i wr => ∃ k : Nat, k ≤ n ∧ i = .int .i64 k ∧ (∃ q, wr = w.drewN q) ∧ ∀ j, j < k → l1.getD j 0 = l2.getD j 0) (fun i _ => n - (intOf i).toNat)
    case atStart => exact ⟨0, Nat.zero_le _, rfl, ⟨0, rfl⟩, fun j hj => by omega⟩
    case round =>
      obtain ⟨k, hk, rfl, ⟨q, rfl⟩, hall⟩ := hrel
      have HA : Hid (∀ j, j < k → l1.getD j 0 = l2.getD j 0) := hall
      clear hall
      by_cases hlt : k < n
      · obtain ⟨b1, o1, rfl, hc1⟩ : ∃ b off, a1 = some ⟨b, off, none⟩ ∧ ∀ i, i < l1.length → w.cell? ⟨b, off + i, none⟩ = some (.int .i64 (l1.getD i 0)) := by
          rcases H1.out with h | h
          · have := HN.out.1; subst h; simp at this; omega
          · exact h
        obtain ⟨b2, o2, rfl, hc2⟩ : ∃ b off, a2 = some ⟨b, off, none⟩ ∧ ∀ i, i < l2.length → w.cell? ⟨b, off + i, none⟩ = some (.int .i64 (l2.getD i 0)) := by
          rcases H2.out with h | h
          · have := HN.out.2; subst h; simp at this; omega
          · exact h
        have d1 := hc1 k (by rw [HN.out.1]; exact hlt)
        have d2 := hc2 k (by rw [HN.out.2]; exact hlt)
        have HF : Hid (l1.getD k 0 ≠ l2.getD k 0 → r = false) := HRF.out k
        have HS : Hid (l1.getD k 0 = l2.getD k 0 → ∀ j, j < k + 1 → l1.getD j 0 = l2.getD j 0) := fun h j hj => by
          by_cases e : j = k
          · rw [e]; exact h
          · exact HA.out j (by omega)
        clear hc1 hc2
        generalize l1.getD k 0 = x at *
        generalize l2.getD k 0 = y at *
        by_cases hxy : x = y
        · have hd : (x != y) = false := by simp [hxy]
          have HS' := HS.out hxy
          have HS2 : Hid (∀ j, j < k + 1 → l1.getD j 0 = l2.getD j 0) := HS'
          clear hxy HS' HS HF
          go_wp2_with fail
          go_quiet (fail)
          go_wp2
          go_roundw
          case rel => exact ⟨k + 1, by omega, by go_num, ⟨_, rfl⟩, HS2.out⟩
          case measure => simp [intOf]; omega
        · have hd : (x != y) = true := by simp [hxy]
          have hrf := HF.out hxy
          clear hxy HS HF
          go_wp2_with fail
          go_quiet (fail)
          go_wp2
          go_ret
          exact ⟨by rw [hrf]; rfl, q + nq, by simp⟩
      · obtain rfl : k = n := by omega
        have hrt : r = true := HRT.out (by rw [HN.out.1, HN.out.2]) fun i hi => HA.out i (by rw [← HN.out.1]; exact hi)
        go_wp2_with fail
        go_ret
        exact ⟨by rw [hrt]; rfl, q, rfl⟩
  · have hd : ((n : Int) != (m : Int)) = true := by simp; omega
    have hrf : r = false := HRN.out (by rw [HN.out.1, HN.out.2]; exact hnm)
    clear hnm
    go_enter Try.func39, Try.ntmps39
    go_wp2_with fail
    go_ret
    exact ⟨by rw [hrf]; rfl, 0, rfl⟩

set_option maxRecDepth 100000 in
set_option maxHeartbeats 1000000 in
theorem sameInts_any (a1 a2 : Option Addr) (c1 c2 : Nat) (l1 l2 : List Int) (w : World) (h1 : IntsAt w a1 l1) (h2 : IntsAt w a2 l2) (hb : l1.length ≤ 17592186044416) (r : Bool) (hr : r = true ↔ l1 = l2) :
    Calls Try.prog 36 #[.slice a1 l1.length c1, .slice a2 l2.length c2] w fun e w' => e = .returned (.bool r) ∧ ∃ q, w' = w.drewN q := by
  have H1 : Hid (IntsAt w a1 l1) := h1
  have H2 : Hid (IntsAt w a2 l2) := h2
  have HRT : Hid (l1.length = l2.length → (∀ i, i < l1.length → l1.getD i 0 = l2.getD i 0) → r = true) := fun hn h => hr.2 (list_same 0 hn h)
  have HRF : Hid (∀ i, l1.getD i 0 ≠ l2.getD i 0 → r = false) := fun i h => Bool.eq_false_iff.2 fun hh => h (by rw [hr.1 hh])
  have HRN : Hid (l1.length ≠ l2.length → r = false) := fun h => Bool.eq_false_iff.2 fun hh => h (by rw [hr.1 hh])
  obtain ⟨n, hn⟩ : ∃ n, n = l1.length := ⟨_, rfl⟩
  obtain ⟨m, hm⟩ : ∃ m, m = l2.length := ⟨_, rfl⟩
  have HN : Hid (l1.length = n ∧ l2.length = m) := ⟨hn.symm, hm.symm⟩
  rw [← hn] at hb ⊢
  rw [← hm]
  clear h1 h2 hr hn hm
  by_cases hnm : n = m
  · subst hnm
    go_enter Try.func36, Try.ntmps36
    go_wp2_with fail
    go_loopw [5] (fun i wr => ∃ k : Nat, k ≤ n ∧ i = .int .i64 k ∧ (∃ q, wr = w.drewN q) ∧ ∀ j, j < k → l1.getD j 0 = l2.getD j 0) (fun i _ => n - (intOf i).toNat)
    case atStart => exact ⟨0, Nat.zero_le _, rfl, ⟨0, rfl⟩, fun j hj => by omega⟩
    case round =>
      obtain ⟨k, hk, rfl, ⟨q, rfl⟩, hall⟩ := hrel
      have HA : Hid (∀ j, j < k → l1.getD j 0 = l2.getD j 0) := hall
      clear hall
      by_cases hlt : k < n
      · obtain ⟨b1, o1, rfl, hc1⟩ : ∃ b off, a1 = some ⟨b, off, none⟩ ∧ ∀ i, i < l1.length → w.cell? ⟨b, off + i, none⟩ = some (.int .i64 (l1.getD i 0)) := by
          rcases H1.out with h | h
          · have := HN.out.1; subst h; simp at this; omega
          · exact h
        obtain ⟨b2, o2, rfl, hc2⟩ : ∃ b off, a2 = some ⟨b, off, none⟩ ∧ ∀ i, i < l2.length → w.cell? ⟨b, off + i, none⟩ = some (.int .i64 (l2.getD i 0)) := by
          rcases H2.out with h | h
          · have := HN.out.2; subst h; simp at this; omega
          · exact h
        have d1 := hc1 k (by rw [HN.out.1]; exact hlt)
        have d2 := hc2 k (by rw [HN.out.2]; exact hlt)
        have HF : Hid (l1.getD k 0 ≠ l2.getD k 0 → r = false) := HRF.out k
        have HS : Hid (l1.getD k 0 = l2.getD k 0 → ∀ j, j < k + 1 → l1.getD j 0 = l2.getD j 0) := fun h j hj => by
          by_cases e : j = k
          · rw [e]; exact h
          · exact HA.out j (by omega)
        clear hc1 hc2
        generalize l1.getD k 0 = x at *
        generalize l2.getD k 0 = y at *
        by_cases hxy : x = y
        · have hd : (x != y) = false := by simp [hxy]
          have HS' := HS.out hxy
          have HS2 : Hid (∀ j, j < k + 1 → l1.getD j 0 = l2.getD j 0) := HS'
          clear hxy HS' HS HF
          go_wp2_with fail
          go_quiet (fail)
          go_wp2
          go_roundw
          case rel => exact ⟨k + 1, by omega, by go_num, ⟨_, rfl⟩, HS2.out⟩
          case measure => simp [intOf]; omega
        · have hd : (x != y) = true := by simp [hxy]
          have hrf := HF.out hxy
          clear hxy HS HF
          go_wp2_with fail
          go_quiet (fail)
          go_wp2
          go_ret
          exact ⟨by rw [hrf]; rfl, q + nq, by simp⟩
      · obtain rfl : k = n := by omega
        have hrt : r = true := HRT.out (by rw [HN.out.1, HN.out.2]) fun i hi => HA.out i (by rw [← HN.out.1]; exact hi)
        go_wp2_with fail
        go_ret
        exact ⟨by rw [hrt]; rfl, q, rfl⟩
  · have hd : ((n : Int) != (m : Int)) = true := by simp; omega
    have hrf : r = false := HRN.out (by rw [HN.out.1, HN.out.2]; exact hnm)
    clear hnm
    go_enter Try.func36, Try.ntmps36
    go_wp2_with fail
    go_ret
    exact ⟨by rw [hrf]; rfl, 0, rfl⟩

set_option maxRecDepth 100000 in
set_option maxHeartbeats 1000000 in
theorem equalStr_any (a1 a2 : Option Addr) (c1 c2 : Nat) (l1 l2 : List ByteArray) (w : World) (h1 : StrsAt w a1 l1) (h2 : StrsAt w a2 l2) (hb : l1.length ≤ 17592186044416) (r : Bool) (hr : r = true ↔ l1 = l2) :
    Calls Try.prog 38 #[.slice a1 l1.length c1, .slice a2 l2.length c2] w fun e w' => e = .returned (.bool r) ∧ ∃ q, w' = w.drewN q := by
  have H1 : Hid (StrsAt w a1 l1) := h1
  have H2 : Hid (StrsAt w a2 l2) := h2
  have HRT : Hid (l1.length = l2.length → (∀ i, i < l1.length → l1.getD i ⟨#[]⟩ = l2.getD i ⟨#[]⟩) → r = true) := fun hn h => hr.2 (list_same ⟨#[]⟩ hn h)
  have HRF : Hid (∀ i, l1.getD i ⟨#[]⟩ ≠ l2.getD i ⟨#[]⟩ → r = false) := fun i h => Bool.eq_false_iff.2 fun hh => h (by rw [hr.1 hh])
  have HRN : Hid (l1.length ≠ l2.length → r = false) := fun h => Bool.eq_false_iff.2 fun hh => h (by rw [hr.1 hh])
  obtain ⟨n, hn⟩ : ∃ n, n = l1.length := ⟨_, rfl⟩
  obtain ⟨m, hm⟩ : ∃ m, m = l2.length := ⟨_, rfl⟩
  have HN : Hid (l1.length = n ∧ l2.length = m) := ⟨hn.symm, hm.symm⟩
  rw [← hn] at hb ⊢
  rw [← hm]
  clear h1 h2 hr hn hm
  by_cases hnm : n = m
  · subst hnm
    go_enter Try.func38, Try.ntmps38
    go_wp2_with fail
    go_loopw [13] (fun i wr => ∃ k : Nat, k ≤ n ∧ i = .int .i64 k ∧ (∃ q, wr = w.drewN q) ∧ ∀ j, j < k → l1.getD j ⟨#[]⟩ = l2.getD j ⟨#[]⟩) (fun i _ => n - (intOf i).toNat)
    case atStart => exact ⟨0, Nat.zero_le _, rfl, ⟨0, rfl⟩, fun j hj => by omega⟩
    case round =>
      obtain ⟨k, hk, rfl, ⟨q, rfl⟩, hall⟩ := hrel
      have HA : Hid (∀ j, j < k → l1.getD j ⟨#[]⟩ = l2.getD j ⟨#[]⟩) := hall
      clear hall
      by_cases hlt : k < n
      · obtain ⟨b1, o1, rfl, hc1⟩ : ∃ b off, a1 = some ⟨b, off, none⟩ ∧ ∀ i, i < l1.length → w.cell? ⟨b, off + i, none⟩ = some (.string (l1.getD i ⟨#[]⟩)) := by
          rcases H1.out with h | h
          · have := HN.out.1; subst h; simp at this; omega
          · exact h
        obtain ⟨b2, o2, rfl, hc2⟩ : ∃ b off, a2 = some ⟨b, off, none⟩ ∧ ∀ i, i < l2.length → w.cell? ⟨b, off + i, none⟩ = some (.string (l2.getD i ⟨#[]⟩)) := by
          rcases H2.out with h | h
          · have := HN.out.2; subst h; simp at this; omega
          · exact h
        have d1 := hc1 k (by rw [HN.out.1]; exact hlt)
        have d2 := hc2 k (by rw [HN.out.2]; exact hlt)
        have HF : Hid (l1.getD k ⟨#[]⟩ ≠ l2.getD k ⟨#[]⟩ → r = false) := HRF.out k
        have HS : Hid (l1.getD k ⟨#[]⟩ = l2.getD k ⟨#[]⟩ → ∀ j, j < k + 1 → l1.getD j ⟨#[]⟩ = l2.getD j ⟨#[]⟩) := fun h j hj => by
          by_cases e : j = k
          · rw [e]; exact h
          · exact HA.out j (by omega)
        clear hc1 hc2
        generalize l1.getD k ⟨#[]⟩ = x at *
        generalize l2.getD k ⟨#[]⟩ = y at *
        by_cases hxy : x = y
        · have hd : (x.toList == y.toList) = true := by simp [hxy]
          have HS' := HS.out hxy
          have HS2 : Hid (∀ j, j < k + 1 → l1.getD j ⟨#[]⟩ = l2.getD j ⟨#[]⟩) := HS'
          clear hxy HS' HS HF
          go_wp2_with fail
          go_quiet (fail)
          go_wp2
          go_roundw
          case rel => exact ⟨k + 1, by omega, by go_num, ⟨_, rfl⟩, HS2.out⟩
          case measure => simp [intOf]; omega
        · have hd : (x.toList == y.toList) = false := beq_eq_false_iff_ne.2 fun h => hxy ((bytes_toList x y).1 h)
          have hrf := HF.out hxy
          clear hxy HS HF
          go_wp2_with fail
          go_quiet (fail)
          go_wp2
          go_ret
          exact ⟨by rw [hrf]; rfl, q + nq, by simp⟩
      · obtain rfl : k = n := by omega
        have hrt : r = true := HRT.out (by rw [HN.out.1, HN.out.2]) fun i hi => HA.out i (by rw [← HN.out.1]; exact hi)
        go_wp2_with fail
        go_ret
        exact ⟨by rw [hrt]; rfl, q, rfl⟩
  · have hd : ((n : Int) != (m : Int)) = true := by simp; omega
    have hrf : r = false := HRN.out (by rw [HN.out.1, HN.out.2]; exact hnm)
    clear hnm
    go_enter Try.func38, Try.ntmps38
    go_wp2_with fail
    go_ret
    exact ⟨by rw [hrf]; rfl, 0, rfl⟩

set_option maxRecDepth 100000 in
set_option maxHeartbeats 1000000 in
theorem equalTerm_any (a1 a2 : Option Addr) (c1 c2 : Nat) (l1 l2 : List (ByteArray × Int)) (w : World) (h1 : TermsAt w a1 l1) (h2 : TermsAt w a2 l2) (hb : l1.length ≤ 17592186044416) (r : Bool) (hr : r = true ↔ l1 = l2) :
    Calls Try.prog 37 #[.slice a1 l1.length c1, .slice a2 l2.length c2] w fun e w' => e = .returned (.bool r) ∧ ∃ q, w' = w.drewN q := by
  have H1 : Hid (TermsAt w a1 l1) := h1
  have H2 : Hid (TermsAt w a2 l2) := h2
  have HRT : Hid (l1.length = l2.length → (∀ i, i < l1.length → l1.getD i (⟨#[]⟩, 0) = l2.getD i (⟨#[]⟩, 0)) → r = true) := fun hn h => hr.2 (list_same (⟨#[]⟩, 0) hn h)
  have HRF : Hid (∀ i, l1.getD i (⟨#[]⟩, 0) ≠ l2.getD i (⟨#[]⟩, 0) → r = false) := fun i h => Bool.eq_false_iff.2 fun hh => h (by rw [hr.1 hh])
  have HRN : Hid (l1.length ≠ l2.length → r = false) := fun h => Bool.eq_false_iff.2 fun hh => h (by rw [hr.1 hh])
  obtain ⟨n, hn⟩ : ∃ n, n = l1.length := ⟨_, rfl⟩
  obtain ⟨m, hm⟩ : ∃ m, m = l2.length := ⟨_, rfl⟩
  have HN : Hid (l1.length = n ∧ l2.length = m) := ⟨hn.symm, hm.symm⟩
  rw [← hn] at hb ⊢
  rw [← hm]
  clear h1 h2 hr hn hm
  by_cases hnm : n = m
  · subst hnm
    go_enter Try.func37, Try.ntmps37
    go_wp2_with fail
    go_loopw [13] (fun i wr => ∃ k : Nat, k ≤ n ∧ i = .int .i64 k ∧ (∃ q, wr = w.drewN q) ∧ ∀ j, j < k → l1.getD j (⟨#[]⟩, 0) = l2.getD j (⟨#[]⟩, 0)) (fun i _ => n - (intOf i).toNat)
    case atStart => exact ⟨0, Nat.zero_le _, rfl, ⟨0, rfl⟩, fun j hj => by omega⟩
    case round =>
      obtain ⟨k, hk, rfl, ⟨q, rfl⟩, hall⟩ := hrel
      have HA : Hid (∀ j, j < k → l1.getD j (⟨#[]⟩, 0) = l2.getD j (⟨#[]⟩, 0)) := hall
      clear hall
      by_cases hlt : k < n
      · obtain ⟨b1, o1, rfl, hc1⟩ : ∃ b off, a1 = some ⟨b, off, none⟩ ∧ ∀ i, i < l1.length → w.cell? ⟨b, off + i * 2, none⟩ = some (.string (l1.getD i (⟨#[]⟩, 0)).1) ∧ w.cell? ⟨b, off + i * 2 + 1, none⟩ = some (.int .i64 (l1.getD i (⟨#[]⟩, 0)).2) := by
          rcases H1.out with h | h
          · have := HN.out.1; subst h; simp at this; omega
          · exact h
        obtain ⟨b2, o2, rfl, hc2⟩ : ∃ b off, a2 = some ⟨b, off, none⟩ ∧ ∀ i, i < l2.length → w.cell? ⟨b, off + i * 2, none⟩ = some (.string (l2.getD i (⟨#[]⟩, 0)).1) ∧ w.cell? ⟨b, off + i * 2 + 1, none⟩ = some (.int .i64 (l2.getD i (⟨#[]⟩, 0)).2) := by
          rcases H2.out with h | h
          · have := HN.out.2; subst h; simp at this; omega
          · exact h
        obtain ⟨d1, d3⟩ := hc1 k (by rw [HN.out.1]; exact hlt)
        obtain ⟨d2, d4⟩ := hc2 k (by rw [HN.out.2]; exact hlt)
        have HF : Hid (l1.getD k (⟨#[]⟩, 0) ≠ l2.getD k (⟨#[]⟩, 0) → r = false) := HRF.out k
        have HS : Hid (l1.getD k (⟨#[]⟩, 0) = l2.getD k (⟨#[]⟩, 0) → ∀ j, j < k + 1 → l1.getD j (⟨#[]⟩, 0) = l2.getD j (⟨#[]⟩, 0)) := fun h j hj => by
          by_cases e : j = k
          · rw [e]; exact h
          · exact HA.out j (by omega)
        clear hc1 hc2
        generalize l1.getD k (⟨#[]⟩, 0) = x at *
        generalize l2.getD k (⟨#[]⟩, 0) = y at *
        obtain ⟨x, u⟩ := x
        obtain ⟨y, v⟩ := y
        have hne := neqTerm x y u v
        by_cases hxy : (x, u) = (y, v)
        · have hd : (x.toList == y.toList && u == v) = true := by simp at hxy; simp [hxy]
          have hne' : ∀ w, (binOp .neq 74 (.agg #[.string x, .int .i64 u]) (.agg #[.string y, .int .i64 v])).run Try.prog w = .ok (.bool false) w := fun w => by rw [hne, hd]; rfl
          have HS' := HS.out hxy
          have HS2 : Hid (∀ j, j < k + 1 → l1.getD j (⟨#[]⟩, 0) = l2.getD j (⟨#[]⟩, 0)) := HS'
          clear hxy HS' HS HF hd hne
          go_wp2_with fail
          go_quiet (fail)
          go_wp2
          go_roundw
          case rel => exact ⟨k + 1, by omega, by go_num, ⟨_, rfl⟩, HS2.out⟩
          case measure => simp [intOf]; omega
        · have hd : (x.toList == y.toList && u == v) = false := by
            rw [Bool.eq_false_iff]
            intro h
            simp only [Bool.and_eq_true, beq_iff_eq, bytes_toList] at h
            exact hxy (by rw [h.1, h.2])
          have hne' : ∀ w, (binOp .neq 74 (.agg #[.string x, .int .i64 u]) (.agg #[.string y, .int .i64 v])).run Try.prog w = .ok (.bool true) w := fun w => by rw [hne, hd]; rfl
          have hrf := HF.out hxy
          clear hxy HS HF hd hne
          go_wp2_with fail
          go_quiet (fail)
          go_wp2
          go_ret
          exact ⟨by rw [hrf]; rfl, q + nq, by simp⟩
      · obtain rfl : k = n := by omega
        have hrt : r = true := HRT.out (by rw [HN.out.1, HN.out.2]) fun i hi => HA.out i (by rw [← HN.out.1]; exact hi)
        go_wp2_with fail
        go_ret
        exact ⟨by rw [hrt]; rfl, q, rfl⟩
  · have hd : ((n : Int) != (m : Int)) = true := by simp; omega
    have hrf : r = false := HRN.out (by rw [HN.out.1, HN.out.2]; exact hnm)
    clear hnm
    go_enter Try.func37, Try.ntmps37
    go_wp2_with fail
    go_ret
    exact ⟨by rw [hrf]; rfl, 0, rfl⟩

end Go.Proofs.Ytkbpnafahimeiaa
