/-
  The document's own sets: Meets.
-/
import Derived.Test.YtkmocjdjdlpphaaDoorRefEq
namespace Go.Proofs.YtkmocjdjdlpphaaDoor
open Go.RowKit

theorem hasB_nat (m x : Nat) : hasB m (x : Int) = m.testBit x := by unfold hasB; simp

/-- A document's set that nobody made. -/
def REmpty (w : World) (q : Nat) : Prop := w.heap[q]? = some (.cells #[.slice none 0 0] 70 (0, 0))
theorem REmpty.lt {w : World} {q : Nat} (h : REmpty w q) : q < w.heap.size := (Array.getElem?_eq_some_iff.1 h).1
theorem REmpty.hcell {w : World} {q : Nat} (h : REmpty w q) : w.cell? ⟨q, 0, none⟩ = some (.slice none 0 0) := cell_of_row w q 0 _ _ _ h

theorem ref_has_empty (q x : Nat) (w : World) (h : REmpty w q) :
    Calls Tryd.prog 35 #[.pointer (some ⟨q, 0, none⟩), .int .i64 (x : Int)] w fun e w' => e = .returned (.bool false) ∧ w' = w := by
  have hh := h.hcell
  have hd : decide ((0 : Int) ≤ (x : Int)) = true := decide_eq_true (by omega)
  clear h
  go_enter Tryd.func35, Tryd.ntmps35
  go_wp2
  go_ret
  exact ⟨rfl, rfl⟩

theorem rmembers_empty (q : Nat) (w : World) (h : REmpty w q) :
    Calls Tryd.prog 12 #[.pointer (some ⟨q, 0, none⟩)] w fun e w' => e = .returned (.slice none 0 0) ∧ w' = w := by
  have hh := h.hcell
  clear h
  go_enter Tryd.func12, Tryd.ntmps12
  go_wp2
  go_loop [3, 4] (fun v i => v = .slice none 0 0 ∧ i = .int .i64 0) (fun _ _ => 0)
  case atStart => exact ⟨rfl, rfl⟩
  case round =>
    obtain ⟨rfl, rfl⟩ := hrel
    go_wp2
    go_ret
    exact ⟨rfl, rfl⟩

/-- A document's set, made or not, with its members. -/
def AnyRef (w : World) (q : Option Addr) (m' : Nat) : Prop := (∃ q' bi' n', q = some ⟨q', 0, none⟩ ∧ RefAt w q' bi' n' m') ∨ ∃ q', q = some ⟨q', 0, none⟩ ∧ REmpty w q' ∧ m' = 0

theorem AnyRef.has {w : World} {q : Option Addr} {m' : Nat} (h : AnyRef w q m') (x : Nat) : Calls Tryd.prog 35 #[.pointer q, .int .i64 (x : Int)] w fun e w' => e = .returned (.bool (m'.testBit x)) ∧ w' = w := by
  rcases h with ⟨q', bi', n', rfl, h⟩ | ⟨q', rfl, h, rfl⟩
  · have := ref_has q' bi' n' m' (x : Int) w h
    rwa [hasB_nat] at this
  · simpa using ref_has_empty q' x w h

set_option maxHeartbeats 2000000 in
theorem rmeets_core (br bi n m bl off cap len : Nat) (P : Nat → Option Addr) (mm : Nat → Nat) (B : Nat → Nat → Bool) (r : Bool) (w : World) (hr : RefAt w br bi n m) (hlen : len < 1152921504606846976)
    (hc : ∀ i, i < len → w.cell? ⟨bl, off + i, none⟩ = some (.pointer (P i))) (ho : ∀ i x : Nat, i < len → Calls Tryd.prog 35 #[.pointer (P i), .int .i64 (x : Int)] w fun e w' => e = .returned (.bool ((mm i).testBit x)) ∧ w' = w)
    (hB0 : ∀ x, B x 0 = m.testBit x) (hBs : ∀ x i, i < len → B x (i + 1) = (B x i && (mm i).testBit x)) (hr1 : ∀ x, x < n → B x len = true → r = true) (hr0 : (∀ x, x < n → B x len = false) → r = false) :
    Calls Tryd.prog 32 #[.pointer (some ⟨br, 0, none⟩), .slice (some ⟨bl, off, none⟩) len cap] w fun e w' => e = .returned (.bool r) ∧ w' = w := by
  have hh := hr.hcell
  have hn := hr.le
  have HCELL : Hid (∀ i, i < n → w.cell? ⟨bi, i, none⟩ = some (.bool (m.testBit i))) := hr.cell
  have HC : Hid (∀ i, i < len → w.cell? ⟨bl, off + i, none⟩ = some (.pointer (P i))) := hc
  have HO : Hid (∀ i x : Nat, i < len → Calls Tryd.prog 35 #[.pointer (P i), .int .i64 (x : Int)] w fun e w' => e = .returned (.bool ((mm i).testBit x)) ∧ w' = w) := ho
  have HB0 : Hid (∀ x, B x 0 = m.testBit x) := hB0
  have HBS : Hid (∀ x i, i < len → B x (i + 1) = (B x i && (mm i).testBit x)) := hBs
  have HR1 : Hid (∀ x, x < n → B x len = true → r = true) := hr1
  have HR0 : Hid ((∀ x, x < n → B x len = false) → r = false) := hr0
  have HMONO : Hid (∀ x i, i ≤ len → B x i = false → B x len = false) := by
    intro x i hi h
    obtain ⟨d, hd⟩ : ∃ d, len = i + d := ⟨len - i, by omega⟩
    have key : ∀ d, i + d ≤ len → B x (i + d) = false := by
      intro d
      induction d with
      | zero => intro _; exact h
      | succ d ih => intro hd; rw [← Nat.add_assoc, hBs x (i + d) (by omega), ih (by omega)]; rfl
    rw [hd]; exact key d (by omega)
  clear hr hc ho hB0 hBs hr1 hr0
  go_enter Tryd.func32, Tryd.ntmps32
  go_wp2_with fail
  go_loop [5, 6, 7] (fun x _ _ => ∃ k : Nat, k ≤ n ∧ x = .int .i64 k ∧ ∀ j, j < k → B j len = false) (fun x _ _ => n - (intOf x).toNat)
  case atStart => exact ⟨0, Nat.zero_le _, rfl, fun i hi => absurd hi (Nat.not_lt_zero i)⟩
  case round =>
    obtain ⟨k, hk, rfl, hno⟩ := hrel
    have HNO : Hid (∀ j, j < k → B j len = false) := hno
    clear hno
    by_cases hlt : k < n
    · have hck := HCELL.out k hlt
      rw [← HB0.out k] at hck
      go_wp2_with fail
      go_loop [6, 7] (fun a i => ∃ j : Nat, j ≤ len ∧ i = .int .i64 j ∧ a = .bool (B k j)) (fun _ i => len - (intOf i).toNat)
      case atStart => exact ⟨0, Nat.zero_le _, rfl, rfl⟩
      case round =>
        obtain ⟨j, hj, rfl, rfl⟩ := hrel
        by_cases hjl : j < len
        · cases hb : B k j with
          | true =>
            have hcj := HC.out j hjl
            have hbs := HBS.out k j hjl
            rw [hb, Bool.true_and] at hbs
            have HRH := HO.out j k hjl
            rw [← hbs] at HRH
            clear hbs hb
            go_wp2_with fail
            refine HRH.mono ?_
            rintro e w' ⟨rfl, hw⟩
            subst hw
            clear HRH
            go_wp2_with fail
            go_roundw
            case rel => exact ⟨j + 1, by omega, by go_num, rfl⟩
            case measure => simp [intOf]; omega
          | false =>
            have hfin := HMONO.out k j hj hb
            clear hb
            go_wp2_with fail
            refine ⟨⟨k + 1, by omega, by go_num, fun i hi => ?_⟩, by simp [intOf]; omega⟩
            by_cases e : i = k
            · subst e; exact hfin
            · exact HNO.out i (by omega)
        · have hjj : j = len := by omega
          subst hjj
          cases hb : B k j with
          | true =>
            have HFIN : Hid (r = true) := HR1.out k hlt hb
            clear hb
            go_wp2_with fail
            go_ret
            rw [HFIN.out]
            exact ⟨rfl, rfl⟩
          | false =>
            have hfin := hb
            clear hb
            go_wp2_with fail
            refine ⟨⟨k + 1, by omega, by go_num, fun i hi => ?_⟩, by simp [intOf]; omega⟩
            by_cases e : i = k
            · subst e; exact hfin
            · exact HNO.out i (by omega)
    · have hkk : k = n := by omega
      subst hkk
      have HFIN : Hid (r = false) := HR0.out HNO.out
      go_wp2_with fail
      go_ret
      rw [HFIN.out]
      exact ⟨rfl, rfl⟩

theorem iS_bit (m : Nat) (L : List (Option Addr × Nat)) (x : Nat) (i : Nat) (hi : i < L.length) : (iS m (L.take (i + 1))).testBit x = ((iS m (L.take i)).testBit x && (L.getD i (none, 0)).2.testBit x) := by
  rw [iS_snoc m L i hi, Nat.testBit_and]

/-- The document's Meets, of a row of sets. -/
theorem rmeets_row (br bi n m bl off cap : Nat) (L : List (Option Addr × Nat)) (w : World) (hr : RefAt w br bi n m) (hlen : L.length < 1152921504606846976)
    (hc : ∀ i, i < L.length → w.cell? ⟨bl, off + i, none⟩ = some (.pointer (L.getD i (none, 0)).1)) (ho : ∀ i, i < L.length → AnyRef w (L.getD i (none, 0)).1 (L.getD i (none, 0)).2) :
    Calls Tryd.prog 32 #[.pointer (some ⟨br, 0, none⟩), .slice (some ⟨bl, off, none⟩) L.length cap] w fun e w' => e = .returned (.bool (decide (0 < cnt (iS m L)))) ∧ w' = w := by
  have hp := cnt_pos hr.le (iS_lt n m L hr.lt)
  refine rmeets_core br bi n m bl off cap L.length (fun i => (L.getD i (none, 0)).1) (fun i => (L.getD i (none, 0)).2) (fun x i => (iS m (L.take i)).testBit x) _ w hr hlen hc (fun i x hi => (ho i hi).has x) (fun x => rfl) (fun x i hi => iS_bit m L x i hi) ?_ ?_
  · intro x hx h
    rw [List.take_length] at h
    rw [decide_eq_true_eq, hp]
    exact ⟨x, hx, h⟩
  · intro h
    rw [decide_eq_false_iff_not, hp]
    rintro ⟨x, hx, h'⟩
    have := h x hx
    rw [List.take_length, h'] at this
    cases this

set_option maxHeartbeats 1000000 in
theorem rmeets_none (br bi n m cap : Nat) (a : Option Addr) (w : World) (hr : RefAt w br bi n m) :
    Calls Tryd.prog 32 #[.pointer (some ⟨br, 0, none⟩), .slice a 0 cap] w fun e w' => e = .returned (.bool (decide (0 < cnt m))) ∧ w' = w := by
  have hp := cnt_pos hr.le hr.lt
  have hh := hr.hcell
  have hn := hr.le
  have HCELL : Hid (∀ i, i < n → w.cell? ⟨bi, i, none⟩ = some (.bool (m.testBit i))) := hr.cell
  have HP : Hid (0 < cnt m ↔ ∃ x, x < n ∧ m.testBit x = true) := hp
  generalize cnt m = cm at *
  clear hr hp
  go_enter Tryd.func32, Tryd.ntmps32
  go_wp2_with fail
  go_loop [5, 6, 7] (fun x _ _ => ∃ k : Nat, k ≤ n ∧ x = .int .i64 k ∧ ∀ j, j < k → m.testBit j = false) (fun x _ _ => n - (intOf x).toNat)
  case atStart => exact ⟨0, Nat.zero_le _, rfl, fun i hi => absurd hi (Nat.not_lt_zero i)⟩
  case round =>
    obtain ⟨k, hk, rfl, hno⟩ := hrel
    have HNO : Hid (∀ j, j < k → m.testBit j = false) := hno
    clear hno
    by_cases hlt : k < n
    · have hck := HCELL.out k hlt
      cases hb : m.testBit k with
      | true =>
        have HFIN : Hid (decide (0 < cm) = true) := by
          show decide (0 < cm) = true
          rw [decide_eq_true_eq, HP.out]; exact ⟨k, hlt, hb⟩
        rw [hb] at hck
        clear hb
        go_wp2_with fail
        go_loop [6, 7] (fun a i => i = .int .i64 0 ∧ a = .bool true) (fun _ _ => 0)
        case atStart => exact ⟨rfl, rfl⟩
        case round =>
          obtain ⟨rfl, rfl⟩ := hrel
          go_wp2_with fail
          go_ret
          rw [HFIN.out]
          exact ⟨rfl, rfl⟩
      | false =>
        have hfin := hb
        rw [hb] at hck
        clear hb
        go_wp2_with fail
        go_loop [6, 7] (fun a i => i = .int .i64 0 ∧ a = .bool false) (fun _ _ => 0)
        case atStart => exact ⟨rfl, rfl⟩
        case round =>
          obtain ⟨rfl, rfl⟩ := hrel
          go_wp2_with fail
          refine ⟨⟨k + 1, by omega, by go_num, fun i hi => ?_⟩, by simp [intOf]; omega⟩
          by_cases e : i = k
          · subst e; exact hfin
          · exact HNO.out i (by omega)
    · have hkk : k = n := by omega
      subst hkk
      have HFIN : Hid (decide (0 < cm) = false) := by
        show decide (0 < cm) = false
        rw [decide_eq_false_iff_not, HP.out]
        rintro ⟨x, hx, h'⟩
        rw [HNO.out x hx] at h'
        cases h'
      go_wp2_with fail
      go_ret
      rw [HFIN.out]
      exact ⟨rfl, rfl⟩

end Go.Proofs.YtkmocjdjdlpphaaDoor
