/-
  How a reader reads a name, a quoted.
-/
import Derived.Test.YtpjckjggmcijjabDoorSTake
namespace Go.Proofs.YtpjckjggmcijjabDoor
open Go.RowKit

attribute [local go_sem] Oper.semAt_some

def nmK (s : ByteArray) (i : Nat) : Nat := min (runL innerB ((bs s).drop i)) 16
def qtK (s : ByteArray) (i : Nat) : Nat := min (runL termB ((bs s).drop i)) 16

theorem bs_rest (s : ByteArray) (i : Nat) : bs (s.extract i s.size) = (bs s).drop i := by
  have e : (bs s).take s.size = bs s := List.take_of_length_le (by rw [bs_length]; exact Nat.le_refl _)
  rw [bs_extract, e]
theorem run_bound (p : Nat → Bool) (s : ByteArray) (i : Nat) (hi : i ≤ s.size) : i + runL p ((bs s).drop i) ≤ s.size := by
  have := runL_le p ((bs s).drop i)
  rw [List.length_drop, bs_length] at this
  omega

set_option maxRecDepth 100000 in
theorem name_any (r : Nat) (s : ByteArray) (i : Nat) (b : Bool) (w : World) (h : RAt w r s i b) (hi : i ≤ s.size) (hs : s.size ≤ 10000) : Calls Tryd.prog 43 #[.pointer (some ⟨r, 0, none⟩)] w fun e w' =>
    e = .returned (.string (s.extract i (i + nmK s i))) ∧ RAt w' r s (i + nmK s i) (innerB (chr s (i + nmK s i))) ∧ w.grownBy w' (some r) := by
  have hR := rest_any r s i b w h hi hs
  have hU := fun W => run_inner (s.extract i s.size) W (by rw [ext_size s i s.size (Nat.le_refl _)]; omega)
  rw [bs_rest] at hU
  have hk : nmK s i = min (runL innerB ((bs s).drop i)) 16 := rfl
  have hbd := run_bound innerB s i hi
  generalize runL innerB ((bs s).drop i) = u at *
  generalize s.extract i s.size = t at *
  generalize nmK s i = k at *
  have hkb : i + k ≤ s.size := by omega
  have em : min (u : Int) 16 = (k : Int) := by omega
  have HTK : Hid (∀ W, RAt W r s i b → Calls Tryd.prog 47 #[.pointer (some ⟨r, 0, none⟩), .int .i64 k] W fun e w' => e = .returned (.string (s.extract i (i + k))) ∧ RAt w' r s (i + k) b ∧ W.grownBy w' (some r)) := fun W hW => take_any r s i k b W hW hkb hs
  have HSE : Hid (∀ W, RAt W r s (i + k) b → Calls Tryd.prog 40 #[.pointer (some ⟨r, 0, none⟩), .func (.func 26) #[] #[]] W fun e w' => e = .returned (.bool (innerB (chr s (i + k)))) ∧ ∃ q, w' = W.drewN q) := fun W hW => sees_inner r s (i + k) b W hW hkb hs
  have HU : Hid (∀ W, Calls Tryd.prog 35 #[.string t, .func (.func 26) #[] #[]] W fun e w' => e = .returned (.int .i64 u) ∧ w' = W) := hU
  have HA : Hid (RAt w r s i b) := h
  generalize innerB (chr s (i + k)) = v at *
  generalize s.extract i (i + k) = nm at *
  clear h hU hk
  go_enter Tryd.func43, Tryd.ntmps43
  go_wp2_with fail
  refine hR.mono ?_
  rintro e w1 ⟨rfl, q, hw1⟩
  have HA1 : Hid (RAt w1 r s i b) := by rw [hw1]; exact HA.out.drewN q
  have HG1 : Hid (w.grownBy w1 none) := by rw [hw1]; exact grown_drewN _ _
  clear hw1 HA hR
  go_wp2_with (go_at_call 35; refine (HU.out _).mono ?_; rintro e w' ⟨rfl, hw'⟩; subst hw')
  refine (HTK.out _ HA1.out).mono ?_
  rintro e w2 ⟨rfl, hA2, hg2⟩
  have HA2 : Hid (RAt w2 r s (i + k) b) := hA2
  have HG2 : Hid (w.grownBy w2 (some r)) := grown_trans (grown_but _ HG1.out) hg2
  clear hA2 hg2 HA1 HG1 HTK HU
  go_wp2_with fail
  refine (HSE.out _ HA2.out).mono ?_
  rintro e w3 ⟨rfl, q3, hw3⟩
  have HA3 : Hid (RAt w3 r s (i + k) b) := by rw [hw3]; exact HA2.out.drewN q3
  have HG3 : Hid (w.grownBy w3 (some r)) := by rw [hw3]; exact grown_trans HG2.out (grown_but _ (grown_drewN _ _))
  clear hw3 HA2 HG2 HSE
  obtain ⟨c0, c1, c2⟩ := HA3.out.cells
  have f2 := HA3.out.free 2
  go_wp2_with fail
  go_ret
  exact ⟨rfl, HA3.out.setBad v, grown_trans HG3.out (grown_setCell r 2 _)⟩

set_option maxRecDepth 100000 in
theorem quoted_any (r : Nat) (s : ByteArray) (i : Nat) (w : World) (h : RAt w r s i false) (hi : i + 1 ≤ s.size) (hs : s.size ≤ 10000) (Q : Ending → World → Prop)
    (HBAD : Hid ((qtK s (i + 1) = 0 ∨ chr s (i + 1 + qtK s (i + 1)) ≠ 39) → ∀ w', RAt w' r s (i + 1 + qtK s (i + 1)) true → w.grownBy w' (some r) → Q (.returned (.string ⟨#[]⟩)) w'))
    (HGOOD : Hid (¬ (qtK s (i + 1) = 0 ∨ chr s (i + 1 + qtK s (i + 1)) ≠ 39) → ∀ w', RAt w' r s (i + 1 + qtK s (i + 1) + 1) false → w.grownBy w' (some r) → Q (.returned (.string (s.extract (i + 1) (i + 1 + qtK s (i + 1))))) w')) :
    Calls Tryd.prog 44 #[.pointer (some ⟨r, 0, none⟩)] w Q := by
  have hU := fun W => run_term (s.extract (i + 1) s.size) W (by rw [ext_size s (i + 1) s.size (Nat.le_refl _)]; omega)
  rw [bs_rest] at hU
  have hk : qtK s (i + 1) = min (runL termB ((bs s).drop (i + 1))) 16 := rfl
  have hbd := run_bound termB s (i + 1) hi
  have HRS : Hid (∀ W, RAt W r s (i + 1) false → Calls Tryd.prog 38 #[.pointer (some ⟨r, 0, none⟩)] W fun e w' => e = .returned (.string (s.extract (i + 1) s.size)) ∧ ∃ q, w' = W.drewN q) := fun W hW => rest_any r s (i + 1) false W hW hi hs
  generalize runL termB ((bs s).drop (i + 1)) = u at *
  generalize s.extract (i + 1) s.size = t at *
  generalize qtK s (i + 1) = k at *
  have hkb : i + 1 + k ≤ s.size := by omega
  have em : min (u : Int) 16 = (k : Int) := by omega
  have HTK : Hid (∀ W, RAt W r s (i + 1) false → Calls Tryd.prog 47 #[.pointer (some ⟨r, 0, none⟩), .int .i64 k] W fun e w' => e = .returned (.string (s.extract (i + 1) (i + 1 + k))) ∧ RAt w' r s (i + 1 + k) false ∧ W.grownBy w' (some r)) := fun W hW => take_any r s (i + 1) k false W hW hkb hs
  have HSE : Hid (∀ W, RAt W r s (i + 1 + k) false → Calls Tryd.prog 40 #[.pointer (some ⟨r, 0, none⟩), .func (.func 36) #[] #[]] W fun e w' => e = .returned (.bool (quoteB (chr s (i + 1 + k)))) ∧ ∃ q, w' = W.drewN q) := fun W hW => sees_quote r s (i + 1 + k) false W hW hkb hs
  have HU : Hid (∀ W, Calls Tryd.prog 35 #[.string t, .func (.func 27) #[] #[]] W fun e w' => e = .returned (.int .i64 u) ∧ w' = W) := hU
  have hnsz : (s.extract (i + 1) (i + 1 + k)).size = k := by rw [ext_size s _ _ hkb]; omega
  have hne : (s.extract (i + 1) (i + 1 + k)).toList.isEmpty = decide (k = 0) := by
    rw [ByteArray.toList_eq]
    have : (s.extract (i + 1) (i + 1 + k)).data.toList.length = k := by rw [Array.length_toList]; exact hnsz
    cases hh : (s.extract (i + 1) (i + 1 + k)).data.toList with
    | nil => rw [hh] at this; simp at this; simp; omega
    | cons x l => rw [hh] at this; simp at this; simp; omega
  have HA : Hid (RAt w r s i false) := h
  have HQ : Hid (quoteB (chr s (i + 1 + k)) = decide (chr s (i + 1 + k) = 39)) := rfl
  generalize chr s (i + 1 + k) = c at *
  generalize s.extract (i + 1) (i + 1 + k) = nm at *
  obtain ⟨c0, c1, c2⟩ := h.cells
  have f1 := h.free 1
  have HA0 : Hid (RAt (w.setCell ⟨r, 1, none⟩ (.int .i64 ((i + 1 : Nat) : Int))) r s (i + 1) false) := h.setAt (i + 1)
  have HG0 : Hid (w.grownBy (w.setCell ⟨r, 1, none⟩ (.int .i64 ((i + 1 : Nat) : Int))) (some r)) := grown_setCell r 1 _
  have ei : ((i + 1 : Nat) : Int) = (i : Int) + 1 := by omega
  rw [ei] at HA0 HG0
  have hlt : (i : Int) + 1 ≤ 10000 := by omega
  clear h hU hk HA hnsz
  go_enter Tryd.func44, Tryd.ntmps44
  go_wp2_with fail
  clear c0 c1 c2 f1
  generalize w.setCell ⟨r, 1, none⟩ (.int .i64 ((i : Int) + 1)) = w0 at *
  refine (HRS.out _ HA0.out).mono ?_
  rintro e w1 ⟨rfl, q, hw1⟩
  have HA1 : Hid (RAt w1 r s (i + 1) false) := by rw [hw1]; exact HA0.out.drewN q
  have HG1 : Hid (w.grownBy w1 (some r)) := by rw [hw1]; exact grown_trans HG0.out (grown_but _ (grown_drewN _ _))
  clear hw1 HA0 HG0 HRS
  go_wp2_with (go_at_call 35; refine (HU.out _).mono ?_; rintro e w' ⟨rfl, hw'⟩; subst hw')
  refine (HTK.out _ HA1.out).mono ?_
  rintro e w2 ⟨rfl, hA2, hg2⟩
  have HA2 : Hid (RAt w2 r s (i + 1 + k) false) := hA2
  have HG2 : Hid (w.grownBy w2 (some r)) := grown_trans HG1.out hg2
  clear hA2 hg2 HA1 HG1 HTK HU em
  by_cases hk0 : k = 0
  · have hd : nm.toList.isEmpty = true := by rw [hne]; simp [hk0]
    obtain ⟨c0, c1, c2⟩ := HA2.out.cells
    have f2 := HA2.out.free 2
    have HK0 : Hid (k = 0) := hk0
    clear hne hk0
    go_wp2_with fail
    exact HBAD.out (.inl HK0.out) _ (HA2.out.setBad true) (grown_trans HG2.out (grown_setCell r 2 _))
  · have hd : nm.toList.isEmpty = false := by rw [hne]; simp [hk0]
    have HK0 : Hid (k ≠ 0) := hk0
    clear hne hk0
    go_wp2_with fail
    refine (HSE.out _ HA2.out).mono ?_
    rintro e w3 ⟨rfl, q3, hw3⟩
    have HA3 : Hid (RAt w3 r s (i + 1 + k) false) := by rw [hw3]; exact HA2.out.drewN q3
    have HG3 : Hid (w.grownBy w3 (some r)) := by rw [hw3]; exact grown_trans HG2.out (grown_but _ (grown_drewN _ _))
    clear hw3 HA2 HG2 HSE
    obtain ⟨c0, c1, c2⟩ := HA3.out.cells
    have f2 := HA3.out.free 2
    have f1 := HA3.out.free 1
    rw [HQ.out]
    by_cases hc : c = 39
    · have hq : decide (c = 39) = true := decide_eq_true hc
      have HC : Hid (¬ (k = 0 ∨ c ≠ 39)) := by
        intro h
        rcases h with h | h
        · exact HK0.out h
        · exact h hc
      rw [hq]
      clear hq hc HQ
      go_wp2_with fail
      exact HGOOD.out HC.out _ (HA3.out.setAt (i + 1 + k + 1)) (grown_trans HG3.out (grown_setCell r 1 _))
    · have hq : decide (c = 39) = false := decide_eq_false hc
      have HC : Hid (k = 0 ∨ c ≠ 39) := .inr hc
      rw [hq]
      clear hq hc HQ
      go_wp2_with fail
      exact HBAD.out HC.out _ (HA3.out.setBad true) (grown_trans HG3.out (grown_setCell r 2 _))

end Go.Proofs.YtpjckjggmcijjabDoor
