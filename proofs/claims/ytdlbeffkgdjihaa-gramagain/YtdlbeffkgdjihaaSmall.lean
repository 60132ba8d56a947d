/-
  nonsHold; what a number is in a grammar: a level, a terminal's symbol, a nonterminal's.
-/
import Derived.Test.YtdlbeffkgdjihaaAlike
namespace Go.Proofs.Ytdlbeffkgdjihaa
open Go.RowKit Go.Maps

set_option maxRecDepth 100000 in
theorem nonsHold_any (a : Option Addr) (cap : Nat) (l : List ByteArray) (w : World) (hl : StrsAt w a l) (hn : l.length ≤ 65) :
    Calls Try.prog 69 #[.slice a l.length cap] w fun e w' => ∃ r, e = .returned (.bool r) ∧ (r = true ↔ (∀ s ∈ l, isNameB s = true) ∧ l.Nodup) ∧ w.grownBy w' none := by
  have HNT : Hid ((∀ s ∈ l, isNameB s = true) → Calls Try.prog 93 #[.slice a l.length cap] w fun e w' => ∃ r, e = .returned (.bool r) ∧ (r = true ↔ l.Nodup) ∧ w.grownBy w' none) := fun h => noTwoAlike_any a cap l w hl hn (fun s hs => by have := h s hs; simp [isNameB, lenOK] at this; omega)
  have HL : Hid (StrsAt w a l) := hl
  obtain ⟨n, hln⟩ : ∃ n, n = l.length := ⟨_, rfl⟩
  have HLN : Hid (l.length = n) := hln.symm
  rw [← hln] at hn ⊢ HNT
  clear hl hln
  go_enter Try.func69, Try.ntmps69
  go_wp2_with fail
  go_loopw [7] (fun i wr => ∃ k : Nat, k ≤ n ∧ i = .int .i64 k ∧ wr = w ∧ ∀ s ∈ l.take k, isNameB s = true) (fun i _ => n - (intOf i).toNat)
  case atStart => exact ⟨0, Nat.zero_le _, rfl, rfl, fun s hs => by simp at hs⟩
  case round =>
    obtain ⟨k, hk, rfl, hw, hall⟩ := hrel
    subst hw
    have HA : Hid (∀ s ∈ l.take k, isNameB s = true) := hall
    clear hall
    by_cases hlt : k < n
    · have hkl : k < l.length := by rw [HLN.out]; exact hlt
      obtain ⟨bl, off, rfl, hcells⟩ : ∃ b off, a = some ⟨b, off, none⟩ ∧ ∀ i, i < l.length → wr.cell? ⟨b, off + i, none⟩ = some (.string (l.getD i ⟨#[]⟩)) := by
        rcases HL.out with h | h
        · subst h; simp at hkl
        · exact h
      have hck := hcells k hkl
      have hmem := getD_mem hkl
      have htk : l.take (k + 1) = l.take k ++ [l.getD k ⟨#[]⟩] := by rw [List.take_succ_eq_append_getElem hkl]; simp [List.getD, hkl]
      generalize l.getD k ⟨#[]⟩ = s at *
      have hN := isName_any s wr
      cases hb : isNameB s with
      | true =>
        rw [hb] at hN
        have HA' : Hid (∀ s ∈ l.take (k + 1), isNameB s = true) := fun x hx => by
          rw [htk] at hx
          rcases List.mem_append.1 hx with hx | hx
          · exact HA.out x hx
          · simp at hx; subst hx; exact hb
        clear hcells hmem htk HNT
        go_wp2_with (go_at_call 50; refine hN.mono ?_; rintro e w' ⟨rfl, rfl⟩)
        go_roundw
        case rel => exact ⟨k + 1, by omega, by go_num, trivial, HA'.out⟩
        case measure => simp [intOf]; omega
      | false =>
        rw [hb] at hN
        have HF : Hid (¬ ((∀ s ∈ l, isNameB s = true) ∧ l.Nodup)) := fun h => by
          have := h.1 s hmem
          rw [hb] at this
          cases this
        clear hcells hmem htk HNT
        go_wp2_with (go_at_call 50; refine hN.mono ?_; rintro e w' ⟨rfl, rfl⟩)
        go_ret
        exact ⟨false, rfl, by simp [HF.out], grown_refl _ _⟩
    · obtain rfl : k = n := by omega
      have ht : l.take k = l := List.take_of_length_le (Nat.le_of_eq HLN.out)
      rw [ht] at HA
      have hnt := HNT.out HA.out
      clear HNT
      go_wp2_with fail
      refine hnt.mono ?_
      rintro e w2 ⟨r, rfl, hr, hg⟩
      go_wp2_with fail
      go_ret
      exact ⟨r, rfl, hr.trans ⟨fun h => ⟨HA.out, h⟩, fun h => h.2⟩, hg⟩

end Go.Proofs.Ytdlbeffkgdjihaa
