/-
  A reader: what stands ahead, whether such a byte does; how it takes some.
-/
import Derived.Test.YtpjckjggmcijjabDoorSRun
import Derived.Lib.Strings
namespace Go.Proofs.YtpjckjggmcijjabDoor
open Go.RowKit

attribute [local go_sem] Oper.semAt_some

/-- A reader in block r: its text, how far it has come, whether that is bad. -/
def RAt (w : World) (r : Nat) (s : ByteArray) (i : Nat) (b : Bool) : Prop := w.heap[r]? = some (.cells #[.string s, .int .i64 i, .bool b] 55 (0, 0))
theorem RAt.lt {w : World} {r : Nat} {s : ByteArray} {i : Nat} {b : Bool} (h : RAt w r s i b) : r < w.heap.size := (Array.getElem?_eq_some_iff.1 h).1
theorem RAt.cells {w : World} {r : Nat} {s : ByteArray} {i : Nat} {b : Bool} (h : RAt w r s i b) : w.cell? ⟨r, 0, none⟩ = some (.string s) ∧ w.cell? ⟨r, 1, none⟩ = some (.int .i64 i) ∧ w.cell? ⟨r, 2, none⟩ = some (.bool b) := by
  refine ⟨?_, ?_, ?_⟩ <;> rw [cell_of_row _ _ _ _ _ _ h] <;> rfl
theorem RAt.free {w : World} {r : Nat} {s : ByteArray} {i : Nat} {b : Bool} (h : RAt w r s i b) (j : Nat) : w.frozen? ⟨r, j, none⟩ = false := frozen_of_row w r j _ _ h
theorem RAt.setAt {w : World} {r : Nat} {s : ByteArray} {i : Nat} {b : Bool} (h : RAt w r s i b) (i' : Nat) : RAt (w.setCell ⟨r, 1, none⟩ (.int .i64 i')) r s i' b := by
  unfold RAt
  rw [heap_setCell_same w r 1 _ _ _ h]
  rfl
theorem RAt.setBad {w : World} {r : Nat} {s : ByteArray} {i : Nat} {b : Bool} (h : RAt w r s i b) (b' : Bool) : RAt (w.setCell ⟨r, 2, none⟩ (.bool b')) r s i b' := by
  unfold RAt
  rw [heap_setCell_same w r 2 _ _ _ h]
  rfl

theorem grown_refl (w : World) (row : Option Nat) : w.grownBy w row := ⟨rfl, rfl, rfl, Nat.le_refl _, fun _ _ _ => rfl⟩
theorem grown_trans {w w1 w2 : World} {row : Option Nat} (h : w.grownBy w1 row) (k : w1.grownBy w2 row) : w.grownBy w2 row :=
  ⟨k.os.trans h.os, k.tape.trans h.tape, k.output.trans h.output, Nat.le_trans h.size k.size, fun i hi hne => (k.block i (Nat.lt_of_lt_of_le hi h.size) hne).trans (h.block i hi hne)⟩
theorem grown_but {w w1 : World} (row : Option Nat) (h : w.grownBy w1 none) : w.grownBy w1 row := ⟨h.os, h.tape, h.output, h.size, fun i hi _ => h.block i hi (by simp)⟩
theorem grown_setCell {w : World} (b o : Nat) (v : Value) : w.grownBy (w.setCell ⟨b, o, none⟩ v) (some b) :=
  ⟨rfl, rfl, rfl, by simp [World.setCell], fun k _ hne => Below.heap_setCell _ _ _ _ (fun e => hne (by simp [e]))⟩
theorem grown_drewN (w : World) (k : Nat) : w.grownBy (w.drewN k) none := ⟨rfl, rfl, rfl, Nat.le_refl _, fun _ _ _ => rfl⟩
theorem grown_below0 {w w1 : World} (h : w.grownBy w1 none) : Below w.heap.size w w1 := ⟨h.os, h.tape, h.output, h.size, fun k hk => h.block k hk (by simp)⟩
theorem below_grown {w w1 : World} (h : Below w.heap.size w w1) : w.grownBy w1 none := ⟨h.os, h.tape, h.output, h.size, fun k hk _ => h.block k hk⟩
theorem grown_new {w w1 w2 : World} {b : Nat} (h : w.grownBy w1 none) (k : w1.grownBy w2 (some b)) (hb : w.heap.size ≤ b) : w.grownBy w2 none :=
  ⟨k.os.trans h.os, k.tape.trans h.tape, k.output.trans h.output, Nat.le_trans h.size k.size, fun i hi _ => (k.block i (Nat.lt_of_lt_of_le hi h.size) (by simp; omega)).trans (h.block i hi (by simp))⟩
theorem RAt.kept {w w' : World} {r : Nat} {s : ByteArray} {i : Nat} {b : Bool} (h : RAt w r s i b) (hg : w.grownBy w' none) : RAt w' r s i b := (hg.block r h.lt (by simp)).trans h
theorem RAt.drewN {w : World} {r : Nat} {s : ByteArray} {i : Nat} {b : Bool} (h : RAt w r s i b) (q : Nat) : RAt (w.drewN q) r s i b := h

theorem rest_any (r : Nat) (s : ByteArray) (i : Nat) (b : Bool) (w : World) (h : RAt w r s i b) (hi : i ≤ s.size) (_hs : s.size ≤ 10000) : Calls Tryd.prog 38 #[.pointer (some ⟨r, 0, none⟩)] w fun e w' => e = .returned (.string (s.extract i s.size)) ∧ ∃ q, w' = w.drewN q := by
  obtain ⟨c0, c1, c2⟩ := h.cells
  clear h
  go_enter Tryd.func38, Tryd.ntmps38
  go_wp2_with fail
  go_quiet (fail)
  go_wp2
  go_ret
  exact ⟨rfl, nq, rfl⟩

set_option maxRecDepth 100000 in
theorem sees_hash (r : Nat) (s : ByteArray) (i : Nat) (b : Bool) (w : World) (h : RAt w r s i b) (hi : i ≤ s.size) (_hs : s.size ≤ 10000) : Calls Tryd.prog 40 #[.pointer (some ⟨r, 0, none⟩), .func (.func 41) #[] #[]] w fun e w' => e = .returned (.bool (hashB (chr s i))) ∧ ∃ q, w' = w.drewN q := by
  obtain ⟨c0, c1, c2⟩ := h.cells
  clear h
  by_cases hlt : i < s.size
  · have hix := fun w => index_at s i hlt w
    have hd : decide ((i : Int) < s.size) = true := decide_eq_true (by omega)
    generalize chr s i = c at *
    have HP : Hid (∀ W, Calls Tryd.prog 41 #[.int .u8 c] W fun e w' => e = .returned (.bool (hashB c)) ∧ w' = W) := fun W => isHash_any c W
    generalize hashB c = v at *
    go_enter Tryd.func40, Tryd.ntmps40
    go_wp2_with fail
    go_quiet (first | (go_at_call 41; with_reducible exact Calls.quiet_of_same (HP.out _)))
    go_wp2
    go_ret
    exact ⟨rfl, nq, rfl⟩
  · have hd : decide ((i : Int) < s.size) = false := decide_eq_false (by omega)
    have e0 : hashB (chr s i) = false := by
      have : chr s i = 0 := by unfold chr; rw [List.getD, List.getElem?_eq_none (by rw [bs_length]; omega)]; rfl
      rw [this]; rfl
    rw [e0]
    clear e0
    go_enter Tryd.func40, Tryd.ntmps40
    go_wp2_with fail
    go_quiet (fail)
    go_wp2
    go_ret
    exact ⟨rfl, nq, rfl⟩

set_option maxRecDepth 100000 in
theorem sees_inner (r : Nat) (s : ByteArray) (i : Nat) (b : Bool) (w : World) (h : RAt w r s i b) (hi : i ≤ s.size) (_hs : s.size ≤ 10000) : Calls Tryd.prog 40 #[.pointer (some ⟨r, 0, none⟩), .func (.func 26) #[] #[]] w fun e w' => e = .returned (.bool (innerB (chr s i))) ∧ ∃ q, w' = w.drewN q := by
  obtain ⟨c0, c1, c2⟩ := h.cells
  clear h
  by_cases hlt : i < s.size
  · have hix := fun w => index_at s i hlt w
    have hd : decide ((i : Int) < s.size) = true := decide_eq_true (by omega)
    generalize chr s i = c at *
    have HP : Hid (∀ W, Calls Tryd.prog 26 #[.int .u8 c] W fun e w' => e = .returned (.bool (innerB c)) ∧ w' = W) := fun W => isNameByte_any c W
    generalize innerB c = v at *
    go_enter Tryd.func40, Tryd.ntmps40
    go_wp2_with fail
    go_quiet (first | (go_at_call 26; with_reducible exact Calls.quiet_of_same (HP.out _)))
    go_wp2
    go_ret
    exact ⟨rfl, nq, rfl⟩
  · have hd : decide ((i : Int) < s.size) = false := decide_eq_false (by omega)
    have e0 : innerB (chr s i) = false := by
      have : chr s i = 0 := by unfold chr; rw [List.getD, List.getElem?_eq_none (by rw [bs_length]; omega)]; rfl
      rw [this]; rfl
    rw [e0]
    clear e0
    go_enter Tryd.func40, Tryd.ntmps40
    go_wp2_with fail
    go_quiet (fail)
    go_wp2
    go_ret
    exact ⟨rfl, nq, rfl⟩

set_option maxRecDepth 100000 in
theorem sees_quote (r : Nat) (s : ByteArray) (i : Nat) (b : Bool) (w : World) (h : RAt w r s i b) (hi : i ≤ s.size) (_hs : s.size ≤ 10000) : Calls Tryd.prog 40 #[.pointer (some ⟨r, 0, none⟩), .func (.func 36) #[] #[]] w fun e w' => e = .returned (.bool (quoteB (chr s i))) ∧ ∃ q, w' = w.drewN q := by
  obtain ⟨c0, c1, c2⟩ := h.cells
  clear h
  by_cases hlt : i < s.size
  · have hix := fun w => index_at s i hlt w
    have hd : decide ((i : Int) < s.size) = true := decide_eq_true (by omega)
    generalize chr s i = c at *
    have HP : Hid (∀ W, Calls Tryd.prog 36 #[.int .u8 c] W fun e w' => e = .returned (.bool (quoteB c)) ∧ w' = W) := fun W => isQuote_any c W
    generalize quoteB c = v at *
    go_enter Tryd.func40, Tryd.ntmps40
    go_wp2_with fail
    go_quiet (first | (go_at_call 36; with_reducible exact Calls.quiet_of_same (HP.out _)))
    go_wp2
    go_ret
    exact ⟨rfl, nq, rfl⟩
  · have hd : decide ((i : Int) < s.size) = false := decide_eq_false (by omega)
    have e0 : quoteB (chr s i) = false := by
      have : chr s i = 0 := by unfold chr; rw [List.getD, List.getElem?_eq_none (by rw [bs_length]; omega)]; rfl
      rw [this]; rfl
    rw [e0]
    clear e0
    go_enter Tryd.func40, Tryd.ntmps40
    go_wp2_with fail
    go_quiet (fail)
    go_wp2
    go_ret
    exact ⟨rfl, nq, rfl⟩

set_option maxRecDepth 100000 in
theorem sees_letter (r : Nat) (s : ByteArray) (i : Nat) (b : Bool) (w : World) (h : RAt w r s i b) (hi : i ≤ s.size) (_hs : s.size ≤ 10000) : Calls Tryd.prog 40 #[.pointer (some ⟨r, 0, none⟩), .func (.func 34) #[] #[]] w fun e w' => e = .returned (.bool (letterB (chr s i))) ∧ ∃ q, w' = w.drewN q := by
  obtain ⟨c0, c1, c2⟩ := h.cells
  clear h
  by_cases hlt : i < s.size
  · have hix := fun w => index_at s i hlt w
    have hd : decide ((i : Int) < s.size) = true := decide_eq_true (by omega)
    generalize chr s i = c at *
    have HP : Hid (∀ W, Calls Tryd.prog 34 #[.int .u8 c] W fun e w' => e = .returned (.bool (letterB c)) ∧ w' = W) := fun W => isLetter_any c W
    generalize letterB c = v at *
    go_enter Tryd.func40, Tryd.ntmps40
    go_wp2_with fail
    go_quiet (first | (go_at_call 34; with_reducible exact Calls.quiet_of_same (HP.out _)))
    go_wp2
    go_ret
    exact ⟨rfl, nq, rfl⟩
  · have hd : decide ((i : Int) < s.size) = false := decide_eq_false (by omega)
    have e0 : letterB (chr s i) = false := by
      have : chr s i = 0 := by unfold chr; rw [List.getD, List.getElem?_eq_none (by rw [bs_length]; omega)]; rfl
      rw [this]; rfl
    rw [e0]
    clear e0
    go_enter Tryd.func40, Tryd.ntmps40
    go_wp2_with fail
    go_quiet (fail)
    go_wp2
    go_ret
    exact ⟨rfl, nq, rfl⟩

end Go.Proofs.YtpjckjggmcijjabDoor
