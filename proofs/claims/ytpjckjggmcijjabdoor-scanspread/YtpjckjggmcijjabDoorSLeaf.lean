/-
  Which bytes are which.
-/
import Derived.Test.YtpjckjggmcijjabDoorProg
import Derived.WalkKit
import Derived.WalkSpells
import Derived.WalkLawsBesides
import Derived.Deep.QuietTactic
import Derived.BigQuiet
import Derived.Below
namespace Go.Proofs.YtpjckjggmcijjabDoor
open Go.RowKit

def blankB (c : Nat) : Bool := decide (c = 32) || decide (c = 9) || decide (c = 10) || decide (c = 13)
def hashB (c : Nat) : Bool := decide (c = 35)
def inLineB (c : Nat) : Bool := !decide (c = 10)
def quoteB (c : Nat) : Bool := decide (c = 39)
def signB (c : Nat) : Bool := decide (c = 58) || decide (c = 124) || decide (c = 59)
def letterB (c : Nat) : Bool := (decide (65 ≤ c) && decide (c ≤ 90)) || (decide (97 ≤ c) && decide (c ≤ 122))
def startB (c : Nat) : Bool := letterB c || decide (c = 95)
def digitB (c : Nat) : Bool := decide (48 ≤ c) && decide (c ≤ 57)
def innerB (c : Nat) : Bool := startB c || digitB c
def termB (c : Nat) : Bool := decide (32 ≤ c) && decide (c ≤ 126) && !quoteB c

theorem isBlank_any (c : Nat) (w : World) : Calls Tryd.prog 39 #[.int .u8 c] w fun e w' => e = .returned (.bool (blankB c)) ∧ w' = w := by
  go_enter Tryd.func39, Tryd.ntmps39
  go_wp2_with fail
  all_goals
    go_ret
    refine ⟨?_, rfl⟩
    refine congrArg (fun b => Ending.returned (Value.bool b)) (Bool.eq_iff_iff.2 ?_)
    simp_all [blankB]
    try omega

theorem isHash_any (c : Nat) (w : World) : Calls Tryd.prog 41 #[.int .u8 c] w fun e w' => e = .returned (.bool (hashB c)) ∧ w' = w := by
  go_enter Tryd.func41, Tryd.ntmps41
  go_wp2_with fail
  all_goals
    go_ret
    refine ⟨?_, rfl⟩
    refine congrArg (fun b => Ending.returned (Value.bool b)) (Bool.eq_iff_iff.2 ?_)
    simp_all [hashB]
    try omega

theorem isInLine_any (c : Nat) (w : World) : Calls Tryd.prog 42 #[.int .u8 c] w fun e w' => e = .returned (.bool (inLineB c)) ∧ w' = w := by
  go_enter Tryd.func42, Tryd.ntmps42
  go_wp2_with fail
  all_goals
    go_ret
    refine ⟨?_, rfl⟩
    refine congrArg (fun b => Ending.returned (Value.bool b)) (Bool.eq_iff_iff.2 ?_)
    simp_all [inLineB]
    try omega

theorem isQuote_any (c : Nat) (w : World) : Calls Tryd.prog 36 #[.int .u8 c] w fun e w' => e = .returned (.bool (quoteB c)) ∧ w' = w := by
  go_enter Tryd.func36, Tryd.ntmps36
  go_wp2_with fail
  all_goals
    go_ret
    refine ⟨?_, rfl⟩
    refine congrArg (fun b => Ending.returned (Value.bool b)) (Bool.eq_iff_iff.2 ?_)
    simp_all [quoteB]
    try omega

theorem isSign_any (c : Nat) (w : World) : Calls Tryd.prog 46 #[.int .u8 c] w fun e w' => e = .returned (.bool (signB c)) ∧ w' = w := by
  go_enter Tryd.func46, Tryd.ntmps46
  go_wp2_with fail
  all_goals
    go_ret
    refine ⟨?_, rfl⟩
    refine congrArg (fun b => Ending.returned (Value.bool b)) (Bool.eq_iff_iff.2 ?_)
    simp_all [signB]
    try omega

theorem isLetter_any (c : Nat) (w : World) : Calls Tryd.prog 34 #[.int .u8 c] w fun e w' => e = .returned (.bool (letterB c)) ∧ w' = w := by
  go_enter Tryd.func34, Tryd.ntmps34
  go_wp2_with fail
  all_goals
    go_ret
    refine ⟨?_, rfl⟩
    refine congrArg (fun b => Ending.returned (Value.bool b)) (Bool.eq_iff_iff.2 ?_)
    simp_all [letterB]
    try omega

theorem isNameStart_any (c : Nat) (w : World) : Calls Tryd.prog 24 #[.int .u8 c] w fun e w' => e = .returned (.bool (startB c)) ∧ w' = w := by
  have hI := isLetter_any c w
  cases hb : letterB c with
  | true =>
    rw [hb] at hI
    have HB : Hid (letterB c = true) := hb
    clear hb
    go_enter Tryd.func24, Tryd.ntmps24
    go_wp2_with (go_at_call 34; refine hI.mono ?_; rintro e w' ⟨rfl, rfl⟩)
    all_goals
      go_ret
      refine ⟨?_, rfl⟩
      refine congrArg (fun b => Ending.returned (Value.bool b)) (Bool.eq_iff_iff.2 ?_)
      have hb := HB.out
      simp_all [startB]
      try omega
  | false =>
    rw [hb] at hI
    have HB : Hid (letterB c = false) := hb
    clear hb
    go_enter Tryd.func24, Tryd.ntmps24
    go_wp2_with (go_at_call 34; refine hI.mono ?_; rintro e w' ⟨rfl, rfl⟩)
    all_goals
      go_ret
      refine ⟨?_, rfl⟩
      refine congrArg (fun b => Ending.returned (Value.bool b)) (Bool.eq_iff_iff.2 ?_)
      have hb := HB.out
      simp_all [startB]
      try omega

theorem isNameByte_any (c : Nat) (w : World) : Calls Tryd.prog 26 #[.int .u8 c] w fun e w' => e = .returned (.bool (innerB c)) ∧ w' = w := by
  have hI := isNameStart_any c w
  cases hb : startB c with
  | true =>
    rw [hb] at hI
    have HB : Hid (startB c = true) := hb
    clear hb
    go_enter Tryd.func26, Tryd.ntmps26
    go_wp2_with (go_at_call 24; refine hI.mono ?_; rintro e w' ⟨rfl, rfl⟩)
    all_goals
      go_ret
      refine ⟨?_, rfl⟩
      refine congrArg (fun b => Ending.returned (Value.bool b)) (Bool.eq_iff_iff.2 ?_)
      have hb := HB.out
      simp_all [innerB, digitB]
      try omega
  | false =>
    rw [hb] at hI
    have HB : Hid (startB c = false) := hb
    clear hb
    go_enter Tryd.func26, Tryd.ntmps26
    go_wp2_with (go_at_call 24; refine hI.mono ?_; rintro e w' ⟨rfl, rfl⟩)
    all_goals
      go_ret
      refine ⟨?_, rfl⟩
      refine congrArg (fun b => Ending.returned (Value.bool b)) (Bool.eq_iff_iff.2 ?_)
      have hb := HB.out
      simp_all [innerB, digitB]
      try omega

theorem isTermByte_any (c : Nat) (w : World) : Calls Tryd.prog 27 #[.int .u8 c] w fun e w' => e = .returned (.bool (termB c)) ∧ w' = w := by
  have hI := isQuote_any c w
  cases hb : quoteB c with
  | true =>
    rw [hb] at hI
    have HB : Hid (quoteB c = true) := hb
    clear hb
    go_enter Tryd.func27, Tryd.ntmps27
    go_wp2_with (go_at_call 36; refine hI.mono ?_; rintro e w' ⟨rfl, rfl⟩)
    all_goals
      go_ret
      refine ⟨?_, rfl⟩
      refine congrArg (fun b => Ending.returned (Value.bool b)) (Bool.eq_iff_iff.2 ?_)
      have hb := HB.out
      simp_all [termB]
      try omega
  | false =>
    rw [hb] at hI
    have HB : Hid (quoteB c = false) := hb
    clear hb
    go_enter Tryd.func27, Tryd.ntmps27
    go_wp2_with (go_at_call 36; refine hI.mono ?_; rintro e w' ⟨rfl, rfl⟩)
    all_goals
      go_ret
      refine ⟨?_, rfl⟩
      refine congrArg (fun b => Ending.returned (Value.bool b)) (Bool.eq_iff_iff.2 ?_)
      have hb := HB.out
      simp_all [termB]
      try omega

end Go.Proofs.YtpjckjggmcijjabDoor
