/-
  Which texts may be a terminal's, which are names: the program's own tests.
-/
import Derived.Test.YtckgjolaoifgkaaGreatProg
import Derived.WalkKit
import Derived.WalkSpells
import Derived.Deep.QuietTactic
import Derived.BigQuiet
namespace Go.Proofs.YtckgjolaoifgkaaGreat
open Go.RowKit

/-- May a byte stand in a terminal's text? -/
def textB (n : Nat) : Bool := !(decide (n < 32) || decide (126 < n) || decide (n = 39))
def letterB (n : Nat) : Bool := (decide (65 ≤ n) && decide (n ≤ 90)) || (decide (97 ≤ n) && decide (n ≤ 122)) || decide (n = 95)
def digitB (n : Nat) : Bool := decide (48 ≤ n) && decide (n ≤ 57)
def nameB (i n : Nat) : Bool := letterB n || (decide (0 < i) && digitB n)
/-- The byte at a place. -/
def chr (s : ByteArray) (i : Nat) : Nat := (s.data.toList.getD i 0).toNat
def lenOK (s : ByteArray) : Bool := decide (1 ≤ s.size) && decide (s.size ≤ 16)
def isTextB (s : ByteArray) : Bool := lenOK s && (List.range s.size).all (fun i => textB (chr s i))
def isNameB (s : ByteArray) : Bool := lenOK s && (List.range s.size).all (fun i => nameB i (chr s i))

theorem chr_lt (s : ByteArray) (i : Nat) : chr s i < 256 := UInt8.toNat_lt _
theorem chr_at (s : ByteArray) (i : Nat) (h : i < s.size) : (s[i]'h).toNat = chr s i := by
  have h' : i < s.data.toList.length := by simpa using h
  unfold chr
  rw [List.getD, List.getElem?_eq_getElem h']
  rfl

theorem index_at (s : ByteArray) (i : Nat) (h : i < s.size) (w : World) : (Instr.index 9 (.string s) (.int .i64 i)).run Tryz.prog w = .ok (.int .u8 (chr s i)) w := by
  rw [run_index_string w 9 s .i64 i Tryz.underlying9, dif_pos ⟨by omega, by omega⟩]
  congr 3
  exact chr_at s i h

theorem lenOK_any (s : ByteArray) (w : World) : Calls Tryz.prog 76 #[.string s] w fun e w' => e = .returned (.bool (lenOK s)) ∧ w' = w := by
  by_cases h : 1 ≤ s.size
  · have hd : decide (1 ≤ (s.size : Int)) = true := decide_eq_true (by omega)
    go_enter Tryz.func76, Tryz.ntmps76
    go_wp2_with fail
    go_ret
    refine ⟨?_, rfl⟩
    simp [lenOK, h]
    omega
  · have hd : decide (1 ≤ (s.size : Int)) = false := by simp; omega
    go_enter Tryz.func76, Tryz.ntmps76
    go_wp2_with fail
    go_ret
    exact ⟨by simp [lenOK, h], rfl⟩

theorem isText_any (s : ByteArray) (w : World) : Calls Tryz.prog 64 #[.string s] w fun e w' => e = .returned (.bool (isTextB s)) ∧ w' = w := by
  have hL := lenOK_any s w
  cases hl : lenOK s with
  | false =>
    rw [hl] at hL
    have e : isTextB s = false := by simp [isTextB, hl]
    rw [e]
    clear e hl
    go_enter Tryz.func64, Tryz.ntmps64
    go_wp2_with (go_at_call 76; refine hL.mono ?_; rintro e w' ⟨rfl, rfl⟩)
    go_ret
    exact ⟨rfl, rfl⟩
  | true =>
    rw [hl] at hL
    have hsz : s.size ≤ 16 := by simp [lenOK] at hl; omega
    have e : isTextB s = (List.range s.size).all (fun i => textB (chr s i)) := by simp [isTextB, hl]
    rw [e]
    clear e hl
    generalize hr : (List.range s.size).all (fun i => textB (chr s i)) = r
    have HR : Hid ((List.range s.size).all (fun i => textB (chr s i)) = r) := hr
    clear hr
    go_enter Tryz.func64, Tryz.ntmps64
    go_wp2_with (go_at_call 76; refine hL.mono ?_; rintro e w' ⟨rfl, rfl⟩)
    go_loopw [10] (fun i wr => ∃ k : Nat, k ≤ s.size ∧ i = .int .i64 k ∧ wr = w' ∧ ∀ j, j < k → textB (chr s j) = true) (fun i _ => s.size - (intOf i).toNat)
    case atStart => exact ⟨0, Nat.zero_le _, rfl, rfl, fun j hj => by omega⟩
    case round =>
      obtain ⟨k, hk, rfl, rfl, hall⟩ := hrel
      by_cases hlt : k < s.size
      · have hix := fun w => index_at s k hlt w
        have hc := chr_lt s k
        have hno : textB (chr s k) = false → r = false := fun h => by
          rw [← HR.out, Bool.eq_false_iff]
          intro h2
          have := List.all_eq_true.1 h2 k (by simpa using hlt)
          rw [h] at this
          cases this
        have hup : textB (chr s k) = true → ∀ j, j < k + 1 → textB (chr s j) = true := fun h j hj => by
          by_cases e : j = k
          · subst e; exact h
          · exact hall j (by omega)
        clear hall
        generalize hx : chr s k = c at *
        by_cases h1 : c < 32
        · have hrf := hno (by simp [textB, h1])
          have hd1 : decide ((c : Int) < 32) = true := decide_eq_true (by omega)
          go_wp2_with fail
          go_ret
          exact ⟨by rw [hrf]; rfl, rfl⟩
        · have hd1 : decide ((c : Int) < 32) = false := decide_eq_false (by omega)
          by_cases h2 : 126 < c
          · have hrf := hno (by simp [textB, h2])
            have hd2 : decide (126 < (c : Int)) = true := decide_eq_true (by omega)
            go_wp2_with fail
            go_ret
            exact ⟨by rw [hrf]; rfl, rfl⟩
          · have hd2 : decide (126 < (c : Int)) = false := decide_eq_false (by omega)
            by_cases h3 : c = 39
            · have hrf := hno (by simp [textB, h3])
              have hd3 : ((c : Int) == 39) = true := beq_iff_eq.2 (by omega)
              clear h3
              go_wp2_with fail
              go_ret
              exact ⟨by rw [hrf]; rfl, rfl⟩
            · have hd3 : ((c : Int) == 39) = false := beq_eq_false_iff_ne.2 (by omega)
              have hup' := hup (by simp [textB, h1, h2, h3])
              clear hno hup
              go_wp2_with fail
              go_roundw
              case rel => exact ⟨k + 1, by omega, by go_num, trivial, hup'⟩
              case measure => simp [intOf]; omega
      · obtain rfl : k = s.size := by omega
        go_wp2_with fail
        go_ret
        have he : r = true := HR.out.symm.trans (List.all_eq_true.2 fun i hi => hall i (by simpa using hi))
        rw [he]
        exact ⟨rfl, rfl⟩

theorem isDigit_any (c : Nat) (w : World) : Calls Tryz.prog 78 #[.int .u8 c] w fun e w' => e = .returned (.bool (digitB c)) ∧ w' = w := by
  by_cases h : 48 ≤ c
  · have hd : decide (48 ≤ (c : Int)) = true := decide_eq_true (by omega)
    go_enter Tryz.func78, Tryz.ntmps78
    go_wp2_with fail
    go_ret
    exact ⟨by simp [digitB, h]; omega, rfl⟩
  · have hd : decide (48 ≤ (c : Int)) = false := decide_eq_false (by omega)
    go_enter Tryz.func78, Tryz.ntmps78
    go_wp2_with fail
    go_ret
    exact ⟨by simp [digitB, h], rfl⟩

theorem isLetter_any (c : Nat) (w : World) : Calls Tryz.prog 77 #[.int .u8 c] w fun e w' => e = .returned (.bool (letterB c)) ∧ w' = w := by
  have key : letterB c = true ↔ ((65 ≤ c ∧ c ≤ 90) ∨ (97 ≤ c ∧ c ≤ 122) ∨ c = 95) := by simp [letterB, or_assoc]
  have keyf : letterB c = false ↔ ¬ ((65 ≤ c ∧ c ≤ 90) ∨ (97 ≤ c ∧ c ≤ 122) ∨ c = 95) := by rw [← key]; simp
  generalize letterB c = r at *
  by_cases h1 : 65 ≤ c
  · have d1 : decide (65 ≤ (c : Int)) = true := decide_eq_true (by omega)
    by_cases h2 : c ≤ 90
    · have d2 : decide ((c : Int) ≤ 90) = true := decide_eq_true (by omega)
      obtain rfl : r = true := key.2 (.inl ⟨h1, h2⟩)
      clear key keyf
      go_enter Tryz.func77, Tryz.ntmps77
      go_wp2_with fail
      go_ret
      exact ⟨rfl, rfl⟩
    · have d2 : decide ((c : Int) ≤ 90) = false := decide_eq_false (by omega)
      by_cases h3 : 97 ≤ c
      · have d3 : decide (97 ≤ (c : Int)) = true := decide_eq_true (by omega)
        by_cases h4 : c ≤ 122
        · have d4 : decide ((c : Int) ≤ 122) = true := decide_eq_true (by omega)
          obtain rfl : r = true := key.2 (.inr (.inl ⟨h3, h4⟩))
          clear key keyf
          go_enter Tryz.func77, Tryz.ntmps77
          go_wp2_with fail
          go_ret
          exact ⟨rfl, rfl⟩
        · have d4 : decide ((c : Int) ≤ 122) = false := decide_eq_false (by omega)
          have d5 : ((c : Int) == 95) = false := beq_eq_false_iff_ne.2 (by omega)
          obtain rfl : r = false := keyf.2 (by omega)
          clear key keyf
          go_enter Tryz.func77, Tryz.ntmps77
          go_wp2_with fail
          go_ret
          exact ⟨rfl, rfl⟩
      · have d3 : decide (97 ≤ (c : Int)) = false := decide_eq_false (by omega)
        by_cases h5 : c = 95
        · have d5 : ((c : Int) == 95) = true := beq_iff_eq.2 (by omega)
          obtain rfl : r = true := key.2 (.inr (.inr h5))
          clear key keyf h5
          go_enter Tryz.func77, Tryz.ntmps77
          go_wp2_with fail
          go_ret
          exact ⟨rfl, rfl⟩
        · have d5 : ((c : Int) == 95) = false := beq_eq_false_iff_ne.2 (by omega)
          obtain rfl : r = false := keyf.2 (by omega)
          clear key keyf
          go_enter Tryz.func77, Tryz.ntmps77
          go_wp2_with fail
          go_ret
          exact ⟨rfl, rfl⟩
  · have d1 : decide (65 ≤ (c : Int)) = false := decide_eq_false (by omega)
    have d3 : decide (97 ≤ (c : Int)) = false := decide_eq_false (by omega)
    have d5 : ((c : Int) == 95) = false := beq_eq_false_iff_ne.2 (by omega)
    obtain rfl : r = false := keyf.2 (by omega)
    clear key keyf
    go_enter Tryz.func77, Tryz.ntmps77
    go_wp2_with fail
    go_ret
    exact ⟨rfl, rfl⟩

theorem isName_any (s : ByteArray) (w : World) : Calls Tryz.prog 67 #[.string s] w fun e w' => e = .returned (.bool (isNameB s)) ∧ w' = w := by
  have hL := lenOK_any s w
  cases hl : lenOK s with
  | false =>
    rw [hl] at hL
    have e : isNameB s = false := by simp [isNameB, hl]
    rw [e]
    clear e hl
    go_enter Tryz.func67, Tryz.ntmps67
    go_wp2_with (go_at_call 76; refine hL.mono ?_; rintro e w' ⟨rfl, rfl⟩)
    go_ret
    exact ⟨rfl, rfl⟩
  | true =>
    rw [hl] at hL
    have hsz : s.size ≤ 16 := by simp [lenOK] at hl; omega
    have e : isNameB s = (List.range s.size).all (fun i => nameB i (chr s i)) := by simp [isNameB, hl]
    rw [e]
    clear e hl
    generalize hr : (List.range s.size).all (fun i => nameB i (chr s i)) = r
    have HR : Hid ((List.range s.size).all (fun i => nameB i (chr s i)) = r) := hr
    clear hr
    go_enter Tryz.func67, Tryz.ntmps67
    go_wp2_with (go_at_call 76; refine hL.mono ?_; rintro e w' ⟨rfl, rfl⟩)
    go_loopw [10] (fun i wr => ∃ k : Nat, k ≤ s.size ∧ i = .int .i64 k ∧ wr = w' ∧ ∀ j, j < k → nameB j (chr s j) = true) (fun i _ => s.size - (intOf i).toNat)
    case atStart => exact ⟨0, Nat.zero_le _, rfl, rfl, fun j hj => by omega⟩
    case round =>
      obtain ⟨k, hk, rfl, rfl, hall⟩ := hrel
      by_cases hlt : k < s.size
      · have hix := fun w => index_at s k hlt w
        have hno : nameB k (chr s k) = false → r = false := fun h => by
          rw [← HR.out, Bool.eq_false_iff]
          intro h2
          have := List.all_eq_true.1 h2 k (by simpa using hlt)
          rw [h] at this
          cases this
        have hup : nameB k (chr s k) = true → ∀ j, j < k + 1 → nameB j (chr s j) = true := fun h j hj => by
          by_cases e : j = k
          · subst e; exact h
          · exact hall j (by omega)
        clear hall
        generalize hx : chr s k = c at *
        have HLT := isLetter_any c wr
        have HDG := isDigit_any c wr
        cases hlet : letterB c with
        | true =>
          have hup' := hup (by simp [nameB, hlet])
          rw [hlet] at HLT
          clear hno hup
          go_wp2_with (go_at_call 77; refine HLT.mono ?_; rintro e w' ⟨rfl, rfl⟩)
          go_roundw
          case rel => exact ⟨k + 1, by omega, by go_num, trivial, hup'⟩
          case measure => simp [intOf]; omega
        | false =>
          rw [hlet] at HLT
          by_cases h0 : k = 0
          · have hrf := hno (by simp [nameB, hlet, h0])
            have hd0 : ((k : Int) == 0) = true := beq_iff_eq.2 (by omega)
            clear h0 hup
            go_wp2_with (go_at_call 77; refine HLT.mono ?_; rintro e w' ⟨rfl, rfl⟩)
            go_ret
            exact ⟨by rw [hrf]; rfl, rfl⟩
          · have hd0 : ((k : Int) == 0) = false := beq_eq_false_iff_ne.2 (by omega)
            cases hdig : digitB c with
            | true =>
              have hup' := hup (by simp [nameB, hdig]; omega)
              rw [hdig] at HDG
              clear hno hup
              go_wp2_with (first | (go_at_call 77; refine HLT.mono ?_; rintro e w' ⟨rfl, rfl⟩) | (go_at_call 78; refine HDG.mono ?_; rintro e w' ⟨rfl, rfl⟩))
              go_roundw
              case rel => exact ⟨k + 1, by omega, by go_num, trivial, hup'⟩
              case measure => simp [intOf]; omega
            | false =>
              have hrf := hno (by simp [nameB, hlet, hdig])
              rw [hdig] at HDG
              clear hup
              go_wp2_with (first | (go_at_call 77; refine HLT.mono ?_; rintro e w' ⟨rfl, rfl⟩) | (go_at_call 78; refine HDG.mono ?_; rintro e w' ⟨rfl, rfl⟩))
              go_ret
              exact ⟨by rw [hrf]; rfl, rfl⟩
      · obtain rfl : k = s.size := by omega
        go_wp2_with fail
        go_ret
        have he : r = true := HR.out.symm.trans (List.all_eq_true.2 fun i hi => hall i (by simpa using hi))
        rw [he]
        exact ⟨rfl, rfl⟩

end Go.Proofs.YtckgjolaoifgkaaGreat

namespace Go.Proofs.YtckgjolaoifgkaaGreat
open Go.RowKit

/-- A world of which p holds. -/
structure WBox (p : World → Prop) where
  w : World
  ok : p w

theorem wp_region_class {p : World → Prop} {id : Nat} {Q : Exit → Act → World → Prop} {a : Act} {w : World} {l : List Oper} (hm : Tryz.prog.follows .mixedOrders = true) (hB : Region.lexB .any l.toArray = true) (hC : p w.drew)
    (h : wpQuiet Tryz.prog l.toArray (fun w' => ∃ s : WBox p, w' = s.w) (fun a' => ∀ w', (∃ s : WBox p, w' = s.w) → Q .normal a' w') l a) : (Code.region id l.toArray true).wp Tryz.prog Q a w :=
  wp_region_quiet (C := fun w' => ∃ s : WBox p, w' = s.w) hm hB ⟨⟨_, hC⟩, rfl⟩ (by simpa using h)

theorem calls_class {p : World → Prop} {f : FuncId} {args : Array Value} {v : Value} {s : WBox p} (h : Calls Tryz.prog f args s.w fun e w' => e = .returned v ∧ p w') : Calls Tryz.prog f args s.w fun e w'' => e = .returned v ∧ ∃ s' : WBox p, w'' = s'.w :=
  h.mono fun _ _ ⟨he, hp⟩ => ⟨he, ⟨_, hp⟩, rfl⟩

end Go.Proofs.YtckgjolaoifgkaaGreat
