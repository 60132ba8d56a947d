import Derived.Test.YthoamlahbnphkaaGreatProg
import Derived.WalkKit
import Derived.WalkSpells
import Derived.Deep.QuietTactic
import Derived.BigQuiet
import Derived.Deep.MidRow
import Derived.Deep.WholeRow
import Derived.Maps.OwnSet
import Derived.ArgAppend
import Derived.Below
import Derived.Laws.Externs
import Derived.MapKept
import Derived.Shelf.SlMaps.Clone
import Derived.Laws.AppendOwnNone
import Derived.Deep.AppendLies
import Derived.Deep.RegionLaw
import Derived.Deep.CutRange
import Derived.Shelf.Abstract
import Derived.Laws.CopyOwn

/-
  Which texts may be a terminal's, which are names: the program's own tests.
-/
namespace Go.Proofs.YthoamlahbnphkaaGreat
open Go.RowKit

/-- May a byte stand in a terminal's text? -/
def textB (n : Nat) : Bool := !(decide (n < 32) || decide (126 < n) || decide (n = 39))
def letterB (n : Nat) : Bool := (decide (65 ≤ n) && decide (n ≤ 90)) || (decide (97 ≤ n) && decide (n ≤ 122)) || decide (n = 95)
def digitB (n : Nat) : Bool := decide (48 ≤ n) && decide (n ≤ 57)
def nameB (i n : Nat) : Bool := letterB n || (decide (0 < i) && digitB n)
/-- The byte at a place. -/
def chr (s : ByteArray) (i : Nat) : Nat := (s.data.toList.getD i 0).toNat
def lenOK (s : ByteArray) : Bool := decide (1 ≤ s.size) && decide (s.size ≤ 16)
def isTextB (s : ByteArray) : Bool := lenOK s && (List.range s.size).all (fun i => textB (chr s i))
def isNameB (s : ByteArray) : Bool := lenOK s && (List.range s.size).all (fun i => nameB i (chr s i))

theorem chr_lt (s : ByteArray) (i : Nat) : chr s i < 256 := UInt8.toNat_lt _
theorem chr_at (s : ByteArray) (i : Nat) (h : i < s.size) : (s[i]'h).toNat = chr s i := by
  have h' : i < s.data.toList.length := by simpa using h
  unfold chr
  rw [List.getD, List.getElem?_eq_getElem h']
  rfl

theorem index_at (s : ByteArray) (i : Nat) (h : i < s.size) (w : World) : (Instr.index 9 (.string s) (.int .i64 i)).run Tryz.prog w = .ok (.int .u8 (chr s i)) w := by
  rw [run_index_string w 9 s .i64 i Tryz.underlying9, dif_pos ⟨by omega, by omega⟩]
  congr 3
  exact chr_at s i h

theorem lenOK_any (s : ByteArray) (w : World) : Calls Tryz.prog 154 #[.string s] w fun e w' => e = .returned (.bool (lenOK s)) ∧ w' = w := by
  by_cases h : 1 ≤ s.size
  · have hd : decide (1 ≤ (s.size : Int)) = true := decide_eq_true (by omega)
    go_enter Tryz.func154, Tryz.ntmps154
    go_wp2_with fail
    go_ret
    refine ⟨?_, rfl⟩
    simp [lenOK, h]
    omega
  · have hd : decide (1 ≤ (s.size : Int)) = false := by simp; omega
    go_enter Tryz.func154, Tryz.ntmps154
    go_wp2_with fail
    go_ret
    exact ⟨by simp [lenOK, h], rfl⟩

theorem isText_any (s : ByteArray) (w : World) : Calls Tryz.prog 130 #[.string s] w fun e w' => e = .returned (.bool (isTextB s)) ∧ w' = w := by
  have hL := lenOK_any s w
  cases hl : lenOK s with
  | false =>
    rw [hl] at hL
    have e : isTextB s = false := by simp [isTextB, hl]
    rw [e]
    clear e hl
    go_enter Tryz.func130, Tryz.ntmps130
    go_wp2_with (go_at_call 154; refine hL.mono ?_; rintro e w' ⟨rfl, rfl⟩)
    go_ret
    exact ⟨rfl, rfl⟩
  | true =>
    rw [hl] at hL
    have hsz : s.size ≤ 16 := by simp [lenOK] at hl; omega
    have e : isTextB s = (List.range s.size).all (fun i => textB (chr s i)) := by simp [isTextB, hl]
    rw [e]
    clear e hl
    generalize hr : (List.range s.size).all (fun i => textB (chr s i)) = r
    have HR : Hid ((List.range s.size).all (fun i => textB (chr s i)) = r) := hr
    clear hr
    go_enter Tryz.func130, Tryz.ntmps130
    go_wp2_with (go_at_call 154; refine hL.mono ?_; rintro e w' ⟨rfl, rfl⟩)
    go_loopw [10] (fun i wr => ∃ k : Nat, k ≤ s.size ∧ i = .int .i64 k ∧ wr = w' ∧ ∀ j, j < k → textB (chr s j) = true) (fun i _ => s.size - (intOf i).toNat)
    case atStart => exact ⟨0, Nat.zero_le _, rfl, rfl, fun j hj => by omega⟩
    case round =>
      obtain ⟨k, hk, rfl, rfl, hall⟩ := hrel
      by_cases hlt : k < s.size
      · have hix := fun w => index_at s k hlt w
        have hc := chr_lt s k
        have hno : textB (chr s k) = false → r = false := fun h => by
          rw [← HR.out, Bool.eq_false_iff]
          intro h2
          have := List.all_eq_true.1 h2 k (by simpa using hlt)
          rw [h] at this
          cases this
        have hup : textB (chr s k) = true → ∀ j, j < k + 1 → textB (chr s j) = true := fun h j hj => by
          by_cases e : j = k
          · subst e; exact h
          · exact hall j (by omega)
        clear hall
        generalize hx : chr s k = c at *
        by_cases h1 : c < 32
        · have hrf := hno (by simp [textB, h1])
          have hd1 : decide ((c : Int) < 32) = true := decide_eq_true (by omega)
          go_wp2_with fail
          go_ret
          exact ⟨by rw [hrf]; rfl, rfl⟩
        · have hd1 : decide ((c : Int) < 32) = false := decide_eq_false (by omega)
          by_cases h2 : 126 < c
          · have hrf := hno (by simp [textB, h2])
            have hd2 : decide (126 < (c : Int)) = true := decide_eq_true (by omega)
            go_wp2_with fail
            go_ret
            exact ⟨by rw [hrf]; rfl, rfl⟩
          · have hd2 : decide (126 < (c : Int)) = false := decide_eq_false (by omega)
            by_cases h3 : c = 39
            · have hrf := hno (by simp [textB, h3])
              have hd3 : ((c : Int) == 39) = true := beq_iff_eq.2 (by omega)
              clear h3
              go_wp2_with fail
              go_ret
              exact ⟨by rw [hrf]; rfl, rfl⟩
            · have hd3 : ((c : Int) == 39) = false := beq_eq_false_iff_ne.2 (by omega)
              have hup' := hup (by simp [textB, h1, h2, h3])
              clear hno hup
              go_wp2_with fail
              go_roundw
              case rel => exact ⟨k + 1, by omega, by go_num, trivial, hup'⟩
              case measure => simp [intOf]; omega
      · obtain rfl : k = s.size := by omega
        go_wp2_with fail
        go_ret
        have he : r = true := HR.out.symm.trans (List.all_eq_true.2 fun i hi => hall i (by simpa using hi))
        rw [he]
        exact ⟨rfl, rfl⟩

theorem isDigit_any (c : Nat) (w : World) : Calls Tryz.prog 156 #[.int .u8 c] w fun e w' => e = .returned (.bool (digitB c)) ∧ w' = w := by
  by_cases h : 48 ≤ c
  · have hd : decide (48 ≤ (c : Int)) = true := decide_eq_true (by omega)
    go_enter Tryz.func156, Tryz.ntmps156
    go_wp2_with fail
    go_ret
    exact ⟨by simp [digitB, h]; omega, rfl⟩
  · have hd : decide (48 ≤ (c : Int)) = false := decide_eq_false (by omega)
    go_enter Tryz.func156, Tryz.ntmps156
    go_wp2_with fail
    go_ret
    exact ⟨by simp [digitB, h], rfl⟩

theorem isLetter_any (c : Nat) (w : World) : Calls Tryz.prog 155 #[.int .u8 c] w fun e w' => e = .returned (.bool (letterB c)) ∧ w' = w := by
  have key : letterB c = true ↔ ((65 ≤ c ∧ c ≤ 90) ∨ (97 ≤ c ∧ c ≤ 122) ∨ c = 95) := by simp [letterB, or_assoc]
  have keyf : letterB c = false ↔ ¬ ((65 ≤ c ∧ c ≤ 90) ∨ (97 ≤ c ∧ c ≤ 122) ∨ c = 95) := by rw [← key]; simp
  generalize letterB c = r at *
  by_cases h1 : 65 ≤ c
  · have d1 : decide (65 ≤ (c : Int)) = true := decide_eq_true (by omega)
    by_cases h2 : c ≤ 90
    · have d2 : decide ((c : Int) ≤ 90) = true := decide_eq_true (by omega)
      obtain rfl : r = true := key.2 (.inl ⟨h1, h2⟩)
      clear key keyf
      go_enter Tryz.func155, Tryz.ntmps155
      go_wp2_with fail
      go_ret
      exact ⟨rfl, rfl⟩
    · have d2 : decide ((c : Int) ≤ 90) = false := decide_eq_false (by omega)
      by_cases h3 : 97 ≤ c
      · have d3 : decide (97 ≤ (c : Int)) = true := decide_eq_true (by omega)
        by_cases h4 : c ≤ 122
        · have d4 : decide ((c : Int) ≤ 122) = true := decide_eq_true (by omega)
          obtain rfl : r = true := key.2 (.inr (.inl ⟨h3, h4⟩))
          clear key keyf
          go_enter Tryz.func155, Tryz.ntmps155
          go_wp2_with fail
          go_ret
          exact ⟨rfl, rfl⟩
        · have d4 : decide ((c : Int) ≤ 122) = false := decide_eq_false (by omega)
          have d5 : ((c : Int) == 95) = false := beq_eq_false_iff_ne.2 (by omega)
          obtain rfl : r = false := keyf.2 (by omega)
          clear key keyf
          go_enter Tryz.func155, Tryz.ntmps155
          go_wp2_with fail
          go_ret
          exact ⟨rfl, rfl⟩
      · have d3 : decide (97 ≤ (c : Int)) = false := decide_eq_false (by omega)
        by_cases h5 : c = 95
        · have d5 : ((c : Int) == 95) = true := beq_iff_eq.2 (by omega)
          obtain rfl : r = true := key.2 (.inr (.inr h5))
          clear key keyf h5
          go_enter Tryz.func155, Tryz.ntmps155
          go_wp2_with fail
          go_ret
          exact ⟨rfl, rfl⟩
        · have d5 : ((c : Int) == 95) = false := beq_eq_false_iff_ne.2 (by omega)
          obtain rfl : r = false := keyf.2 (by omega)
          clear key keyf
          go_enter Tryz.func155, Tryz.ntmps155
          go_wp2_with fail
          go_ret
          exact ⟨rfl, rfl⟩
  · have d1 : decide (65 ≤ (c : Int)) = false := decide_eq_false (by omega)
    have d3 : decide (97 ≤ (c : Int)) = false := decide_eq_false (by omega)
    have d5 : ((c : Int) == 95) = false := beq_eq_false_iff_ne.2 (by omega)
    obtain rfl : r = false := keyf.2 (by omega)
    clear key keyf
    go_enter Tryz.func155, Tryz.ntmps155
    go_wp2_with fail
    go_ret
    exact ⟨rfl, rfl⟩

theorem isName_any (s : ByteArray) (w : World) : Calls Tryz.prog 133 #[.string s] w fun e w' => e = .returned (.bool (isNameB s)) ∧ w' = w := by
  have hL := lenOK_any s w
  cases hl : lenOK s with
  | false =>
    rw [hl] at hL
    have e : isNameB s = false := by simp [isNameB, hl]
    rw [e]
    clear e hl
    go_enter Tryz.func133, Tryz.ntmps133
    go_wp2_with (go_at_call 154; refine hL.mono ?_; rintro e w' ⟨rfl, rfl⟩)
    go_ret
    exact ⟨rfl, rfl⟩
  | true =>
    rw [hl] at hL
    have hsz : s.size ≤ 16 := by simp [lenOK] at hl; omega
    have e : isNameB s = (List.range s.size).all (fun i => nameB i (chr s i)) := by simp [isNameB, hl]
    rw [e]
    clear e hl
    generalize hr : (List.range s.size).all (fun i => nameB i (chr s i)) = r
    have HR : Hid ((List.range s.size).all (fun i => nameB i (chr s i)) = r) := hr
    clear hr
    go_enter Tryz.func133, Tryz.ntmps133
    go_wp2_with (go_at_call 154; refine hL.mono ?_; rintro e w' ⟨rfl, rfl⟩)
    go_loopw [10] (fun i wr => ∃ k : Nat, k ≤ s.size ∧ i = .int .i64 k ∧ wr = w' ∧ ∀ j, j < k → nameB j (chr s j) = true) (fun i _ => s.size - (intOf i).toNat)
    case atStart => exact ⟨0, Nat.zero_le _, rfl, rfl, fun j hj => by omega⟩
    case round =>
      obtain ⟨k, hk, rfl, rfl, hall⟩ := hrel
      by_cases hlt : k < s.size
      · have hix := fun w => index_at s k hlt w
        have hno : nameB k (chr s k) = false → r = false := fun h => by
          rw [← HR.out, Bool.eq_false_iff]
          intro h2
          have := List.all_eq_true.1 h2 k (by simpa using hlt)
          rw [h] at this
          cases this
        have hup : nameB k (chr s k) = true → ∀ j, j < k + 1 → nameB j (chr s j) = true := fun h j hj => by
          by_cases e : j = k
          · subst e; exact h
          · exact hall j (by omega)
        clear hall
        generalize hx : chr s k = c at *
        have HLT := isLetter_any c wr
        have HDG := isDigit_any c wr
        cases hlet : letterB c with
        | true =>
          have hup' := hup (by simp [nameB, hlet])
          rw [hlet] at HLT
          clear hno hup
          go_wp2_with (go_at_call 155; refine HLT.mono ?_; rintro e w' ⟨rfl, rfl⟩)
          go_roundw
          case rel => exact ⟨k + 1, by omega, by go_num, trivial, hup'⟩
          case measure => simp [intOf]; omega
        | false =>
          rw [hlet] at HLT
          by_cases h0 : k = 0
          · have hrf := hno (by simp [nameB, hlet, h0])
            have hd0 : ((k : Int) == 0) = true := beq_iff_eq.2 (by omega)
            clear h0 hup
            go_wp2_with (go_at_call 155; refine HLT.mono ?_; rintro e w' ⟨rfl, rfl⟩)
            go_ret
            exact ⟨by rw [hrf]; rfl, rfl⟩
          · have hd0 : ((k : Int) == 0) = false := beq_eq_false_iff_ne.2 (by omega)
            cases hdig : digitB c with
            | true =>
              have hup' := hup (by simp [nameB, hdig]; omega)
              rw [hdig] at HDG
              clear hno hup
              go_wp2_with (first | (go_at_call 155; refine HLT.mono ?_; rintro e w' ⟨rfl, rfl⟩) | (go_at_call 156; refine HDG.mono ?_; rintro e w' ⟨rfl, rfl⟩))
              go_roundw
              case rel => exact ⟨k + 1, by omega, by go_num, trivial, hup'⟩
              case measure => simp [intOf]; omega
            | false =>
              have hrf := hno (by simp [nameB, hlet, hdig])
              rw [hdig] at HDG
              clear hup
              go_wp2_with (first | (go_at_call 155; refine HLT.mono ?_; rintro e w' ⟨rfl, rfl⟩) | (go_at_call 156; refine HDG.mono ?_; rintro e w' ⟨rfl, rfl⟩))
              go_ret
              exact ⟨by rw [hrf]; rfl, rfl⟩
      · obtain rfl : k = s.size := by omega
        go_wp2_with fail
        go_ret
        have he : r = true := HR.out.symm.trans (List.all_eq_true.2 fun i hi => hall i (by simpa using hi))
        rw [he]
        exact ⟨rfl, rfl⟩

end Go.Proofs.YthoamlahbnphkaaGreat

namespace Go.Proofs.YthoamlahbnphkaaGreat
open Go.RowKit

/-- A world of which p holds. -/
structure WBox (p : World → Prop) where
  w : World
  ok : p w

theorem wp_region_class {p : World → Prop} {id : Nat} {Q : Exit → Act → World → Prop} {a : Act} {w : World} {l : List Oper} (hm : Tryz.prog.follows .mixedOrders = true) (hB : Region.lexB .any l.toArray = true) (hC : p w.drew)
    (h : wpQuiet Tryz.prog l.toArray (fun w' => ∃ s : WBox p, w' = s.w) (fun a' => ∀ w', (∃ s : WBox p, w' = s.w) → Q .normal a' w') l a) : (Code.region id l.toArray true).wp Tryz.prog Q a w :=
  wp_region_quiet (C := fun w' => ∃ s : WBox p, w' = s.w) hm hB ⟨⟨_, hC⟩, rfl⟩ (by simpa using h)

theorem calls_class {p : World → Prop} {f : FuncId} {args : Array Value} {v : Value} {s : WBox p} (h : Calls Tryz.prog f args s.w fun e w' => e = .returned v ∧ p w') : Calls Tryz.prog f args s.w fun e w'' => e = .returned v ∧ ∃ s' : WBox p, w'' = s'.w :=
  h.mono fun _ _ ⟨he, hp⟩ => ⟨he, ⟨_, hp⟩, rfl⟩

end Go.Proofs.YthoamlahbnphkaaGreat

/-
  What a builder's memory is: two tables of names, the terminals' levels, the sides, the productions, the start symbol.
-/
namespace Go.Proofs.YthoamlahbnphkaaGreat
open Go.RowKit Go.Maps

/-- A production by handles. -/
structure PR where
  left : Int
  right : List Int
  level : Int

/-- A builder as it is told. -/
structure BS where
  terms : List ByteArray
  nons : List ByteArray
  lev : Nat → Int
  sides : List Int
  prods : List PR
  start : Int
  /-- (A mark of the proof's own: the blocks that its lists may lie in.) -/
  P : Nat → Prop := fun _ => True

/-- A text's number in a table, counted from k on; 0 if it is not there. -/
def numFrom : List ByteArray → ByteArray → Nat → Nat
  | [], _, _ => 0
  | x :: r, s, k => if x.data.toList = s.data.toList then k else numFrom r s (k + 1)
def numOf (l : List ByteArray) (s : ByteArray) : Nat := numFrom l s 1

theorem bytes_ext {x s : ByteArray} (h : x.data.toList = s.data.toList) : x = s := by
  cases x; cases s; congr 1; exact Array.ext' h

theorem numFrom_zero_iff (s : ByteArray) : ∀ (l : List ByteArray) (k : Nat), 0 < k → (numFrom l s k = 0 ↔ s ∉ l)
  | [], k, _ => by simp [numFrom]
  | x :: r, k, hk => by
    unfold numFrom
    split
    · next h => have e := bytes_ext h; subst e; simp; omega
    · next h =>
      rw [numFrom_zero_iff s r (k + 1) (by omega)]
      have : ¬ s = x := fun e => h (by rw [e])
      simp [this]
theorem numFrom_snoc_in (x s : ByteArray) : ∀ (l : List ByteArray) (k : Nat), s ∈ l → numFrom (l ++ [x]) s k = numFrom l s k
  | [], k, h => by cases h
  | y :: r, k, hs => by
    simp only [List.cons_append]
    unfold numFrom
    split
    · rfl
    · next h =>
      have : ¬ s = y := fun e => h (by rw [e])
      exact numFrom_snoc_in x s r (k + 1) (by simpa [this] using hs)
theorem numFrom_snoc_out (x s : ByteArray) : ∀ (l : List ByteArray) (k : Nat), s ∉ l → numFrom (l ++ [x]) s k = if x.data.toList = s.data.toList then k + l.length else 0
  | [], k, _ => by unfold numFrom; simp [numFrom]
  | y :: r, k, hs => by
    simp only [List.cons_append]
    unfold numFrom
    split
    · next h => exact absurd (by simp [bytes_ext h]) hs
    · rw [numFrom_snoc_out x s r (k + 1) (fun h => hs (by simp [h]))]
      split
      · simp; omega
      · rfl
theorem numOf_zero_iff {l : List ByteArray} {s : ByteArray} : numOf l s = 0 ↔ s ∉ l := numFrom_zero_iff s l 1 (by omega)
theorem numOf_zero {l : List ByteArray} {s : ByteArray} (h : s ∉ l) : numOf l s = 0 := numOf_zero_iff.2 h
theorem numOf_snoc_same {l : List ByteArray} {x : ByteArray} (hx : x ∉ l) : numOf (l ++ [x]) x = l.length + 1 := by
  unfold numOf; rw [numFrom_snoc_out _ _ _ _ hx, if_pos rfl]; omega
theorem numOf_snoc_other {l : List ByteArray} {x s : ByteArray} (h : s ≠ x) : numOf (l ++ [x]) s = numOf l s := by
  unfold numOf
  by_cases hs : s ∈ l
  · exact numFrom_snoc_in x s l 1 hs
  · rw [numFrom_snoc_out x s l 1 hs, if_neg (fun e => h (bytes_ext e).symm)]
    exact (numOf_zero hs).symm

noncomputable abbrev strR : Value → Option (DataW Unit × List MemPlace) := plainElem Tryz.prog 3

/-- A map that numbers the texts of a list. -/
def MapIs (w : World) (v : Value) (l : List ByteArray) : Prop :=
  (v = .map none ∧ l = []) ∨ ∃ B n, ∃ D : DataW Unit, v = .map (some B) ∧ n ≤ l.length ∧ w.ownsMap Tryz.prog 9 strR B n D ∧ ∀ s : ByteArray, D.atKey (.string s.data.toList) (.lit (.int .i64 0)) = .lit (.int .i64 (numOf l s))

def StrsIn (w : World) (v : Value) (l : List ByteArray) : Prop := w.ownsRow 0 9 1 v l.length (l.map Value.string)
def IntsIn (w : World) (v : Value) (l : List Int) : Prop := w.ownsRow 0 3 1 v l.length (l.map (Value.int .i64))
/-- The three cells of a production, its right side's slice r. -/
def prL (p : PR) (r : Value) : List Value := [.int .i64 p.left, r, .int .i64 p.level]
def ProdsIn (w : World) (v : Value) (ps : List PR) : Prop :=
  ∃ rs : List Value, rs.length = ps.length ∧ w.ownsRow 0 71 3 v ps.length ((ps.zip rs).flatMap fun x => prL x.1 x.2) ∧ ∀ i, i < ps.length → IntsIn w (rs.getD i undef) (ps.getD i ⟨0, [], 0⟩).right

/-- Its lists lie in blocks of which S.P holds; of all blocks to come it holds. -/
def Foot (w : World) (S : BS) (c : Nat → Value) : Prop :=
  (∀ g, w.heap.size ≤ g → S.P g) ∧ (∀ i, i = 1 ∨ i = 3 ∨ i = 69 ∨ i = 70 → ∀ g, (c i).ownBlock = some g → S.P g) ∧
  ∀ gp k v g, (c 70).ownBlock = some gp → k < S.prods.length * 3 → w.cell? ⟨gp, k, none⟩ = some v → v.ownBlock = some g → S.P g

structure BCells (w : World) (S : BS) (c : Nat → Value) : Prop where
  tm : MapIs w (c 0) S.terms
  tl : StrsIn w (c 1) S.terms
  nm : MapIs w (c 2) S.nons
  nl : StrsIn w (c 3) S.nons
  lv : ∀ i, i < 65 → c (4 + i) = .int .i64 (S.lev i)
  sd : IntsIn w (c 69) S.sides
  pr : ProdsIn w (c 70) S.prods
  st : c 71 = .int .i64 S.start
  ft : Foot w S c

/-- What always holds of a builder. -/
structure BS.OK (S : BS) : Prop where
  syms : S.terms.length + S.nons.length ≤ 64
  tnames : ∀ s ∈ S.terms, isTextB s = true
  nnames : ∀ s ∈ S.nons, isNameB s = true
  tnd : S.terms.Nodup
  nnd : S.nons.Nodup
  sides : S.sides.length ≤ 64
  sdv : ∀ x ∈ S.sides, 1 ≤ x ∧ x ≤ 3
  prods : S.prods.length ≤ 96
  lev : ∀ i, 0 ≤ S.lev i ∧ S.lev i ≤ S.sides.length
  lev0 : S.lev 0 = 0
  levT : ∀ h, S.terms.length < h → S.lev h = 0
  has : ∀ i, i < S.sides.length → ∃ h, 1 ≤ h ∧ h ≤ S.terms.length ∧ S.lev h = (i : Int) + 1
  pl : ∀ p ∈ S.prods, -(S.nons.length : Int) ≤ p.left ∧ p.left < 0
  pr : ∀ p ∈ S.prods, ∀ h ∈ p.right, (0 < h ∧ h ≤ S.terms.length) ∨ (h < 0 ∧ -(S.nons.length : Int) ≤ h)
  plen : ∀ p ∈ S.prods, p.right.length ≤ 17592186044416
  pv : ∀ p ∈ S.prods, 0 ≤ p.level ∧ p.level ≤ S.sides.length
  st : S.start = 0 ∨ (-(S.nons.length : Int) ≤ S.start ∧ S.start < 0)

/-! ### What keeps -/
theorem grown_refl (w : World) (row : Option Nat) : w.grownBy w row := ⟨rfl, rfl, rfl, Nat.le_refl _, fun _ _ _ => rfl⟩
theorem grown_trans {w w1 w2 : World} {row : Option Nat} (h : w.grownBy w1 row) (k : w1.grownBy w2 row) : w.grownBy w2 row :=
  ⟨k.os.trans h.os, k.tape.trans h.tape, k.output.trans h.output, Nat.le_trans h.size k.size, fun i hi hne => (k.block i (Nat.lt_of_lt_of_le hi h.size) hne).trans (h.block i hi hne)⟩
theorem grown_below0 {w w1 : World} (h : w.grownBy w1 none) : Below w.heap.size w w1 := ⟨h.os, h.tape, h.output, h.size, fun k hk => h.block k hk (by simp)⟩
theorem grown_setCell {w : World} (b o : Nat) (v : Value) : w.grownBy (w.setCell ⟨b, o, none⟩ v) (some b) :=
  ⟨rfl, rfl, rfl, by simp [World.setCell], fun k _ hne => Below.heap_setCell _ _ _ _ (fun e => hne (by simp [e]))⟩
/-- What a new block beyond w does not touch. -/
theorem grown_new {w w1 w2 : World} {b : Nat} (h : w.grownBy w1 none) (k : w1.grownBy w2 (some b)) (hb : w.heap.size ≤ b) : w.grownBy w2 none :=
  ⟨k.os.trans h.os, k.tape.trans h.tape, k.output.trans h.output, Nat.le_trans h.size k.size, fun i hi _ => (k.block i (Nat.lt_of_lt_of_le hi h.size) (by simp; omega)).trans (h.block i hi (by simp))⟩

/-- One cell turned. -/
def putC (c : Nat → Value) (i : Nat) (v : Value) : Nat → Value := fun j => if j = i then v else c j
end Go.Proofs.YthoamlahbnphkaaGreat

/-
  What a table of names does: its size, a name's number, a new name.
-/
namespace Go.Proofs.YthoamlahbnphkaaGreat
open Go.RowKit Go.Maps

theorem strKey : Keyed Tryz.prog 9 := string_keyed Tryz.underlying9
theorem infoStr : (Tryz.prog.info? 9).map (fun i => (i.zero, i.size, i.bytes)) = some (some (.string ByteArray.empty), 1, 16) := by kernel_rfl

theorem StrsIn.form {w : World} {v : Value} {l : List ByteArray} (h : StrsIn w v l) : ∃ a cap, v = .slice a l.length cap ∧ l.length ≤ cap ∧ (a = none → l.length = 0 ∧ cap = 0) ∧ (∀ g, a = some g → ∀ j u, (l.map Value.string)[j]? = some u → w.cell? (g.add j) = some u) := by
  have h' := h
  rcases h.2 with ⟨rfl, hn⟩ | ⟨g, cap, cur, rfl, _, hg, hle, _⟩
  · rw [hn]
    exact ⟨none, 0, rfl, Nat.le_refl _, fun _ => ⟨rfl, rfl⟩, fun g hg => by cases hg⟩
  · exact ⟨_, cap, rfl, hle, (fun h => by cases h), (fun g' hg' => by cases hg'; exact World.ownsRow.cells h' rfl)⟩
theorem IntsIn.form {w : World} {v : Value} {l : List Int} (h : IntsIn w v l) : ∃ a cap, v = .slice a l.length cap ∧ l.length ≤ cap ∧ (a = none → l.length = 0 ∧ cap = 0) ∧ (∀ g, a = some g → ∀ j u, (l.map (Value.int .i64))[j]? = some u → w.cell? (g.add j) = some u) := by
  have h' := h
  rcases h.2 with ⟨rfl, hn⟩ | ⟨g, cap, cur, rfl, _, hg, hle, _⟩
  · rw [hn]
    exact ⟨none, 0, rfl, Nat.le_refl _, fun _ => ⟨rfl, rfl⟩, fun g hg => by cases hg⟩
  · exact ⟨_, cap, rfl, hle, (fun h => by cases h), (fun g' hg' => by cases hg'; exact World.ownsRow.cells h' rfl)⟩

theorem keyStr (s : ByteArray) (hs : s.size ≤ maxLen) : keyOf Tryz.prog 9 (.string s) = some (.string s.data.toList) := WideMaps.keyOf_string_mk Tryz.underlying9 hs

theorem owns_base {w : World} {base e size n : Nat} {v : Value} {xs : List Value} (h : w.ownsRow base e size v n xs) : w.ownsRow 0 e size v n xs := by
  refine ⟨h.1, ?_⟩
  rcases h.2 with h' | ⟨g, cap, cur, hv, _, rest⟩
  · exact .inl h'
  · exact .inr ⟨g, cap, cur, hv, Nat.zero_le _, rest⟩

theorem MapIs.put {w : World} {l : List ByteArray} {B n : Nat} {D : DataW Unit} {s : ByteArray} (ho : w.ownsMap Tryz.prog 9 strR B (n + 1) (D.put (.string s.data.toList) (.lit (.int .i64 ((l.length + 1 : Nat) : Int))))) (hn : n ≤ l.length) (hs : s ∉ l) (hD : IsMap D)
    (hat : ∀ s : ByteArray, D.atKey (.string s.data.toList) (.lit (.int .i64 0)) = .lit (.int .i64 (numOf l s))) : MapIs w (.map (some B)) (l ++ [s]) := by
  refine .inr ⟨B, n + 1, _, rfl, by simp; omega, ho, fun s' => ?_⟩
  by_cases e : s' = s
  · subst e
    rw [atKey_put_same hD (by simp [WideAt.IsKeyLit]), numOf_snoc_same hs]
  · rw [atKey_put_other (fun h => e (bytes_ext (by simpa using h))), hat s', numOf_snoc_other e]

end Go.Proofs.YthoamlahbnphkaaGreat

/-
  A new name in a table: the map and the list are replaced.
-/
namespace Go.Proofs.YthoamlahbnphkaaGreat
open Go.RowKit Go.Maps

theorem str_oneCell (s : ByteArray) : ∀ u ∈ [Value.string s], u.oneCell' = true := by
  intro u hu; simp at hu; subst hu; rfl

end Go.Proofs.YthoamlahbnphkaaGreat

/-
  Term and Non of a builder; whether a handle is a terminal's or a nonterminal's.
-/
namespace Go.Proofs.YthoamlahbnphkaaGreat
open Go.RowKit Go.Maps

theorem grown_drewN (w : World) (k : Nat) : w.grownBy (w.drewN k) none := ⟨rfl, rfl, rfl, Nat.le_refl _, fun _ _ _ => rfl⟩
/-! ### Term, Non -/
def BS.addT (S : BS) (s : ByteArray) : BS := { S with terms := S.terms ++ [s] }
def BS.addN (S : BS) (s : ByteArray) : BS := { S with nons := S.nons ++ [s] }
/-- A name's number, or 0 and the error; the builder behind it. -/
def numbered (full : Bool) (l : List ByteArray) (s : ByteArray) : Nat × Int :=
  if numOf l s = 0 then (if full then (0, 11) else (l.length + 1, 0)) else (numOf l s, 0)
def BS.full (S : BS) : Bool := decide (64 ≤ S.terms.length + S.nons.length)
def BS.term (S : BS) (s : ByteArray) : Int × Int × BS :=
  if isTextB s then (((numbered S.full S.terms s).1 : Int), (numbered S.full S.terms s).2, if numOf S.terms s = 0 ∧ S.full = false then S.addT s else S) else (0, 1, S)
def BS.non (S : BS) (s : ByteArray) : Int × Int × BS :=
  if isNameB s then (-((numbered S.full S.nons s).1 : Int), (numbered S.full S.nons s).2, if numOf S.nons s = 0 ∧ S.full = false then S.addN s else S) else (0, 1, S)

theorem BS.OK.addT {S : BS} (h : S.OK) {s : ByteArray} (hs : isTextB s = true) (hni : s ∉ S.terms) (hf : S.full = false) : (S.addT s).OK := by
  have hf' : S.terms.length + S.nons.length < 64 := by simpa [BS.full] using hf
  have hl : (S.addT s).terms.length = S.terms.length + 1 := by simp [BS.addT]
  refine ⟨by rw [hl]; show S.terms.length + 1 + S.nons.length ≤ 64; omega, fun x hx => ?_, h.nnames, ?_, h.nnd, h.sides, h.sdv, h.prods, h.lev, h.lev0, fun k hk => h.levT k (by omega), fun i hi => ?_, h.pl, fun p hp k hk => ?_, h.plen, h.pv, h.st⟩
  · rcases List.mem_append.1 hx with hx | hx
    · exact h.tnames x hx
    · simp at hx; subst hx; exact hs
  · exact List.nodup_append.2 ⟨h.tnd, by simp, fun a ha b hb => by simp at hb; subst hb; exact fun e => hni (e ▸ ha)⟩
  · obtain ⟨k, h1, h2, h3⟩ := h.has i hi
    exact ⟨k, h1, by omega, h3⟩
  · rcases h.pr p hp k hk with h' | h'
    · left; rw [hl]; omega
    · exact .inr h'
theorem BS.OK.addN {S : BS} (h : S.OK) {s : ByteArray} (hs : isNameB s = true) (hni : s ∉ S.nons) (hf : S.full = false) : (S.addN s).OK := by
  have hf' : S.terms.length + S.nons.length < 64 := by simpa [BS.full] using hf
  have hl : (S.addN s).nons.length = S.nons.length + 1 := by simp [BS.addN]
  refine ⟨by rw [hl]; show S.terms.length + (S.nons.length + 1) ≤ 64; omega, h.tnames, fun x hx => ?_, h.tnd, ?_, h.sides, h.sdv, h.prods, h.lev, h.lev0, h.levT, h.has, fun p hp => ?_, fun p hp k hk => ?_, h.plen, h.pv, ?_⟩
  · rcases List.mem_append.1 hx with hx | hx
    · exact h.nnames x hx
    · simp at hx; subst hx; exact hs
  · exact List.nodup_append.2 ⟨h.nnd, by simp, fun a ha b hb => by simp at hb; subst hb; exact fun e => hni (e ▸ ha)⟩
  · have := h.pl p hp; rw [hl]; omega
  · rcases h.pr p hp k hk with h' | h'
    · exact .inl h'
    · right; rw [hl]; omega
  · have hst : (S.addN s).start = S.start := rfl
    rw [hl, hst]
    rcases h.st with h' | h'
    · exact .inl h'
    · right; omega

theorem isTextB_size {s : ByteArray} (h : isTextB s = true) : s.size ≤ 16 := by simp [isTextB, lenOK] at h; omega
end Go.Proofs.YthoamlahbnphkaaGreat

/-
  New; a builder that nobody made; what a nil one answers; whether a handle is one.
-/
namespace Go.Proofs.YthoamlahbnphkaaGreat
open Go.RowKit Go.Maps

def BS.zero : BS := { terms := [], nons := [], lev := fun _ => 0, sides := [], prods := [], start := 0 }
/-- The cells of an empty builder. -/
def zeroC (i : Nat) : Value := if i = 0 ∨ i = 2 then .map none else if i = 1 ∨ i = 3 ∨ i = 69 ∨ i = 70 then .slice none 0 0 else .int .i64 0

def BS.isN (S : BS) (h : Int) : Bool := decide (h < 0) && decide (-(S.nons.length : Int) ≤ h)
def BS.isT (S : BS) (h : Int) : Bool := decide (0 < h) && decide (h ≤ S.terms.length)

/-! ### Start, Sizes; nil -/
/-- A grammar's five cells. -/
def gramC (t n l p : Value) (st : Int) : Array Value := #[t, n, l, .int .i64 st, p]
end Go.Proofs.YthoamlahbnphkaaGreat

/-
  Rule of a builder, walked.
-/
namespace Go.Proofs.YthoamlahbnphkaaGreat
open Go.RowKit Go.Maps

theorem infoInt : (Tryz.prog.info? 3).map (fun i => (i.zero, i.size, i.bytes)) = some (some (.int .i64 0), 1, 8) := by kernel_rfl
/-- A slice of numbers, wherever it lies. -/
def IntsAt (w : World) (a : Option Addr) (l : List Int) : Prop := l = [] ∨ ∃ b off, a = some ⟨b, off, none⟩ ∧ ∀ i, i < l.length → w.cell? ⟨b, off + i, none⟩ = some (.int .i64 (l.getD i 0))

theorem IntsAt.kept {w w' : World} {a : Option Addr} {l : List Int} (h : IntsAt w a l) (hg : w.grownBy w' none) : IntsAt w' a l := by
  rcases h with h | ⟨b, off, ha, hc⟩
  · exact .inl h
  · exact .inr ⟨b, off, ha, fun i hi => hg.cell (hc i hi) (by simp)⟩
theorem IntsIn.at {w : World} {v : Value} {l : List Int} (h : IntsIn w v l) : ∃ a cap, v = .slice a l.length cap ∧ IntsAt w a l ∧ l.length ≤ cap ∧ (a = none → l.length = 0 ∧ cap = 0) := by
  have h' := h
  rcases h.2 with ⟨rfl, hn⟩ | ⟨g, cap, cur, rfl, _, hg, hle, _⟩
  · have : l = [] := List.eq_nil_of_length_eq_zero hn
    subst this
    exact ⟨none, 0, rfl, .inl rfl, Nat.le_refl _, fun _ => ⟨rfl, rfl⟩⟩
  · refine ⟨_, cap, rfl, .inr ⟨g, 0, rfl, fun i hi => ?_⟩, hle, fun h => by cases h⟩
    have := World.ownsRow.cells h' (g := g) rfl i (.int .i64 (l.getD i 0)) (by simp [List.getD, hi])
    rw [Addr.add_mid] at this
    exact this

theorem ints_oneCell' (l : List Int) : ∀ u ∈ l.map (Value.int .i64), u.oneCell' = true := by
  intro u hu
  obtain ⟨x, _, rfl⟩ := List.mem_map.1 hu
  rfl

theorem owns_slice {w : World} {base e size n : Nat} {v : Value} {xs : List Value} (h : w.ownsRow base e size v n xs) : ∃ a cap, v = .slice a n cap := by
  rcases h.2 with ⟨rfl, rfl⟩ | ⟨g, cap, _, rfl, _⟩
  · exact ⟨_, _, rfl⟩
  · exact ⟨_, _, rfl⟩

/-- A production's level: its last terminal's. -/
def BS.levOf (S : BS) (l : List Int) : Int := l.foldl (fun z h => if S.isT h then S.lev h.toNat else z) 0
def BS.good (S : BS) (l : List Int) : Bool := l.all (fun h => S.isT h || S.isN h)
def BS.addP (S : BS) (p : PR) : BS := { S with prods := S.prods ++ [p] }
def BS.rule (S : BS) (left : Int) (right : List Int) : Int × Int × BS :=
  if S.isN left = true ∧ S.good right = true then (if 96 ≤ S.prods.length then (0, 11, S) else (S.prods.length, 0, S.addP ⟨left, right, S.levOf right⟩)) else (0, 1, S)

end Go.Proofs.YthoamlahbnphkaaGreat

namespace Go.Proofs.YthoamlahbnphkaaGreat
open Go.RowKit Go.Maps

theorem levOf_ok {S : BS} (h : S.OK) (l : List Int) : 0 ≤ S.levOf l ∧ S.levOf l ≤ S.sides.length := by
  unfold BS.levOf
  have : ∀ (l : List Int) (z : Int), (0 ≤ z ∧ z ≤ S.sides.length) → (0 ≤ l.foldl (fun z h => if S.isT h then S.lev h.toNat else z) z ∧ l.foldl (fun z h => if S.isT h then S.lev h.toNat else z) z ≤ S.sides.length) := by
    intro l
    induction l with
    | nil => intro z hz; exact hz
    | cons x l ih =>
      intro z hz
      rw [List.foldl_cons]
      refine ih _ ?_
      split
      · exact h.lev _
      · exact hz
  exact this l 0 ⟨Int.le_refl _, by omega⟩

theorem BS.OK.addP {S : BS} (h : S.OK) {left : Int} {right : List Int} (hp : S.prods.length < 96) (hn : S.isN left = true) (hg : S.good right = true) (hlen : right.length ≤ 17592186044416) : (S.addP ⟨left, right, S.levOf right⟩).OK := by
  have hn' : left < 0 ∧ -(S.nons.length : Int) ≤ left := by simpa [BS.isN] using hn
  have mem : ∀ p ∈ (S.addP ⟨left, right, S.levOf right⟩).prods, p ∈ S.prods ∨ p = ⟨left, right, S.levOf right⟩ := fun p hp => by
    rcases List.mem_append.1 hp with hp | hp
    · exact .inl hp
    · simp at hp; exact .inr hp
  refine ⟨h.syms, h.tnames, h.nnames, h.tnd, h.nnd, h.sides, h.sdv, by simp [BS.addP]; omega, h.lev, h.lev0, h.levT, h.has, fun p hp => ?_, fun p hp k hk => ?_, fun p hp => ?_, fun p hp => ?_, h.st⟩
  · rcases mem p hp with hp | rfl
    · exact h.pl p hp
    · exact ⟨hn'.2, hn'.1⟩
  · rcases mem p hp with hp | rfl
    · exact h.pr p hp k hk
    · have := List.all_eq_true.1 hg k hk
      simp only [BS.isT, BS.isN, Bool.or_eq_true, Bool.and_eq_true, decide_eq_true_eq] at this
      exact this
  · rcases mem p hp with hp | rfl
    · exact h.plen p hp
    · exact hlen
  · rcases mem p hp with hp | rfl
    · exact h.pv p hp
    · exact levOf_ok h right

end Go.Proofs.YthoamlahbnphkaaGreat

/-
  Steps of a region that draws its order: a call of a Go function. Lists in memory, element by element.
-/
namespace Go.Proofs.YthoamlahbnphkaaGreat
open Go.RowKit Go.Maps Go.Shelf

theorem StrsIn.at {w : World} {v : Value} {l : List ByteArray} (h : StrsIn w v l) (hl : 0 < l.length) : ∃ g cap, v = .slice (some ⟨g, 0, none⟩) l.length cap ∧ ∀ i, i < l.length → w.cell? ⟨g, i, none⟩ = some (.string (l.getD i ⟨#[]⟩)) := by
  have h' := h
  rcases h.2 with ⟨rfl, hn⟩ | ⟨g, cap, cur, rfl, _, hg, hle, _⟩
  · omega
  · refine ⟨g, cap, rfl, fun i hi => ?_⟩
    have := World.ownsRow.cells h' (g := g) rfl i (.string (l.getD i ⟨#[]⟩)) (by simp [List.getD, hi])
    rw [Addr.add_mid, Nat.zero_add] at this
    exact this

end Go.Proofs.YthoamlahbnphkaaGreat

/-
  terms of a builder: the end marker, then the terminals, each with its level.
-/
namespace Go.Proofs.YthoamlahbnphkaaGreat
open Go.RowKit Go.Maps Go.Shelf

attribute [local go_sem] Oper.semAt_some

/-- A terminal's two cells. -/
def tmL (s : ByteArray) (l : Int) : List Value := [.string s, .int .i64 l]
def tmsL (ts : List (ByteArray × Int)) : List Value := ts.flatMap fun t => tmL t.1 t.2
/-- The terminals of a builder, the end marker first, up to the k-th. -/
def BS.tms (S : BS) (k : Nat) : List (ByteArray × Int) := (⟨#[]⟩, 0) :: (List.range k).map fun j => (S.terms.getD j ⟨#[]⟩, S.lev (j + 1))

end Go.Proofs.YthoamlahbnphkaaGreat

/-
  ordered of a builder, walked.
-/
namespace Go.Proofs.YthoamlahbnphkaaGreat
open Go.RowKit Go.Maps Go.Shelf

attribute [local go_sem] Oper.semAt_some

/-! ### Productions in memory, one by one -/
theorem flat_at : ∀ (ps : List PR) (rs : List Value) (k : Nat), rs.length = ps.length → k < ps.length → ∀ i, i < 3 → ((ps.zip rs).flatMap fun x => prL x.1 x.2)[k * 3 + i]? = (prL (ps.getD k ⟨0, [], 0⟩) (rs.getD k undef))[i]?
  | [], _, k, _, hk, _, _ => by simp at hk
  | p :: ps, [], k, h, _, _, _ => by simp at h
  | p :: ps, r :: rs, 0, h, _, i, hi => by
    simp only [List.zip_cons_cons, List.flatMap_cons, Nat.zero_mul, Nat.zero_add]
    rw [List.getElem?_append_left (by simp [prL]; omega)]
    rfl
  | p :: ps, r :: rs, k + 1, h, hk, i, hi => by
    simp only [List.zip_cons_cons, List.flatMap_cons]
    rw [List.getElem?_append_right (by simp [prL]; omega)]
    have e : (k + 1) * 3 + i - (prL p r).length = k * 3 + i := by simp [prL]; omega
    rw [e, flat_at ps rs k (by simpa using h) (by simpa using hk) i hi]
    rfl

/-- The productions of a slice lie where it leads to. -/
structure ProdAt (w : World) (g k : Nat) (p : PR) (a : Option Addr) (c : Nat) : Prop where
  left : w.cell? ⟨g, k * 3, none⟩ = some (.int .i64 p.left)
  right : w.cell? ⟨g, k * 3 + 1, none⟩ = some (.slice a p.right.length c)
  level : w.cell? ⟨g, k * 3 + 2, none⟩ = some (.int .i64 p.level)
  ints : IntsIn w (.slice a p.right.length c) p.right

theorem ProdsIn.at {w : World} {v : Value} {ps : List PR} (h : ProdsIn w v ps) (hl : 0 < ps.length) : ∃ g cap, v = .slice (some ⟨g, 0, none⟩) ps.length cap ∧ ∀ k, k < ps.length → ∃ a c, ProdAt w g k (ps.getD k ⟨0, [], 0⟩) a c := by
  obtain ⟨rs, h1, h2, h3⟩ := h
  have h2' := h2
  rcases h2.2 with ⟨rfl, hn⟩ | ⟨g, cap, cur, rfl, _, hg, hle, _⟩
  · omega
  · refine ⟨g, cap, rfl, fun k hk => ?_⟩
    have hI := h3 k hk
    obtain ⟨a, c, hv, _⟩ := hI.at
    have cell : ∀ i, i < 3 → ∀ u, (prL (ps.getD k ⟨0, [], 0⟩) (rs.getD k undef))[i]? = some u → w.cell? ⟨g, k * 3 + i, none⟩ = some u := fun i hi u hu => by
      have := World.ownsRow.cells h2' (g := g) rfl (k * 3 + i) u (by rw [flat_at ps rs k h1 hk i hi]; exact hu)
      rw [Addr.add_mid, Nat.zero_add] at this
      exact this
    rw [hv] at hI cell
    exact ⟨a, c, cell 0 (by omega) _ rfl, cell 1 (by omega) _ rfl, cell 2 (by omega) _ rfl, hI⟩

/-! ### The order -/
def ordStep (out : List Nat) (p : PR) : List Nat := if (-p.left).toNat ∈ out then out else out ++ [(-p.left).toNat]
def ordOf (ps : List PR) : List Nat := ps.foldl ordStep []
def symOf (f : Nat) (out : List Nat) (i : Nat) : Int := if i ∈ out then (f : Int) + (out.idxOf i : Int) else 0

def symL (f : Nat) (out : List Nat) (n : Nat) : List Value := (List.range n).map fun i => .int .i64 (symOf f out i)
def outL (S : BS) (out : List Nat) : List Value := out.map fun i => .string (S.nons.getD (i - 1) ⟨#[]⟩)

theorem symL_at (f : Nat) (out : List Nat) (n i : Nat) (h : i < n) : (symL f out n)[i]? = some (.int .i64 (symOf f out i)) := by simp [symL, h]
end Go.Proofs.YthoamlahbnphkaaGreat

namespace Go.Proofs.YthoamlahbnphkaaGreat
open Go.RowKit Go.Maps Go.Shelf

attribute [local go_sem] Oper.semAt_some

/-- What holds while the productions are gone through: Bs: the symbols' block. -/
structure OrdAt (w wr : World) (S : BS) (Bs f : Nat) (out : List Nat) (v : Value) : Prop where
  syms : wr.heap[Bs]? = some (.cells (symL f out (S.nons.length + 1)).toArray 3 (0, 0))
  outs : wr.ownsRow (Bs + 1) 9 1 v out.length (outL S out)
  lo : w.heap.size ≤ Bs
  grown : w.grownBy wr none

theorem OrdAt.lt {w wr : World} {S : BS} {Bs f : Nat} {out : List Nat} {v : Value} (h : OrdAt w wr S Bs f out v) : Bs < wr.heap.size := (Array.getElem?_eq_some_iff.1 h.syms).1
theorem OrdAt.cell {w wr : World} {S : BS} {Bs f : Nat} {out : List Nat} {v : Value} (h : OrdAt w wr S Bs f out v) (i : Nat) (hi : i ≤ S.nons.length) : wr.cell? ⟨Bs, i, none⟩ = some (.int .i64 (symOf f out i)) := by
  rw [cell_of_row _ _ _ _ _ _ h.syms]
  simpa using symL_at f out (S.nons.length + 1) i (by omega)
theorem OrdAt.kept {w wr wx : World} {S : BS} {Bs f : Nat} {out : List Nat} {v : Value} (h : OrdAt w wr S Bs f out v) (hg : wr.grownBy wx none) : OrdAt w wx S Bs f out v :=
  ⟨(hg.block Bs h.lt (by simp)).trans h.syms, h.outs.kept hg (by cases hv : v.ownBlock <;> simp), h.lo, grown_trans h.grown hg⟩

end Go.Proofs.YthoamlahbnphkaaGreat
