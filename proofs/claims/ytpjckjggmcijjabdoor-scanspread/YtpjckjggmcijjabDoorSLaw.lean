/-
  Words of any text; names and terminals' texts; what the laws look at first.
-/
import Derived.Test.YtpjckjggmcijjabDoorSWords
import Derived.Laws.StructEq
import Derived.Laws.EntriesVeiled
import Derived.Outline
namespace Go.Proofs.YtpjckjggmcijjabDoor
open Go.RowKit

attribute [local go_sem] Oper.semAt_some

/-- All words of a text, and the bad place: none of a text that is too long. -/
def scanW (s : ByteArray) : List El × Option Nat := if 8192 < s.size then ([], some 8192) else scan s

theorem words_ok (s : ByteArray) (w : World) (hO : Ords w) (ws : List El) (h : scanW s = (ws, none)) : Calls Tryd.prog 10 #[.string s] w fun e w' =>
    ∃ a c, e = .returned (.tuple #[.slice a ws.length c, mishapV 0 0]) ∧ w'.ownsRow w.heap.size 36 3 (.slice a ws.length c) ws.length (ws.flatMap elL) ∧ w.grownBy w' none := by
  unfold scanW at h
  split at h
  · cases h
  · next hn =>
    refine (callsIn_wide.1 (words_short s w (by omega) hO ws none h)).mono ?_
    rintro e w' ⟨h1, _, h3⟩
    obtain ⟨a, c, he, ho⟩ := h1 rfl
    exact ⟨a, c, he, ho, h3⟩
theorem words_bad (s : ByteArray) (w : World) (hO : Ords w) (ws : List El) (p : Nat) (h : scanW s = (ws, some p)) : Calls Tryd.prog 10 #[.string s] w fun e w' =>
    e = .returned (.tuple #[.slice none 0 0, mishapV 10 p]) ∧ w.grownBy w' none := by
  unfold scanW at h
  split at h
  · next hn =>
    cases h
    exact words_long s w hn
  · next hn =>
    refine (callsIn_wide.1 (words_short s w (by omega) hO ws (some p) h)).mono ?_
    rintro e w' ⟨_, h2, h3⟩
    exact ⟨h2 p rfl, h3⟩

theorem eqWord (k k' a a' : Int) (t t' : ByteArray) (w : World) : (binOp .eql 36 (.agg #[.int .i64 k, .string t, .int .i64 a]) (.agg #[.int .i64 k', .string t', .int .i64 a'])).run Tryd.prog w = .ok (.bool (k == k' && t.toList == t'.toList && a == a')) w := by
  have u3 := Tryd.underlying3
  have u9 := Tryd.underlying9
  have hS : Tryd.prog.underlying 36 = some (.struct (Tryd.prog.fieldsOf 36)) := by kernel_rfl
  have hp : Tryd.prog.stoodInHeld 36 = false := by kernel_rfl
  rw [run_eql_struct, show (10000 : Nat) = 9999 + 1 from rfl, run_equalIn_agg w 9999 36 _ _ hS hp]
  simp only [Program.fieldsOf, Tryd.underlying36]
  go_simp
  by_cases h1 : k = k' <;> by_cases h2 : t.toList = t'.toList <;> by_cases h3 : a = a' <;> simp [h1, h2, h3]

theorem each_any (s : ByteArray) (w : World) : Calls Tryd.prog 13 #[.string s] w fun e w' => e = .returned (.func (.func 23) #[] #[.pointer (some ⟨w.heap.size, 0, none⟩)]) ∧ w'.heap[w.heap.size]? = some (.cells #[.string s] 9 (0, 0)) ∧ w.grownBy w' none := by
  have hmf : ∀ (fn : Fn) (first cap : Array Value) (w : World), (Instr.makeFunc fn first cap).run Tryd.prog w = .ok (.func fn first cap) w := fun _ _ _ _ => rfl
  go_enter Tryd.func13, Tryd.ntmps13
  go_wp2_with fail
  go_ret
  exact ⟨rfl, heap_alloc_new w _, World.grownBy_alloc _ _ none⟩

def nameOK (s : ByteArray) : Bool := decide (1 ≤ s.size) && decide (s.size ≤ 16) && startB (chr s 0) && decide (runL innerB (bs s) = s.size)
def termOK (s : ByteArray) : Bool := decide (1 ≤ s.size) && decide (s.size ≤ 16) && decide (runL termB (bs s) = s.size)

theorem isAll_inner (s : ByteArray) (w : World) : Calls Tryd.prog 25 #[.string s, .func (.func 26) #[] #[]] w fun e w' => e = .returned (.bool (decide (s.size ≤ 16) && decide (runL innerB (bs s) = s.size))) ∧ w' = w := by
  by_cases h : s.size ≤ 16
  · have hR := run_inner s w (by omega)
    have hd : decide ((s.size : Int) ≤ 16) = true := decide_eq_true (by omega)
    have hle := runL_le innerB (bs s)
    rw [bs_length] at hle
    have e : (decide (s.size ≤ 16) && decide (runL innerB (bs s) = s.size)) = decide (runL innerB (bs s) = s.size) := by rw [decide_eq_true h]; rfl
    rw [e]
    generalize runL innerB (bs s) = u at *
    clear e
    go_enter Tryd.func25, Tryd.ntmps25
    go_wp2_with (go_at_call 35; refine hR.mono ?_; rintro e w' ⟨rfl, rfl⟩)
    go_ret
    refine ⟨?_, rfl⟩
    refine congrArg (fun b => Ending.returned (Value.bool b)) (Bool.eq_iff_iff.2 ?_)
    simp
    omega
  · have hd : decide ((s.size : Int) ≤ 16) = false := decide_eq_false (by omega)
    have e : (decide (s.size ≤ 16) && decide (runL innerB (bs s) = s.size)) = false := by rw [decide_eq_false h]; rfl
    rw [e]
    clear e h
    go_enter Tryd.func25, Tryd.ntmps25
    go_wp2_with fail
    go_ret
    exact ⟨rfl, rfl⟩
theorem isAll_term (s : ByteArray) (w : World) : Calls Tryd.prog 25 #[.string s, .func (.func 27) #[] #[]] w fun e w' => e = .returned (.bool (decide (s.size ≤ 16) && decide (runL termB (bs s) = s.size))) ∧ w' = w := by
  by_cases h : s.size ≤ 16
  · have hR := run_term s w (by omega)
    have hd : decide ((s.size : Int) ≤ 16) = true := decide_eq_true (by omega)
    have hle := runL_le termB (bs s)
    rw [bs_length] at hle
    have e : (decide (s.size ≤ 16) && decide (runL termB (bs s) = s.size)) = decide (runL termB (bs s) = s.size) := by rw [decide_eq_true h]; rfl
    rw [e]
    generalize runL termB (bs s) = u at *
    clear e
    go_enter Tryd.func25, Tryd.ntmps25
    go_wp2_with (go_at_call 35; refine hR.mono ?_; rintro e w' ⟨rfl, rfl⟩)
    go_ret
    refine ⟨?_, rfl⟩
    refine congrArg (fun b => Ending.returned (Value.bool b)) (Bool.eq_iff_iff.2 ?_)
    simp
    omega
  · have hd : decide ((s.size : Int) ≤ 16) = false := decide_eq_false (by omega)
    have e : (decide (s.size ≤ 16) && decide (runL termB (bs s) = s.size)) = false := by rw [decide_eq_false h]; rfl
    rw [e]
    clear e h
    go_enter Tryd.func25, Tryd.ntmps25
    go_wp2_with fail
    go_ret
    exact ⟨rfl, rfl⟩

theorem isEmpty_iff (s : ByteArray) : s.toList.isEmpty = decide (s.size = 0) := by
  rw [ByteArray.toList_eq]
  have : s.data.toList.length = s.size := by simp
  cases h : s.data.toList with
  | nil => rw [h] at this; rw [decide_eq_true (by simpa using this.symm)]; rfl
  | cons x l => rw [h] at this; rw [decide_eq_false (by simp at this; omega)]; rfl

theorem isTerm_any (s : ByteArray) (w : World) : Calls Tryd.prog 16 #[.string s] w fun e w' => e = .returned (.bool (termOK s)) ∧ w' = w := by
  have hA := isAll_term s w
  have hem := isEmpty_iff s
  have HT : Hid (termOK s = (decide (1 ≤ s.size) && (decide (s.size ≤ 16) && decide (runL termB (bs s) = s.size)))) := by show _ = _; unfold termOK; rw [Bool.and_assoc]
  generalize (decide (s.size ≤ 16) && decide (runL termB (bs s) = s.size)) = v at *
  rw [HT.out]
  by_cases h : s.size = 0
  · have hd : s.toList.isEmpty = true := by rw [hem]; simp [h]
    have e : (decide (1 ≤ s.size) && v) = false := by rw [decide_eq_false (by omega)]; rfl
    rw [e]
    clear e h hem
    go_enter Tryd.func16, Tryd.ntmps16
    go_wp2_with (go_at_call 25; refine hA.mono ?_; rintro e w' ⟨rfl, rfl⟩)
    go_ret
    exact ⟨rfl, rfl⟩
  · have hd : s.toList.isEmpty = false := by rw [hem]; simp [h]
    have e : (decide (1 ≤ s.size) && v) = v := by rw [decide_eq_true (by omega)]; rfl
    rw [e]
    clear e h hem
    go_enter Tryd.func16, Tryd.ntmps16
    go_wp2_with (go_at_call 25; refine hA.mono ?_; rintro e w' ⟨rfl, rfl⟩)
    go_ret
    exact ⟨by cases v <;> rfl, rfl⟩

theorem isName_any (s : ByteArray) (w : World) : Calls Tryd.prog 15 #[.string s] w fun e w' => e = .returned (.bool (nameOK s)) ∧ w' = w := by
  have hA := isAll_inner s w
  have hem := isEmpty_iff s
  have HT : Hid (nameOK s = (decide (1 ≤ s.size) && startB (chr s 0) && (decide (s.size ≤ 16) && decide (runL innerB (bs s) = s.size)))) := by
    show _ = _
    unfold nameOK
    cases decide (1 ≤ s.size) <;> cases decide (s.size ≤ 16) <;> cases startB (chr s 0) <;> cases decide (runL innerB (bs s) = s.size) <;> rfl
  generalize (decide (s.size ≤ 16) && decide (runL innerB (bs s) = s.size)) = v at *
  rw [HT.out]
  by_cases h : s.size = 0
  · have hd : s.toList.isEmpty = true := by rw [hem]; simp [h]
    have e : (decide (1 ≤ s.size) && startB (chr s 0) && v) = false := by rw [decide_eq_false (by omega)]; rfl
    rw [e]
    clear e h hem
    go_enter Tryd.func15, Tryd.ntmps15
    go_wp2_with (go_at_call 25; refine hA.mono ?_; rintro e w' ⟨rfl, rfl⟩)
    go_ret
    exact ⟨rfl, rfl⟩
  · have hd : s.toList.isEmpty = false := by rw [hem]; simp [h]
    have e : (decide (1 ≤ s.size) && startB (chr s 0) && v) = (startB (chr s 0) && v) := by rw [decide_eq_true (by omega)]; simp
    have hix : ∀ w, (Instr.index 9 (.string s) (.int .i64 0)).run Tryd.prog w = .ok (.int .u8 (chr s 0)) w := fun w => index_at s 0 (by omega) w
    have hS := isNameStart_any (chr s 0) w
    rw [e]
    generalize chr s 0 = c at *
    cases hb : startB c with
    | false =>
      rw [hb] at hS
      clear e h hem hb
      go_enter Tryd.func15, Tryd.ntmps15
      go_wp2_with (first | (go_at_call 25; refine hA.mono ?_; rintro e w' ⟨rfl, rfl⟩) | (go_at_call 24; refine hS.mono ?_; rintro e w' ⟨rfl, rfl⟩))
      go_ret
      exact ⟨rfl, rfl⟩
    | true =>
      rw [hb] at hS
      clear e h hem hb
      go_enter Tryd.func15, Tryd.ntmps15
      go_wp2_with (first | (go_at_call 25; refine hA.mono ?_; rintro e w' ⟨rfl, rfl⟩) | (go_at_call 24; refine hS.mono ?_; rintro e w' ⟨rfl, rfl⟩))
      go_ret
      exact ⟨by cases v <;> rfl, rfl⟩

end Go.Proofs.YtpjckjggmcijjabDoor
