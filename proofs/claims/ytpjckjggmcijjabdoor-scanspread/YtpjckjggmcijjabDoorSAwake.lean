/-
  The statements' own look that the program is awake.
-/
import Derived.Test.YtpjckjggmcijjabDoorSLaw
import Derived.Deep.MidRow
namespace Go.Proofs.YtpjckjggmcijjabDoor
open Go.RowKit

attribute [local go_sem] Oper.semAt_some

/-- Words, wherever they lie. -/
def WordsAt (w : World) (a : Option Addr) (ws : List El) : Prop :=
  ws = [] ∨ ∃ b off, a = some ⟨b, off, none⟩ ∧ ∀ i, i < ws.length → w.cell? ⟨b, off + i * 3, none⟩ = some (.int .i64 (ws.getD i (0, ⟨#[]⟩, 0)).1) ∧ w.cell? ⟨b, off + i * 3 + 1, none⟩ = some (.string (ws.getD i (0, ⟨#[]⟩, 0)).2.1) ∧ w.cell? ⟨b, off + i * 3 + 2, none⟩ = some (.int .i64 (ws.getD i (0, ⟨#[]⟩, 0)).2.2)
theorem WordsAt.kept {w w' : World} {a : Option Addr} {ws : List El} (h : WordsAt w a ws) (hg : w.grownBy w' none) : WordsAt w' a ws := by
  rcases h with h | ⟨b, off, ha, hc⟩
  · exact .inl h
  · exact .inr ⟨b, off, ha, fun i hi => ⟨hg.cell (hc i hi).1 (by simp), hg.cell (hc i hi).2.1 (by simp), hg.cell (hc i hi).2.2 (by simp)⟩⟩
theorem elL_at : ∀ (ws : List El) (i : Nat), i < ws.length → (ws.flatMap elL)[i * 3]? = some (.int .i64 (ws.getD i (0, ⟨#[]⟩, 0)).1) ∧ (ws.flatMap elL)[i * 3 + 1]? = some (.string (ws.getD i (0, ⟨#[]⟩, 0)).2.1) ∧ (ws.flatMap elL)[i * 3 + 2]? = some (.int .i64 (ws.getD i (0, ⟨#[]⟩, 0)).2.2)
  | [], i, hi => by simp at hi
  | x :: ws, 0, _ => by simp [elL]
  | x :: ws, i + 1, hi => by
    have h := elL_at ws i (by simpa using hi)
    have e : (x :: ws).flatMap elL = elL x ++ ws.flatMap elL := by simp
    have hl : (elL x).length = 3 := rfl
    rw [e, List.getElem?_append_right (by omega), List.getElem?_append_right (by omega), List.getElem?_append_right (by omega), hl, show (i + 1) * 3 - 3 = i * 3 by omega, show (i + 1) * 3 + 1 - 3 = i * 3 + 1 by omega, show (i + 1) * 3 + 2 - 3 = i * 3 + 2 by omega]
    simpa using h
theorem owns_words {W : World} {B c : Nat} {a : Option Addr} {ws : List El} (h : W.ownsRow B 36 3 (.slice a ws.length c) ws.length (ws.flatMap elL)) : WordsAt W a ws := by
  have h' := h
  rcases h.2 with ⟨hv, h0⟩ | ⟨g, cap, cur, hv, _⟩
  · exact .inl (List.eq_nil_of_length_eq_zero h0)
  · simp only [Value.slice.injEq, true_and] at hv
    obtain ⟨rfl, rfl⟩ := hv
    refine .inr ⟨g, 0, rfl, fun i hi => ?_⟩
    obtain ⟨h1, h2, h3⟩ := elL_at ws i hi
    have hcs := World.ownsRow.cells h' rfl
    rw [Nat.zero_add]
    refine ⟨?_, ?_, ?_⟩
    · have := hcs _ _ h1; rwa [Addr.add_mid, Nat.zero_add] at this
    · have := hcs _ _ h2; rwa [Addr.add_mid, Nat.zero_add] at this
    · have := hcs _ _ h3; rwa [Addr.add_mid, Nat.zero_add] at this

def awText : ByteArray := ⟨#[37, 108, 101, 102, 116, 32, 39, 43, 39, 32, 59, 32, 35, 32, 120]⟩
theorem aw_scan : scanW awText = ([(3, ⟨#[37, 108, 101, 102, 116]⟩, 0), (2, ⟨#[43]⟩, 6), (4, ⟨#[59]⟩, 10)], none) := by decide +kernel
theorem neq_nilFunc (cap : Array Value) (w : World) : (binOp .neq 39 (.func (.func 23) #[] cap) .nilFunc).run Tryd.prog w = .ok (.bool true) w := by kernel_rfl
theorem eql_nilFunc (cap : Array Value) (w : World) : (binOp .eql 39 (.func (.func 23) #[] cap) .nilFunc).run Tryd.prog w = .ok (.bool false) w := by kernel_rfl
theorem eqWord_same (k a : Int) (t : ByteArray) (w : World) : (binOp .eql 36 (.agg #[.int .i64 k, .string t, .int .i64 a]) (.agg #[.int .i64 k, .string t, .int .i64 a])).run Tryd.prog w = .ok (.bool true) w := by
  rw [eqWord]; simp
theorem aw_name : nameOK ⟨#[97]⟩ = true := by decide +kernel

set_option maxRecDepth 100000 in
theorem awake_any (w : World) (hO : Ords w) : Calls Tryd.prog 8 #[] w fun e w' => e = .returned (.bool true) ∧ w.grownBy w' none := by
  have hW := words_ok awText w hO _ aw_scan
  have hE := fun W => each_any ⟨#[]⟩ W
  have hN := fun W => isName_any ⟨#[97]⟩ W
  have HE : Hid (∀ W, Calls Tryd.prog 13 #[.string ⟨#[]⟩] W fun e w' => e = .returned (.func (.func 23) #[] #[.pointer (some ⟨W.heap.size, 0, none⟩)]) ∧ W.grownBy w' none) := fun W => (each_any ⟨#[]⟩ W).mono fun e w' h => ⟨h.1, h.2.2⟩
  have HN : Hid (∀ W, Calls Tryd.prog 15 #[.string ⟨#[97]⟩] W fun e w' => e = .returned (.bool true) ∧ w' = W) := fun W => by have := isName_any ⟨#[97]⟩ W; rwa [aw_name] at this
  have q0 := fun w => eqWord_same 3 0 ⟨#[37, 108, 101, 102, 116]⟩ w
  have q1 := fun w => eqWord_same 2 6 ⟨#[43]⟩ w
  have q2 := fun w => eqWord_same 4 10 ⟨#[59]⟩ w
  have hnil := fun (b : Nat) w => neq_nilFunc #[.pointer (some ⟨b, 0, none⟩)] w
  unfold mishapV awText at hW
  clear hE hN hO
  go_enter Tryd.func8, Tryd.ntmps8
  go_wp2_with fail
  refine hW.mono ?_
  clear hW
  rintro e w1 ⟨a, c, rfl, ho, hg1⟩
  have hAt := owns_words ho
  rcases hAt with h | ⟨b, off, rfl, hcs⟩
  · cases h
  obtain ⟨c00, c01, c02⟩ := hcs 0 (by decide)
  obtain ⟨c10, c11, c12⟩ := hcs 1 (by decide)
  obtain ⟨c20, c21, c22⟩ := hcs 2 (by decide)
  have k00 := fun o => (World.grownBy_alloc w1 o none).cell c00 (by simp)
  have k01 := fun o => (World.grownBy_alloc w1 o none).cell c01 (by simp)
  have k02 := fun o => (World.grownBy_alloc w1 o none).cell c02 (by simp)
  have k10 := fun o => (World.grownBy_alloc w1 o none).cell c10 (by simp)
  have k11 := fun o => (World.grownBy_alloc w1 o none).cell c11 (by simp)
  have k12 := fun o => (World.grownBy_alloc w1 o none).cell c12 (by simp)
  have k20 := fun o => (World.grownBy_alloc w1 o none).cell c20 (by simp)
  have k21 := fun o => (World.grownBy_alloc w1 o none).cell c21 (by simp)
  have k22 := fun o => (World.grownBy_alloc w1 o none).cell c22 (by simp)
  simp only [List.getD, List.getElem?_cons_zero, List.getElem?_cons_succ, Option.getD_some, Nat.reduceMul, Nat.add_zero] at k00 k01 k02 k10 k11 k12 k20 k21 k22
  have HG1 : Hid (w.grownBy w1 none) := hg1
  clear hg1 hcs ho c00 c01 c02 c10 c11 c12 c20 c21 c22
  go_wp2_with fail
  refine (HE.out _).mono ?_
  rintro e w2 ⟨rfl, hg2⟩
  have HG2 : Hid (w.grownBy w2 none) := grown_trans (grown_trans HG1.out (World.grownBy_alloc _ _ none)) hg2
  clear hg2 HG1 k00 k01 k02 k10 k11 k12 k20 k21 k22
  go_wp2_with (go_at_call 15; refine (HN.out _).mono ?_; rintro e w3 ⟨rfl, rfl⟩)
  go_ret
  exact ⟨rfl, HG2.out⟩

end Go.Proofs.YtpjckjggmcijjabDoor
