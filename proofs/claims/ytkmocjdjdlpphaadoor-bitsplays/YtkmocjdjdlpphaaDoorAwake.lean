/-
  The statement's own look that the program is awake.
-/
import Derived.Test.YtkmocjdjdlpphaaDoorMeets
import Derived.Test.YtkmocjdjdlpphaaDoorMembers
namespace Go.Proofs.YtkmocjdjdlpphaaDoor
open Go.RowKit

theorem RowAt.alloc {w : World} {b n : Nat} {f : Nat → Nat} (h : RowAt w b n f) (o : Obj) : RowAt (w.alloc o) b n f := (Below.heap_alloc w o b h.lt).trans h

theorem SetM.row {w : World} {b n m : Nat} (h : SetM w (some ⟨b, 0, none⟩) n m) : RowAt w b n (wd m) := by
  rcases h.2.2 with ⟨h, _⟩ | ⟨b', h, hr⟩
  · cases h
  · cases h; exact hr

theorem Below.drewN' {B : Nat} {w w' : World} (h : Below B w w') (k : Nat) : Below B w (w'.drewN k) := ⟨h.os, h.tape, h.output, h.size, h.block⟩

theorem new_ints (w : World) (l : List Int) : ∀ i, i < l.length → (w.alloc (.cells (l.map (Value.int .i64)).toArray 3)).cell? ⟨w.heap.size, 0 + i, none⟩ = some (.int .i64 (l.getD i 0)) := fun i hi => by
  rw [cell_of_row _ _ _ _ _ _ (heap_alloc_last w _)]
  simp [List.getD, hi]

theorem neq_nilFunc (cap : Array Value) (w : World) : (binOp .neq 41 (.func (.func 38) #[] cap) .nilFunc).run Tryd.prog w = .ok (.bool true) w := by kernel_rfl
theorem eql_nilFunc (cap : Array Value) (w : World) : (binOp .eql 41 (.func (.func 38) #[] cap) .nilFunc).run Tryd.prog w = .ok (.bool false) w := by kernel_rfl

theorem awake_any (c : Nat → Nat) (hC : CountIs c) (h10 : c 10 = 2) (h11 : c 11 = 3) (w : World) :
    Calls Tryd.prog 7 #[] w fun e w' => e = .returned (.bool true) ∧ Below w.heap.size w w' := by
  have hbW : Below w.heap.size w (w.alloc (.cells #[.int .i64 1, .int .i64 3] 3)) := (Below.refl _ w).alloc (Nat.le_refl _) _
  have hOf := of_any 4 (some ⟨w.heap.size, 0, none⟩) 2 [1, 3] (w.alloc (.cells #[.int .i64 1, .int .i64 3] 3))
    (.inr ⟨w.heap.size, 0, rfl, fun i hi => by
      rw [cell_of_row _ _ _ _ _ _ (heap_alloc_last w _)]
      match i, hi with
      | 0, _ => rfl
      | 1, _ => rfl⟩) (by decide)
  have e1 : (addS (clampN 4) 0 [1, 3]).1 = 10 := by decide
  have e2 : clampN 4 = 4 := by decide
  rw [e1, e2] at hOf
  have HBW : Hid (Below w.heap.size w (w.alloc (.cells #[.int .i64 1, .int .i64 3] 3))) := hbW
  have H10 : Hid (c 10 = 2) := h10
  have H11 : Hid (c 11 = 3) := h11
  clear hbW e1 e2 h10 h11
  go_enter Tryd.func7, Tryd.ntmps7
  go_wp2_with fail
  refine hOf.mono ?_
  clear hOf
  rintro e w1 ⟨rfl, hS, hb⟩
  have hB1 : Below w.heap.size w w1 := HBW.out.trans (hb.mono HBW.out.size)
  have hBge : w.heap.size ≤ (w.alloc (.cells #[.int .i64 1, .int .i64 3] 3)).heap.size := HBW.out.size
  generalize (w.alloc (.cells #[.int .i64 1, .int .i64 3] 3)).heap.size = B at *
  have HS1 : Hid (SetM w1 (some ⟨B, 0, none⟩) 4 10) := hS
  have HB1 : Hid (Below w.heap.size w w1) := hB1
  clear hS hb hB1 HBW
  go_wp2_with (go_at_call 27; refine (size_any _ 4 10 _ HS1.out).mono ?_; rintro e w' ⟨rfl, hw'⟩; subst hw')
  refine (hC _ 4 10 _ HS1.out).mono ?_
  rintro e w2 ⟨rfl, hb2⟩
  rw [H10.out]
  have HS2 : Hid (SetM w2 (some ⟨B, 0, none⟩) 4 10) := HS1.out.keep hb2
  have HB2 : Hid (Below w.heap.size w w2) := HB1.out.trans (hb2.mono HB1.out.size)
  clear hb2 HS1 HB1
  go_wp2_with fail
  refine (has_is HS2.out (by decide)).mono ?_
  rintro e w3 ⟨rfl, j3, hw3⟩
  subst hw3
  go_wp2_with fail
  refine (has_isnt (SetM.drewN HS2.out _) (by decide)).mono ?_
  rintro e w3 ⟨rfl, j4, hw3⟩
  subst hw3
  go_wp2_with fail
  have hrW : RowAt ((w2.drewN (j3 + j4)).alloc (.cells #[.int .i64 0, .int .i64 0] 3)) B 4 (wd 10) := RowAt.alloc (RowAt.drewN HS2.out.row _) _
  have hbW : Below w.heap.size w ((w2.drewN (j3 + j4)).alloc (.cells #[.int .i64 0, .int .i64 0] 3)) := (Below.drewN' HB2.out _).alloc HB2.out.size _
  have hcW : ∀ i, i < [(0 : Int), 0].length → ((w2.drewN (j3 + j4)).alloc (.cells #[.int .i64 0, .int .i64 0] 3)).cell? ⟨w2.heap.size, 0 + i, none⟩ = some (.int .i64 ([(0 : Int), 0].getD i 0)) := new_ints (w2.drewN (j3 + j4)) [0, 0]
  have hne : w2.heap.size ≠ B := by have := HS2.out.row.lt; omega
  have hA := add_row B 4 10 w2.heap.size 0 2 [0, 0] _ (by decide) (by decide) hrW hne (by decide) hcW
  have e3 : addS 4 10 [0, 0] = (11, 1) := by decide
  rw [e3] at hA
  refine hA.mono ?_
  clear hA e3 hcW hrW
  rintro e w4 ⟨rfl, hr4, _, hb4⟩
  have HS4 : Hid (SetM w4 (some ⟨B, 0, none⟩) 4 11) := SetM.of hr4 (by decide) (by decide)
  have HB4 : Hid (Below w.heap.size w w4) := hbW.trans (hb4.below hbW.size hBge)
  clear hr4 hb4 hbW HS2 HB2
  go_wp2_with fail
  refine (hC _ 4 11 _ HS4.out).mono ?_
  rintro e w5 ⟨rfl, hb5⟩
  rw [H11.out]
  have HS5 : Hid (SetM w5 (some ⟨B, 0, none⟩) 4 11) := HS4.out.keep hb5
  have HB5 : Hid (Below w.heap.size w w5) := HB4.out.trans (hb5.mono HB4.out.size)
  clear hb5 HS4 HB4
  go_wp2_with fail
  refine (all_any _ 4 11 _ HS5.out).mono ?_
  rintro e w6 ⟨b6, rfl, _, _, hb6⟩
  have HB6 : Hid (Below w.heap.size w w6) := HB5.out.trans (hb6.mono HB5.out.size)
  clear hb6 HS5 HB5
  have hnf := fun w' => neq_nilFunc #[.pointer (some ⟨b6, 0, none⟩)] w'
  go_wp2_with fail
  go_ret
  exact ⟨rfl, HB6.out⟩

end Go.Proofs.YtkmocjdjdlpphaaDoor
