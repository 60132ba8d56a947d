/-
  How a reader reads a word.
-/
import Derived.Test.YtpjckjggmcijjabDoorSSkip
namespace Go.Proofs.YtpjckjggmcijjabDoor
open Go.RowKit

attribute [local go_sem] Oper.semAt_some

/-- The word that begins at a place: its kind, its text, the place behind it; or the bad place. -/
def one (s : ByteArray) (i : Nat) : (Nat × ByteArray × Nat) ⊕ Nat :=
  if startB (chr s i) = true then
    (if innerB (chr s (i + nmK s i)) = true then .inr (i + nmK s i) else .inl (1, s.extract i (i + nmK s i), i + nmK s i))
  else if chr s i = 39 then
    (if qtK s (i + 1) = 0 ∨ chr s (i + 1 + qtK s (i + 1)) ≠ 39 then .inr (i + 1 + qtK s (i + 1)) else .inl (2, s.extract (i + 1) (i + 1 + qtK s (i + 1)), i + 1 + qtK s (i + 1) + 1))
  else if chr s i = 37 then
    (if (decide ((bestTo ((bs s).drop i) 7).2 < (bestTo ((bs s).drop i) 7).1.size) || letterB (chr s (i + (bestTo ((bs s).drop i) 7).2))) = true then .inr (i + (bestTo ((bs s).drop i) 7).2)
      else .inl (3, (bestTo ((bs s).drop i) 7).1, i + (bestTo ((bs s).drop i) 7).2))
  else if signB (chr s i) = true then .inl (4, s.extract i (i + 1), i + 1)
  else .inr i

/-- The two boxes of a word. -/
structure WB (w W : World) (i : Nat) : Prop where
  b0 : W.heap[w.heap.size]? = some (.cells #[.int .i64 0, .string ⟨#[]⟩, .int .i64 0] 36 (0, 0))
  b1 : W.heap[w.heap.size + 1]? = some (.cells #[.int .i64 0, .string ⟨#[]⟩, .int .i64 i] 36 (0, 0))
  lo : w.grownBy W none
theorem WB.mk' (w : World) (i : Nat) : WB w ((w.alloc (.cells #[.int .i64 0, .string ⟨#[]⟩, .int .i64 0] 36)).alloc (.cells #[.int .i64 0, .string ⟨#[]⟩, .int .i64 i] 36)) i := by
  have h1 := heap_alloc_new w (.cells #[.int .i64 0, .string ⟨#[]⟩, .int .i64 0] 36)
  have h2 := heap_alloc_new (w.alloc (.cells #[.int .i64 0, .string ⟨#[]⟩, .int .i64 0] 36)) (.cells #[.int .i64 0, .string ⟨#[]⟩, .int .i64 i] 36)
  rw [World.size_alloc] at h2
  exact ⟨((World.grownBy_alloc _ _ none).block _ (Array.getElem?_eq_some_iff.1 h1).1 (by simp)).trans h1, h2, grown_trans (World.grownBy_alloc _ _ none) (World.grownBy_alloc _ _ none)⟩
theorem WB.cells {w W : World} {i : Nat} (h : WB w W i) : (W.cell? ⟨w.heap.size, 0, none⟩ = some (.int .i64 0) ∧ W.cell? ⟨w.heap.size, 1, none⟩ = some (.string ⟨#[]⟩) ∧ W.cell? ⟨w.heap.size, 2, none⟩ = some (.int .i64 0)) ∧
    (W.cell? ⟨w.heap.size + 1, 0, none⟩ = some (.int .i64 0) ∧ W.cell? ⟨w.heap.size + 1, 1, none⟩ = some (.string ⟨#[]⟩) ∧ W.cell? ⟨w.heap.size + 1, 2, none⟩ = some (.int .i64 i)) := by
  refine ⟨⟨?_, ?_, ?_⟩, ?_, ?_, ?_⟩
  · rw [cell_of_row _ _ _ _ _ _ h.b0]; rfl
  · rw [cell_of_row _ _ _ _ _ _ h.b0]; rfl
  · rw [cell_of_row _ _ _ _ _ _ h.b0]; rfl
  · rw [cell_of_row _ _ _ _ _ _ h.b1]; rfl
  · rw [cell_of_row _ _ _ _ _ _ h.b1]; rfl
  · rw [cell_of_row _ _ _ _ _ _ h.b1]; rfl
theorem WB.free {w W : World} {i : Nat} (h : WB w W i) (j : Nat) : W.frozen? ⟨w.heap.size, j, none⟩ = false ∧ W.frozen? ⟨w.heap.size + 1, j, none⟩ = false := ⟨frozen_of_row W _ j _ _ h.b0, frozen_of_row W _ j _ _ h.b1⟩

theorem WB.turn {w W W2 : World} {i r : Nat} (h : WB w W i) (hg : W.grownBy W2 (some r)) (hr : r < w.heap.size) : W2.heap[w.heap.size]? = some (.cells #[.int .i64 0, .string ⟨#[]⟩, .int .i64 0] 36 (0, 0)) ∧ W2.heap[w.heap.size + 1]? = some (.cells #[.int .i64 0, .string ⟨#[]⟩, .int .i64 i] 36 (0, 0)) ∧ w.grownBy W2 (some r) :=
  ⟨(hg.block _ (Array.getElem?_eq_some_iff.1 h.b0).1 (by simp; omega)).trans h.b0, (hg.block _ (Array.getElem?_eq_some_iff.1 h.b1).1 (by simp; omega)).trans h.b1, grown_trans (grown_but _ h.lo) hg⟩
theorem three_cells {W : World} {B : Nat} {x y z : Value} {t : TypeId} (h : W.heap[B]? = some (.cells #[x, y, z] t (0, 0))) : W.cell? ⟨B, 0, none⟩ = some x ∧ W.cell? ⟨B, 1, none⟩ = some y ∧ W.cell? ⟨B, 2, none⟩ = some z := by
  refine ⟨?_, ?_, ?_⟩ <;> rw [cell_of_row _ _ _ _ _ _ h] <;> rfl
theorem grown_other {w X : World} {r B o : Nat} {v : Value} (h : w.grownBy X (some r)) (hB : w.heap.size ≤ B) : w.grownBy (X.setCell ⟨B, o, none⟩ v) (some r) :=
  ⟨h.os, h.tape, h.output, by rw [show (X.setCell ⟨B, o, none⟩ v).heap.size = X.heap.size by simp [World.setCell]]; exact h.size, fun k hk hne => (Below.heap_setCell _ _ _ _ (by simp only; omega)).trans (h.block k hk hne)⟩
theorem RAt.other {X : World} {r B o : Nat} {v : Value} {s : ByteArray} {i : Nat} {b : Bool} (h : RAt X r s i b) (hB : r < B) : RAt (X.setCell ⟨B, o, none⟩ v) r s i b := (Below.heap_setCell _ _ _ _ (by simp only; omega)).trans h

theorem infoWord : (Tryd.prog.info? 36).map (·.size) = some 3 := by kernel_rfl
theorem results_word (tmps : Array Value) (w : World) (g : Nat) (cs : Array Value) (h2 : tmps.getD 2 undef = .pointer (some ⟨g, 0, none⟩)) (hg : w.heap[g]? = some (.cells cs 36 (0, 0))) (hs : cs.size = 3) :
    (results Tryd.f33 tmps).run Tryd.prog w = .ok (.agg cs) w := by
  have h2' : tmps[2]?.getD undef = .pointer (some ⟨g, 0, none⟩) := by simpa using h2
  have hl := run_loadVar_row (P := Tryd.prog) w g 36 36 cs (0, 0) _ hg Tryd.underlying36 rfl (by rw [infoWord, hs])
  simp [results, Tryd.results33, h2', asAddr, hl]
theorem set3_heap {X : World} {B : Nat} {x y z a b c : Value} {t : TypeId} (h : X.heap[B]? = some (.cells #[x, y, z] t (0, 0))) : (((X.setCell ⟨B, 0, none⟩ a).setCell ⟨B, 1, none⟩ b).setCell ⟨B, 2, none⟩ c).heap[B]? = some (.cells #[a, b, c] t (0, 0)) := by
  have h1 := heap_setCell_same X B 0 _ _ a h
  have h2 := heap_setCell_same _ B 1 _ _ b h1
  rw [heap_setCell_same _ B 2 _ _ c h2]
  rfl
theorem heap_other {X : World} {B C o : Nat} {v : Value} (hne : B ≠ C) : (X.setCell ⟨C, o, none⟩ v).heap[B]? = X.heap[B]? := Below.heap_setCell _ _ _ _ (by simp only; exact hne)

section
variable {w w2 : World} {r B i n : Nat} {s : ByteArray} {v : Bool} {x y z a b c p q : Value}
theorem tail_heap (h : w2.heap[B]? = some (.cells #[x, y, z] 36 (0, 0))) : (((((w2.setCell ⟨B + 1, 0, none⟩ p).setCell ⟨B + 1, 1, none⟩ q).setCell ⟨B, 0, none⟩ a).setCell ⟨B, 1, none⟩ b).setCell ⟨B, 2, none⟩ c).heap[B]? = some (.cells #[a, b, c] 36 (0, 0)) :=
  set3_heap (by rw [heap_other (by omega), heap_other (by omega)]; exact h)
theorem tail_rat (h : RAt w2 r s n v) (hr : r < B) : RAt (((((w2.setCell ⟨B + 1, 0, none⟩ p).setCell ⟨B + 1, 1, none⟩ q).setCell ⟨B, 0, none⟩ a).setCell ⟨B, 1, none⟩ b).setCell ⟨B, 2, none⟩ c) r s n v :=
  ((((h.other (by omega)).other (by omega)).other hr).other hr).other hr
theorem tail_grown (h : w.grownBy w2 (some r)) (hB : w.heap.size ≤ B) : w.grownBy (((((w2.setCell ⟨B + 1, 0, none⟩ p).setCell ⟨B + 1, 1, none⟩ q).setCell ⟨B, 0, none⟩ a).setCell ⟨B, 1, none⟩ b).setCell ⟨B, 2, none⟩ c) (some r) :=
  grown_other (grown_other (grown_other (grown_other (grown_other h (by omega)) (by omega)) hB) hB) hB
end

set_option maxRecDepth 100000 in
set_option maxHeartbeats 1000000 in
theorem word_any (r : Nat) (s : ByteArray) (i : Nat) (w : World) (h : RAt w r s i false) (hO : Ords w) (hi : i < s.size) (hs : s.size ≤ 10000) (Q : Ending → World → Prop)
    (HBAD : Hid (∀ p, one s i = .inr p → ∀ w' (k : Nat) (t : ByteArray), RAt w' r s p true → w.grownBy w' (some r) → Q (.returned (.agg #[.int .i64 k, .string t, .int .i64 i])) w'))
    (HGOOD : Hid (∀ k t n, one s i = .inl (k, t, n) → ∀ w', RAt w' r s n false → w.grownBy w' (some r) → Q (.returned (.agg #[.int .i64 k, .string t, .int .i64 i])) w')) :
    Calls Tryd.prog 33 #[.pointer (some ⟨r, 0, none⟩)] w Q := by
  have hrl := h.lt
  have HA : Hid (RAt w r s i false) := h
  have HO : Hid (Ords w) := hO
  obtain ⟨c0, c1, c2⟩ := h.cells
  have hix := fun w => index_at s i hi w
  have HWB : Hid (WB w _ i) := WB.mk' w i
  go_enter Tryd.func33, Tryd.ntmps33
  go_wp2_with fail
  go_quiet (fail)
  have HB1 : Hid (WB w (((w.alloc (.cells #[.int .i64 0, .string ⟨#[]⟩, .int .i64 0] 36)).alloc (.cells #[.int .i64 0, .string ⟨#[]⟩, .int .i64 i] 36)).drewN nq) i) := ⟨HWB.out.b0, HWB.out.b1, grown_trans HWB.out.lo (grown_drewN _ _)⟩
  clear HWB c0 c1 c2 h hO hix
  generalize ((w.alloc (.cells #[.int .i64 0, .string ⟨#[]⟩, .int .i64 0] 36)).alloc (.cells #[.int .i64 0, .string ⟨#[]⟩, .int .i64 i] 36)).drewN nq = W at *
  have HA1 : Hid (RAt W r s i false) := HA.out.kept HB1.out.lo
  have HO1 : Hid (Ords W) := HO.out.grown0 HB1.out.lo
  have hST := isNameStart_any (chr s i) W
  have hQT := isQuote_any (chr s i) W
  have hSG := isSign_any (chr s i) W
  cases hb : startB (chr s i) with
  | true =>
    rw [hb] at hST
    have hN := name_any r s i false W HA1.out (by omega) hs
    have HON : Hid (one s i = (if innerB (chr s (i + nmK s i)) = true then .inr (i + nmK s i) else .inl (1, s.extract i (i + nmK s i), i + nmK s i))) := by show _ = _; unfold one; rw [if_pos hb]
    generalize s.extract i (i + nmK s i) = t at *
    generalize i + nmK s i = n at *
    generalize innerB (chr s n) = v at *
    generalize chr s i = c at *
    clear hb hQT hSG
    go_wp2_with (go_at_call 24; refine hST.mono ?_; rintro e w' ⟨rfl, rfl⟩)
    refine hN.mono ?_
    clear hN
    rintro e w2 ⟨rfl, hR2, hg2⟩
    obtain ⟨hb0, hb1, hgw⟩ := HB1.out.turn hg2 hrl
    have HG2 : Hid (w.grownBy w2 (some r)) := hgw
    have HR2 : Hid (RAt w2 r s n v) := hR2
    have HX : Hid (w2.heap[w.heap.size]? = some (.cells #[.int .i64 0, .string ⟨#[]⟩, .int .i64 0] 36 (0, 0))) := hb0
    obtain ⟨x0, x1, x2⟩ := three_cells hb0
    obtain ⟨y0, y1, y2⟩ := three_cells hb1
    have fx := fun j => frozen_of_row w2 _ j _ _ hb0
    have fy := fun j => frozen_of_row w2 _ j _ _ hb1
    clear hb0 hb1 hgw hR2 hg2 HA1 HO1 HB1
    go_wp2_with fail
    refine bodyPost_ret (v := .agg #[.int .i64 1, .string t, .int .i64 i]) (results_word _ _ w.heap.size _ rfl (tail_heap HX.out) rfl) rfl ?_
    cases v with
    | true => exact HBAD.out n (by rw [HON.out]; rfl) _ 1 t (tail_rat HR2.out hrl) (tail_grown HG2.out (Nat.le_refl _))
    | false => exact HGOOD.out 1 t n (by rw [HON.out]; rfl) _ (tail_rat HR2.out hrl) (tail_grown HG2.out (Nat.le_refl _))
  | false =>
    rw [hb] at hST
    have HB0 : Hid (startB (chr s i) ≠ true) := by show ¬ _; rw [hb]; simp
    cases hq : quoteB (chr s i) with
    | true =>
      rw [hq] at hQT
      have hc39 : chr s i = 39 := by simpa [quoteB] using hq
      have HON : Hid (one s i = (if qtK s (i + 1) = 0 ∨ chr s (i + 1 + qtK s (i + 1)) ≠ 39 then .inr (i + 1 + qtK s (i + 1)) else .inl (2, s.extract (i + 1) (i + 1 + qtK s (i + 1)), i + 1 + qtK s (i + 1) + 1))) := by show _ = _; unfold one; rw [if_neg HB0.out, if_pos hc39]
      clear hb hq hc39 hSG
      go_wp2_with (first | (go_at_call 24; refine hST.mono ?_; rintro e w' ⟨rfl, rfl⟩) | (go_at_call 36; refine hQT.mono ?_; rintro e w' ⟨rfl, rfl⟩))
      refine quoted_any r s i _ HA1.out (by omega) hs _ ?hbad ?hgood
      case hbad =>
        intro hcond w2 hR2 hg2
        have HON2 : Hid (one s i = .inr (i + 1 + qtK s (i + 1))) := by show _ = _; rw [HON.out, if_pos hcond]
        clear HON hcond
        generalize i + 1 + qtK s (i + 1) = n at *
        generalize chr s i = c at *
        obtain ⟨hb0, hb1, hgw⟩ := HB1.out.turn hg2 hrl
        have HG2 : Hid (w.grownBy w2 (some r)) := hgw
        have HR2 : Hid (RAt w2 r s n true) := hR2
        have HX : Hid (w2.heap[w.heap.size]? = some (.cells #[.int .i64 0, .string ⟨#[]⟩, .int .i64 0] 36 (0, 0))) := hb0
        obtain ⟨x0, x1, x2⟩ := three_cells hb0
        obtain ⟨y0, y1, y2⟩ := three_cells hb1
        have fx := fun j => frozen_of_row w2 _ j _ _ hb0
        have fy := fun j => frozen_of_row w2 _ j _ _ hb1
        clear hb0 hb1 hgw hR2 hg2 HA1 HO1 HB1
        go_wp2_with fail
        refine bodyPost_ret (v := .agg #[.int .i64 2, .string ⟨#[]⟩, .int .i64 i]) (results_word _ _ w.heap.size _ rfl (tail_heap HX.out) rfl) rfl ?_
        exact HBAD.out n HON2.out _ 2 ⟨#[]⟩ (tail_rat HR2.out hrl) (tail_grown HG2.out (Nat.le_refl _))
      case hgood =>
        intro hcond w2 hR2 hg2
        have HON2 : Hid (one s i = .inl (2, s.extract (i + 1) (i + 1 + qtK s (i + 1)), i + 1 + qtK s (i + 1) + 1)) := by show _ = _; rw [HON.out, if_neg hcond]
        clear HON hcond
        generalize s.extract (i + 1) (i + 1 + qtK s (i + 1)) = t at *
        generalize i + 1 + qtK s (i + 1) + 1 = n at *
        generalize chr s i = c at *
        obtain ⟨hb0, hb1, hgw⟩ := HB1.out.turn hg2 hrl
        have HG2 : Hid (w.grownBy w2 (some r)) := hgw
        have HR2 : Hid (RAt w2 r s n false) := hR2
        have HX : Hid (w2.heap[w.heap.size]? = some (.cells #[.int .i64 0, .string ⟨#[]⟩, .int .i64 0] 36 (0, 0))) := hb0
        obtain ⟨x0, x1, x2⟩ := three_cells hb0
        obtain ⟨y0, y1, y2⟩ := three_cells hb1
        have fx := fun j => frozen_of_row w2 _ j _ _ hb0
        have fy := fun j => frozen_of_row w2 _ j _ _ hb1
        clear hb0 hb1 hgw hR2 hg2 HA1 HO1 HB1
        go_wp2_with fail
        refine bodyPost_ret (v := .agg #[.int .i64 2, .string t, .int .i64 i]) (results_word _ _ w.heap.size _ rfl (tail_heap HX.out) rfl) rfl ?_
        exact HGOOD.out 2 t n HON2.out _ (tail_rat HR2.out hrl) (tail_grown HG2.out (Nat.le_refl _))
    | false =>
      rw [hq] at hQT
      have hn39 : chr s i ≠ 39 := by simpa [quoteB] using hq
      by_cases h37 : chr s i = 37
      · obtain ⟨near, L, hbest⟩ : ∃ near L, bestTo ((bs s).drop i) 7 = (near, L) := ⟨_, _, rfl⟩
        have hN := order_any r s i _ HA1.out HO1.out (by omega) hs near L hbest
        have HON : Hid (one s i = (if (decide (L < near.size) || letterB (chr s (i + L))) = true then .inr (i + L) else .inl (3, near, i + L))) := by show _ = _; unfold one; rw [if_neg HB0.out, if_neg hn39, if_pos h37, hbest]
        have hd : ((chr s i : Int) == 37) = true := by rw [h37]; rfl
        clear hb hq hn39 h37 hSG hbest
        generalize i + L = n at *
        generalize (decide (L < near.size) || letterB (chr s n)) = v at *
        generalize chr s i = c at *
        go_wp2_with (first | (go_at_call 24; refine hST.mono ?_; rintro e w' ⟨rfl, rfl⟩) | (go_at_call 36; refine hQT.mono ?_; rintro e w' ⟨rfl, rfl⟩))
        refine hN.mono ?_
        clear hN
        rintro e w2 ⟨rfl, hR2, hg2⟩
        obtain ⟨hb0, hb1, hgw⟩ := HB1.out.turn hg2 hrl
        have HG2 : Hid (w.grownBy w2 (some r)) := hgw
        have HR2 : Hid (RAt w2 r s n v) := hR2
        have HX : Hid (w2.heap[w.heap.size]? = some (.cells #[.int .i64 0, .string ⟨#[]⟩, .int .i64 0] 36 (0, 0))) := hb0
        obtain ⟨x0, x1, x2⟩ := three_cells hb0
        obtain ⟨y0, y1, y2⟩ := three_cells hb1
        have fx := fun j => frozen_of_row w2 _ j _ _ hb0
        have fy := fun j => frozen_of_row w2 _ j _ _ hb1
        clear hb0 hb1 hgw hR2 hg2 HA1 HO1 HB1
        go_wp2_with fail
        refine bodyPost_ret (v := .agg #[.int .i64 3, .string near, .int .i64 i]) (results_word _ _ w.heap.size _ rfl (tail_heap HX.out) rfl) rfl ?_
        cases v with
        | true => exact HBAD.out n (by rw [HON.out]; rfl) _ 3 near (tail_rat HR2.out hrl) (tail_grown HG2.out (Nat.le_refl _))
        | false => exact HGOOD.out 3 near n (by rw [HON.out]; rfl) _ (tail_rat HR2.out hrl) (tail_grown HG2.out (Nat.le_refl _))
      · have hd : ((chr s i : Int) == 37) = false := by simp; omega
        cases hsg : signB (chr s i) with
        | true =>
          rw [hsg] at hSG
          have hN := take_any r s i 1 false _ HA1.out (by omega) hs
          have HON : Hid (one s i = .inl (4, s.extract i (i + 1), i + 1)) := by show _ = _; unfold one; rw [if_neg HB0.out, if_neg hn39, if_neg h37, if_pos hsg]
          clear hb hq hn39 h37 hsg
          generalize s.extract i (i + 1) = t at *
          generalize chr s i = c at *
          go_wp2_with (first | (go_at_call 24; refine hST.mono ?_; rintro e w' ⟨rfl, rfl⟩) | (go_at_call 36; refine hQT.mono ?_; rintro e w' ⟨rfl, rfl⟩) | (go_at_call 46; refine hSG.mono ?_; rintro e w' ⟨rfl, rfl⟩))
          refine hN.mono ?_
          clear hN
          rintro e w2 ⟨rfl, hR2, hg2⟩
          obtain ⟨hb0, hb1, hgw⟩ := HB1.out.turn hg2 hrl
          have HG2 : Hid (w.grownBy w2 (some r)) := hgw
          have HR2 : Hid (RAt w2 r s (i + 1) false) := hR2
          have HX : Hid (w2.heap[w.heap.size]? = some (.cells #[.int .i64 0, .string ⟨#[]⟩, .int .i64 0] 36 (0, 0))) := hb0
          obtain ⟨x0, x1, x2⟩ := three_cells hb0
          obtain ⟨y0, y1, y2⟩ := three_cells hb1
          have fx := fun j => frozen_of_row w2 _ j _ _ hb0
          have fy := fun j => frozen_of_row w2 _ j _ _ hb1
          clear hb0 hb1 hgw hR2 hg2 HA1 HO1 HB1
          go_wp2_with fail
          refine bodyPost_ret (v := .agg #[.int .i64 4, .string t, .int .i64 i]) (results_word _ _ w.heap.size _ rfl (tail_heap HX.out) rfl) rfl ?_
          exact HGOOD.out 4 t (i + 1) HON.out _ (tail_rat HR2.out hrl) (tail_grown HG2.out (Nat.le_refl _))
        | false =>
          rw [hsg] at hSG
          have HON : Hid (one s i = .inr i) := by show _ = _; unfold one; rw [if_neg HB0.out, if_neg hn39, if_neg h37, if_neg (by rw [hsg]; simp)]
          clear hb hq hn39 h37 hsg
          generalize chr s i = c at *
          obtain ⟨c0, c1, c2⟩ := HA1.out.cells
          have f2 := HA1.out.free 2
          obtain ⟨⟨x0, x1, x2⟩, y0, y1, y2⟩ := HB1.out.cells
          have fx := fun j => (HB1.out.free j).1
          have fy := fun j => (HB1.out.free j).2
          have hne : r ≠ w.heap.size := by omega
          have hne1 : r ≠ w.heap.size + 1 := by omega
          have HX : Hid ((W.setCell ⟨r, 2, none⟩ (.bool true)).heap[w.heap.size]? = some (.cells #[.int .i64 0, .string ⟨#[]⟩, .int .i64 0] 36 (0, 0))) := by show _ = _; rw [heap_other (by omega)]; exact HB1.out.b0
          have HRF : Hid (RAt (W.setCell ⟨r, 2, none⟩ (.bool true)) r s i true ∧ w.grownBy (W.setCell ⟨r, 2, none⟩ (.bool true)) (some r)) := ⟨HA1.out.setBad true, grown_trans (grown_but _ HB1.out.lo) (grown_setCell r 2 _)⟩
          go_wp2_with (first | (go_at_call 24; refine hST.mono ?_; rintro e w' ⟨rfl, rfl⟩) | (go_at_call 36; refine hQT.mono ?_; rintro e w' ⟨rfl, rfl⟩) | (go_at_call 46; refine hSG.mono ?_; rintro e w' ⟨rfl, rfl⟩))
          refine bodyPost_ret (v := .agg #[.int .i64 0, .string ⟨#[]⟩, .int .i64 i]) (results_word _ _ w.heap.size _ rfl (set3_heap HX.out) rfl) rfl ?_
          exact HBAD.out i HON.out _ 0 ⟨#[]⟩ (((HRF.out.1.other hrl).other hrl).other hrl) (grown_other (grown_other (grown_other HRF.out.2 (Nat.le_refl _)) (Nat.le_refl _)) (Nat.le_refl _))

end Go.Proofs.YtpjckjggmcijjabDoor
