/-
  The lent grammar, as the walks take it; is it all as it was?
-/
import Derived.Test.YtkbpnafahimeiaaLendM
import Derived.Deep.RegionHeld3
namespace Go.Proofs.Ytkbpnafahimeiaa
open Go.RowKit Go.Maps Go.Shelf

attribute [local go_sem] Oper.semAt_some

section
variable {X : World} {B n tn nn ln c1 c2 c3 c4 c5 : Nat} {ts : List (ByteArray × Int)} {ns : List ByteArray} {lv : List Int} {L : Nat → Int} {R : Nat → List Int} {V : Nat → Int} {a1 a2 a3 a4 a5 : Option Addr} {rg : Nat → Nat × Nat}

theorem owns_some {e s m c : Nat} {a : Option Addr} {xs : List Value} (h : X.ownsRow B e s (.slice a (m + 1) c) (m + 1) xs) : ∃ g, a = some ⟨g, 0, none⟩ := by
  rcases h.2 with ⟨_, h⟩ | ⟨g, _, _, hv, _⟩
  · omega
  · simp at hv; exact ⟨g, hv.1⟩

/-- The lent grammar itself. -/
theorem LRows.gat (h : LRows X B ts ns lv n L R V a1 a2 a3 a4 a5 tn nn ln c1 c2 c3 c4 c5 rg) (hlen : ts.length = tn ∧ ns.length = nn ∧ lv.length = ln) (h1 : tn ≤ 1048576) (h2 : nn ≤ 1048576) (h3 : ln ≤ 1048576) (h4 : n ≤ 1048576) (h5 : ∀ i, i < n → (R i).length ≤ 1048576) :
    GAt X a1 a2 a3 a5 c1 c2 c3 c5 ts ns lv n L R (fun i => some ⟨(rg i).1, 0, none⟩) (fun i => (rg i).2) V := by
  obtain ⟨g1, rfl⟩ := owns_some h.t
  obtain ⟨g2, rfl⟩ := owns_some h.s
  obtain ⟨g3, rfl⟩ := owns_some h.l
  obtain ⟨g5, rfl⟩ := owns_some h.p
  have b1 := (owns_bounds h.t).1
  have b2 := (owns_bounds h.s).1
  have b5 := (owns_bounds h.p).1
  obtain ⟨k1, k2, k3⟩ := hlen
  refine ⟨.inr ⟨g1, 0, rfl, fun i hi => ?_⟩, .inr ⟨g2, 0, rfl, fun i hi => ?_⟩, .inr ⟨g3, 0, rfl, fun i hi => ?_⟩, .inr ⟨g5, 0, rfl, fun i hi => ?_⟩, by omega, by omega, by omega, fun e => (by cases e), fun e => (by cases e), by omega, by omega, by omega, by omega⟩
  · obtain ⟨e1, e2⟩ := tmsL_at ts i hi
    have hl := tms_cells_len ts
    rw [Nat.zero_add]
    refine ⟨owns_cell h.t ?_, owns_cell h.t ?_⟩
    · rw [List.getElem?_append_left (by omega)]; exact e1
    · rw [List.getElem?_append_left (by omega)]; exact e2
  · rw [Nat.zero_add]
    refine owns_cell h.s ?_
    rw [List.getElem?_append_left (by simpa using hi)]
    simp [List.getD, hi]
  · rw [Nat.zero_add]
    refine owns_cell h.l ?_
    rw [List.getElem?_append_left (by simpa using hi)]
    simp [List.getD, hi]
  · have hl := prodRow_length L (fun i => Value.slice (some ⟨(rg i).1, 0, none⟩) (R i).length (rg i).2) V n
    have e0 := prodRow_at L (fun i => Value.slice (some ⟨(rg i).1, 0, none⟩) (R i).length (rg i).2) V n i hi 0 (by omega)
    have e1 := prodRow_at L (fun i => Value.slice (some ⟨(rg i).1, 0, none⟩) (R i).length (rg i).2) V n i hi 1 (by omega)
    have e2 := prodRow_at L (fun i => Value.slice (some ⟨(rg i).1, 0, none⟩) (R i).length (rg i).2) V n i hi 2 (by omega)
    rw [Nat.zero_add]
    refine ⟨owns_cell h.p ?_, owns_cell h.p ?_, owns_cell h.p ?_, .inr ⟨_, 0, rfl, fun j hj => ?_⟩, fun e => (by cases e), by have := h5 i hi; omega⟩
    · rw [List.getElem?_append_left (by omega)]; rw [Nat.add_zero] at e0; exact e0
    · rw [List.getElem?_append_left (by omega)]; exact e1
    · rw [List.getElem?_append_left (by omega)]; exact e2
    · rw [Nat.zero_add]
      refine owns_cell (h.rr i hi) ?_
      rw [List.getElem?_append_left (by simpa using hj)]
      simp [List.getD, hj]

/-- What stands behind. -/
theorem LRows.ends (h : LRows X B ts ns lv n L R V a1 a2 a3 a4 a5 tn nn ln c1 c2 c3 c4 c5 rg) (hlen : ts.length = tn ∧ ns.length = nn ∧ lv.length = ln) :
    ∃ g1 g2 g3 g5, a1 = some ⟨g1, 0, none⟩ ∧ a2 = some ⟨g2, 0, none⟩ ∧ a3 = some ⟨g3, 0, none⟩ ∧ a5 = some ⟨g5, 0, none⟩ ∧ X.cell? ⟨g1, tn * 2, none⟩ = some (.string { data := #[115, 112, 97, 114, 101] }) ∧ X.cell? ⟨g2, nn, none⟩ = some (.string { data := #[115, 112, 97, 114, 101] }) ∧ X.cell? ⟨g3, ln, none⟩ = some (.int .i64 77) ∧ X.cell? ⟨g5, n * 3, none⟩ = some (.int .i64 77) := by
  obtain ⟨g1, rfl⟩ := owns_some h.t
  obtain ⟨g2, rfl⟩ := owns_some h.s
  obtain ⟨g3, rfl⟩ := owns_some h.l
  obtain ⟨g5, rfl⟩ := owns_some h.p
  obtain ⟨k1, k2, k3⟩ := hlen
  refine ⟨g1, g2, g3, g5, rfl, rfl, rfl, rfl, owns_cell h.t ?_, owns_cell h.s ?_, owns_cell h.l ?_, owns_cell h.p ?_⟩
  · rw [List.getElem?_append_right (by rw [tms_cells_len, k1]; omega), tms_cells_len, k1, Nat.sub_self]; rfl
  · rw [List.getElem?_append_right (by simp [k2]), List.length_map, k2, Nat.sub_self]; rfl
  · rw [List.getElem?_append_right (by simp [k3]), List.length_map, k3, Nat.sub_self]; rfl
  · rw [List.getElem?_append_right (by rw [prodRow_length]; omega), prodRow_length, Nat.sub_self]; rfl

theorem LRows.right (h : LRows X B ts ns lv n L R V a1 a2 a3 a4 a5 tn nn ln c1 c2 c3 c4 c5 rg) {i : Nat} (hi : i < n) : ∃ g4, a4 = some ⟨g4, 0, none⟩ ∧ X.cell? ⟨g4, i, none⟩ = some (.slice (some ⟨(rg i).1, 0, none⟩) ((R i).length + 1) (rg i).2) ∧ X.cell? ⟨(rg i).1, (R i).length, none⟩ = some (.int .i64 77) := by
  rcases h.r.2 with ⟨_, h0⟩ | ⟨g, cap, cur, hv, _⟩
  · omega
  · simp at hv
    obtain ⟨rfl, rfl⟩ := hv
    refine ⟨g, rfl, owns_cell h.r (by simp [hi]), owns_cell (h.rr i hi) ?_⟩
    rw [List.getElem?_append_right (by simp), List.length_map, Nat.sub_self]; rfl
end

set_option maxRecDepth 100000 in
set_option maxHeartbeats 4000000 in
theorem whole_lent (ta na la pa : Option Addr) (tc nc lc pc : Nat) (ts : List (ByteArray × Int)) (ns : List ByteArray) (lv : List Int) (n : Nat) (L : Nat → Int) (R : Nat → List Int) (V : Nat → Int) (st : Int) (w0 w : World) (tn nn ln gb : Nat) (gv : Array Value) (a1 a2 a3 a4 a5 : Option Addr) (c1 c2 c3 c4 c5 : Nat) (rg : Nat → Nat × Nat)
    (hL : LdAt w0 w gb gv #[.slice a1 tn c1, .slice a2 nn c2, .slice a3 ln c3, .int .i64 st, .slice a5 n c5, .slice a1 (tn + 1) c1, .slice a2 (nn + 1) c2, .slice a3 (ln + 1) c3, .slice a4 n c4, .slice a5 (n + 1) c5]) (hM : LRows w (gb + 1 + 1) ts ns lv n L R V a1 a2 a3 a4 a5 tn nn ln c1 c2 c3 c4 c5 rg) (hlen : ts.length = tn ∧ ns.length = nn ∧ lv.length = ln) (h1 : tn ≤ 1048576) (h2 : nn ≤ 1048576) (h3 : ln ≤ 1048576) (h4 : n ≤ 1048576) (h5 : ∀ i, i < n → (R i).length ≤ 1048576)
    (hS : ∀ W, w.grownBy W none → Calls Try.prog 14 #[.agg #[.slice a1 tn c1, .slice a2 nn c2, .slice a3 ln c3, .int .i64 st, .slice a5 n c5], .agg #[.slice ta tn tc, .slice na nn nc, .slice la ln lc, .int .i64 st, .slice pa n pc]] W fun e w' => e = .returned (.bool true) ∧ W.grownBy w' none) :
    Calls Try.prog 16 #[.pointer (some ⟨gb + 1, 0, none⟩), .agg #[.slice ta tn tc, .slice na nn nc, .slice la ln lc, .int .i64 st, .slice pa n pc]] w fun e w' => e = .returned (.bool true) ∧ w.grownBy w' none := by
  have HS := show Hid _ from hS
  have HM : Hid (LRows w (gb + 1 + 1) ts ns lv n L R V a1 a2 a3 a4 a5 tn nn ln c1 c2 c3 c4 c5 rg) := hM
  have HL : Hid (LdAt w0 w gb gv #[.slice a1 tn c1, .slice a2 nn c2, .slice a3 ln c3, .int .i64 st, .slice a5 n c5, .slice a1 (tn + 1) c1, .slice a2 (nn + 1) c2, .slice a3 (ln + 1) c3, .slice a4 n c4, .slice a5 (n + 1) c5]) := hL
  have HLN : Hid (ts.length = tn ∧ ns.length = nn ∧ lv.length = ln) := hlen
  have H5 : Hid (∀ i, i < n → (R i).length ≤ 1048576) := h5
  obtain ⟨W, hW⟩ : ∃ W, W = w.alloc (.cells #[.slice ta tn tc, .slice na nn nc, .slice la ln lc, .int .i64 st, .slice pa n pc] 42) := ⟨_, rfl⟩
  have HW := show Hid _ from hW
  have hgW : w.grownBy W none := by rw [hW]; exact World.grownBy_alloc w _ none
  have HGW : Hid (w.grownBy W none) := hgW
  have hbox : W.heap[w.heap.size]? = some (.cells #[.slice ta tn tc, .slice na nn nc, .slice la ln lc, .int .i64 st, .slice pa n pc] 42 (0, 0)) := by rw [hW]; exact heap_alloc_last w _
  have hLW := hL.kept hgW
  have x0 : W.cell? ⟨gb + 1, 0, none⟩ = some (.slice a1 tn c1) := hLW.x 0 _ rfl
  have x1 : W.cell? ⟨gb + 1, 1, none⟩ = some (.slice a2 nn c2) := hLW.x 1 _ rfl
  have x2 : W.cell? ⟨gb + 1, 2, none⟩ = some (.slice a3 ln c3) := hLW.x 2 _ rfl
  have x3 : W.cell? ⟨gb + 1, 3, none⟩ = some (.int .i64 st) := hLW.x 3 _ rfl
  have x4 : W.cell? ⟨gb + 1, 4, none⟩ = some (.slice a5 n c5) := hLW.x 4 _ rfl
  have y0 : W.cell? ⟨w.heap.size, 0, none⟩ = some (.slice ta tn tc) := by rw [cell_of_row _ _ _ _ _ _ hbox]; rfl
  have y1 : W.cell? ⟨w.heap.size, 1, none⟩ = some (.slice na nn nc) := by rw [cell_of_row _ _ _ _ _ _ hbox]; rfl
  have y2 : W.cell? ⟨w.heap.size, 2, none⟩ = some (.slice la ln lc) := by rw [cell_of_row _ _ _ _ _ _ hbox]; rfl
  have y3 : W.cell? ⟨w.heap.size, 3, none⟩ = some (.int .i64 st) := by rw [cell_of_row _ _ _ _ _ _ hbox]; rfl
  have y4 : W.cell? ⟨w.heap.size, 4, none⟩ = some (.slice pa n pc) := by rw [cell_of_row _ _ _ _ _ _ hbox]; rfl
  have HKP : Hid (∀ w1, W.drew.grownBy w1 none → w1.cell? ⟨gb + 1, 0, none⟩ = some (.slice a1 tn c1) ∧ w1.cell? ⟨gb + 1, 1, none⟩ = some (.slice a2 nn c2) ∧ w1.cell? ⟨gb + 1, 2, none⟩ = some (.slice a3 ln c3) ∧ w1.cell? ⟨gb + 1, 3, none⟩ = some (.int .i64 st) ∧ w1.cell? ⟨gb + 1, 4, none⟩ = some (.slice a5 n c5) ∧ w1.cell? ⟨w.heap.size, 0, none⟩ = some (.slice ta tn tc) ∧ w1.cell? ⟨w.heap.size, 1, none⟩ = some (.slice na nn nc) ∧ w1.cell? ⟨w.heap.size, 2, none⟩ = some (.slice la ln lc) ∧ w1.cell? ⟨w.heap.size, 3, none⟩ = some (.int .i64 st) ∧ w1.cell? ⟨w.heap.size, 4, none⟩ = some (.slice pa n pc)) := fun w1 h => by
    have hg : W.grownBy w1 none := grown_trans (grown_drewN W 1) h
    exact ⟨hg.cell x0 (by simp), hg.cell x1 (by simp), hg.cell x2 (by simp), hg.cell x3 (by simp), hg.cell x4 (by simp), hg.cell y0 (by simp), hg.cell y1 (by simp), hg.cell y2 (by simp), hg.cell y3 (by simp), hg.cell y4 (by simp)⟩
  have HGD : Hid (w.grownBy W.drew none) := grown_trans hgW (grown_drewN W 1)
  clear hS hM hL hlen h5 hW hgW hbox hLW
  go_enter Try.func16, Try.ntmps16
  go_wp2_with fail
  rw [← HW.out]
  generalize w.heap.size = hb at *
  go_region_held3 (fun w' => w'.cell? ⟨gb + 1, 0, none⟩ = some (.slice a1 tn c1) ∧ w'.cell? ⟨gb + 1, 1, none⟩ = some (.slice a2 nn c2) ∧ w'.cell? ⟨gb + 1, 2, none⟩ = some (.slice a3 ln c3) ∧ w'.cell? ⟨gb + 1, 3, none⟩ = some (.int .i64 st) ∧ w'.cell? ⟨gb + 1, 4, none⟩ = some (.slice a5 n c5) ∧ w'.cell? ⟨hb, 0, none⟩ = some (.slice ta tn tc) ∧ w'.cell? ⟨hb, 1, none⟩ = some (.slice na nn nc) ∧ w'.cell? ⟨hb, 2, none⟩ = some (.slice la ln lc) ∧ w'.cell? ⟨hb, 3, none⟩ = some (.int .i64 st) ∧ w'.cell? ⟨hb, 4, none⟩ = some (.slice pa n pc)) (first | exact HKP.out _ hg1 | go_keep) ((go_at_call 14; refine Calls.mono (HS.out _ HGD.out) ?_; rintro e w1 ⟨rfl, hg1⟩))
  have HG1 : Hid (w.grownBy w1 none) := grown_trans HGD.out hg1
  have hL1 := HL.out.kept HG1.out
  have HM1 : Hid (LRows w1 (gb + 1 + 1) ts ns lv n L R V a1 a2 a3 a4 a5 tn nn ln c1 c2 c3 c4 c5 rg) := HM.out.kept HG1.out
  have z5 : w1.cell? ⟨gb + 1, 5, none⟩ = some (.slice a1 (tn + 1) c1) := hL1.x 5 _ rfl
  have z6 : w1.cell? ⟨gb + 1, 6, none⟩ = some (.slice a2 (nn + 1) c2) := hL1.x 6 _ rfl
  have z7 : w1.cell? ⟨gb + 1, 7, none⟩ = some (.slice a3 (ln + 1) c3) := hL1.x 7 _ rfl
  have z8 : w1.cell? ⟨gb + 1, 8, none⟩ = some (.slice a4 n c4) := hL1.x 8 _ rfl
  have z9 : w1.cell? ⟨gb + 1, 9, none⟩ = some (.slice a5 (n + 1) c5) := hL1.x 9 _ rfl
  clear hg1 hL1 HL HM HS HKP x0 x1 x2 x3 x4 y0 y1 y2 y3 y4
  go_wp2_with fail
  go_loopg [5, 6] n (fun gk v5 i wr => ∃ k j : Nat, k ≤ n ∧ gk = n - k ∧ v5 = .bool true ∧ i = .int .i64 k ∧ wr = w1.drewN j)
  case atStart => exact ⟨0, 0, Nat.zero_le _, rfl, rfl, rfl, rfl⟩
  case round =>
    obtain ⟨k, j, hk, hgk, rfl, rfl, rfl⟩ := hrel
    have HGK : Hid (gk = n - k) := hgk
    clear hgk
    by_cases hlt : k < n
    · obtain ⟨g4, rfl, q1, q2⟩ := HM1.out.right hlt
      have hrl := H5.out k hlt
      obtain ⟨len, hlen⟩ : ∃ len, len = (R k).length := ⟨_, rfl⟩
      rw [← hlen] at q1 q2 hrl
      clear hlen
      go_wp2_with fail
      go_quiet (fail)
      go_wp2_with fail
      go_roundg (n - (k + 1))
      case measure => have := HGK.out; omega
      case rel => exact ⟨k + 1, _, by omega, rfl, rfl, by go_num, rfl⟩
    · obtain ⟨g1, g2, g3, g5, rfl, rfl, rfl, rfl, q1, q2, q3, q5⟩ := HM1.out.ends HLN.out
      go_wp2_with fail
      go_quiet (fail)
      go_wp2_with fail
      go_ret
      exact ⟨rfl, grown_trans HG1.out (grown_trans (grown_drewN _ _) (grown_drewN _ _))⟩

end Go.Proofs.Ytkbpnafahimeiaa
