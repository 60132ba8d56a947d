/-
  ScanReads, walked.
-/
import Derived.Test.YtpjckjggmcijjabDoorSAre
namespace Go.Proofs.YtpjckjggmcijjabDoor
open Go.RowKit

attribute [local go_sem] Oper.semAt_some

/-- A row of words that is its owner's. -/
def LRow (W : World) (g n : Nat) : Prop := ∃ cur : Array Value, W.heap[g]? = some (.cells cur 36 (0, 0)) ∧ n * 3 ≤ cur.size
theorem LRow.cell {W : World} {g n : Nat} (h : LRow W g n) (j : Nat) (hj : j < n * 3) : (∃ v, W.cell? ⟨g, j, none⟩ = some v) ∧ W.frozen? ⟨g, j, none⟩ = false := by
  obtain ⟨cur, hc, hs⟩ := h
  refine ⟨⟨cur[j]'(by omega), ?_⟩, frozen_of_row W g j _ _ hc⟩
  rw [cell_of_row _ _ _ _ _ _ hc]
  exact Array.getElem?_eq_getElem _
theorem LRow.set {W : World} {g n : Nat} (h : LRow W g n) (o : Nat) (v : Value) : LRow (W.setCell ⟨g, o, none⟩ v) g n := by
  obtain ⟨cur, hc, hs⟩ := h
  exact ⟨_, heap_setCell_same W g o _ _ v hc, by simpa using hs⟩

set_option maxRecDepth 100000 in
set_option maxHeartbeats 1000000 in
theorem reads_good (s : ByteArray) (w : World) (ws : List El) (hO : Ords w) (h : scanW s = (ws, none)) (HAW : Hid (Calls Tryd.prog 8 #[] w fun e w' => e = .returned (.bool true) ∧ w.grownBy w' none)) :
    Calls Tryd.prog 3 #[.string s] w fun e w' => e = .returned (.bool true) ∧ w.grownBy w' none := by
  have HO : Hid (Ords w) := hO
  have HS : Hid (scanW s = (ws, none)) := h
  have HLEN : Hid (ws.length ≤ 8192) := by
    show ws.length ≤ 8192
    unfold scanW at h
    split at h
    · cases h
    · have := scan_len s; rw [h] at this; simp only at this; omega
  have hw0 : 0 < w.heap.size := World.block_lt_of_cell? w _ (hO 0 (by decide))
  clear hO h
  go_enter Tryd.func3, Tryd.ntmps3
  go_wp2_with fail
  refine HAW.out.mono ?_
  rintro e w2 ⟨rfl, hg2⟩
  have HG2 : Hid (w.grownBy w2 none) := hg2
  clear hg2 HAW
  go_wp2_with fail
  refine (rall_any s _ ws none HS.out).mono ?_
  rintro e w3 ⟨b, cb, rfl, hR3, hg3⟩
  have HG3 : Hid (w.grownBy w3 none) := grown_trans HG2.out hg3
  have HR3 : Hid (WordsAt w3 b ws) := hR3
  clear hg3 hR3 HG2
  unfold badAt
  go_wp2_with fail
  refine (words_ok s _ (HO.out.grown0 HG3.out) ws HS.out).mono ?_
  rintro e w4 ⟨a, ca, rfl, hown, hg4⟩
  have H34 : Hid (w3.grownBy w4 none) := hg4
  have HW4 : Hid (WordsAt w4 a ws) := owns_words hown
  have HL4 : Hid (ws = [] ∨ ∃ g, a = some ⟨g, 0, none⟩ ∧ w3.heap.size ≤ g ∧ LRow w4 g ws.length) := by
    rcases hown.2 with ⟨_, h0⟩ | ⟨g, cap, cur, hv, hge, hc, hle, _, hsz, _⟩
    · exact .inl (List.eq_nil_of_length_eq_zero h0)
    · right
      simp only [Value.slice.injEq, true_and] at hv
      exact ⟨g, hv.1, hge, cur, hc, by rw [hsz]; exact Nat.mul_le_mul_right _ hle⟩
  clear hg4 hown
  unfold mishapV
  go_wp2_with fail
  have hXg := World.grownBy_alloc w4 (.cells #[.int .i64 0, .int .i64 0, .slice none 0 0] 30) none
  generalize w4.alloc (.cells #[.int .i64 0, .int .i64 0, .slice none 0 0] 30) = X at *
  have HX : Hid (w4.grownBy X none) := hXg
  clear hXg
  refine (bad_ok X).mono ?_
  rintro e w5 ⟨rfl, hg5⟩
  have H45 : Hid (w4.grownBy w5 none) := grown_trans HX.out hg5
  clear hg5 HX
  go_wp2_with fail
  refine (are_same a b ca cb ws w5 (HW4.out.kept H45.out) (HR3.out.kept (grown_trans H34.out H45.out)) HLEN.out).mono ?_
  rintro e w6 ⟨rfl, hg6⟩
  have H46 : Hid (w4.grownBy w6 none) := grown_trans H45.out hg6
  have H36 : Hid (w3.grownBy w6 none) := grown_trans H34.out H46.out
  have HL6 : Hid (ws = [] ∨ ∃ g, a = some ⟨g, 0, none⟩ ∧ w3.heap.size ≤ g ∧ LRow w6 g ws.length) := by
    rcases HL4.out with h | ⟨g, h1, h2, cur, h3, h4⟩
    · exact .inl h
    · exact .inr ⟨g, h1, h2, cur, (H46.out.block g (Array.getElem?_eq_some_iff.1 h3).1 (by simp)).trans h3, h4⟩
  clear hg6 H45 HL4 HW4 H46 H34
  obtain ⟨n, hn⟩ : ∃ n, n = ws.length := ⟨_, rfl⟩
  rw [← hn] at HL6 ⊢
  have HN : Hid (n = ws.length) := hn
  have hn8 : n ≤ 8192 := by rw [hn]; exact HLEN.out
  clear hn
  go_wp2_with fail
  go_loopw [7] (fun v7 wr => ∃ k : Nat, k ≤ n ∧ v7 = .int .i64 k ∧ w3.grownBy wr none ∧ (ws = [] ∨ ∃ g, a = some ⟨g, 0, none⟩ ∧ w3.heap.size ≤ g ∧ LRow wr g n)) (fun v7 _ => n - (intOf v7).toNat)
  case atStart => exact ⟨0, Nat.zero_le _, rfl, H36.out, HL6.out⟩
  case round =>
    obtain ⟨k, hk, rfl, hg, hL⟩ := hrel
    have HG : Hid (w3.grownBy wr none) := hg
    clear hg HL6 H36
    by_cases hlt : k < n
    · rcases hL with h0 | ⟨g, rfl, hge, hL⟩
      · have := HN.out; rw [h0] at this; simp at this; omega
      · have HL : Hid (LRow wr g n) := hL
        obtain ⟨⟨y0, c0⟩, f0⟩ := hL.cell (k * 3) (by omega)
        obtain ⟨⟨y1, c1⟩, f1⟩ := hL.cell (k * 3 + 1) (by omega)
        obtain ⟨⟨y2, c2⟩, f2⟩ := hL.cell (k * 3 + 2) (by omega)
        clear hL
        go_wp2_with fail
        refine ⟨⟨k + 1, by omega, by go_num, grown_new HG.out (grown_trans (grown_trans (grown_setCell _ _ _) (grown_setCell _ _ _)) (grown_setCell _ _ _)) hge, .inr ⟨g, rfl, hge, ((HL.out.set _ _).set _ _).set _ _⟩⟩, by simp [intOf]; omega⟩
    · clear hL
      go_wp2_with fail
      refine (words_ok s _ (HO.out.grown0 (grown_trans HG3.out HG.out)) ws HS.out).mono ?_
      rintro e w7 ⟨a7, ca7, rfl, hown7, hg7⟩
      have H37 : Hid (w3.grownBy w7 none) := grown_trans HG.out hg7
      have HW7 : Hid (WordsAt w7 a7 ws) := owns_words hown7
      clear hg7 hown7 HG
      unfold mishapV
      go_wp2_with fail
      have hXg := World.grownBy_alloc w7 (.cells #[.int .i64 0, .int .i64 0, .slice none 0 0] 30) none
      generalize w7.alloc (.cells #[.int .i64 0, .int .i64 0, .slice none 0 0] 30) = Y at *
      have HY : Hid (w7.grownBy Y none) := hXg
      clear hXg
      refine (bad_ok Y).mono ?_
      rintro e w8 ⟨rfl, hg8⟩
      have H78 : Hid (w7.grownBy w8 none) := grown_trans HY.out hg8
      clear hg8 HY
      go_wp2_with fail
      rw [HN.out]
      refine (are_same a7 b ca7 cb ws w8 (HW7.out.kept H78.out) (HR3.out.kept (grown_trans H37.out H78.out)) HLEN.out).mono ?_
      rintro e w9 ⟨rfl, hg9⟩
      have HFIN : Hid (w.grownBy w9 none) := grown_trans HG3.out (grown_trans (grown_trans H37.out H78.out) hg9)
      clear hg9
      go_wp2_with fail
      go_ret
      exact ⟨rfl, HFIN.out⟩

set_option maxRecDepth 100000 in
set_option maxHeartbeats 1000000 in
theorem reads_bad (s : ByteArray) (w : World) (ws : List El) (p : Nat) (hO : Ords w) (h : scanW s = (ws, some p)) (HAW : Hid (Calls Tryd.prog 8 #[] w fun e w' => e = .returned (.bool true) ∧ w.grownBy w' none)) :
    Calls Tryd.prog 3 #[.string s] w fun e w' => e = .returned (.bool true) ∧ w.grownBy w' none := by
  have HO : Hid (Ords w) := hO
  have HS : Hid (scanW s = (ws, some p)) := h
  have hp0 : decide (0 ≤ (p : Int)) = true := decide_eq_true (by omega)
  clear hO h
  go_enter Tryd.func3, Tryd.ntmps3
  go_wp2_with fail
  refine HAW.out.mono ?_
  rintro e w2 ⟨rfl, hg2⟩
  have HG2 : Hid (w.grownBy w2 none) := hg2
  clear hg2 HAW
  go_wp2_with fail
  refine (rall_any s _ ws (some p) HS.out).mono ?_
  rintro e w3 ⟨b, cb, rfl, _, hg3⟩
  have HG3 : Hid (w.grownBy w3 none) := grown_trans HG2.out hg3
  clear hg3 HG2
  unfold badAt
  go_wp2_with fail
  refine (words_bad s _ (HO.out.grown0 HG3.out) ws p HS.out).mono ?_
  rintro e w4 ⟨rfl, hg4⟩
  have HG4 : Hid (w.grownBy w4 none) := grown_trans HG3.out hg4
  clear hg4 HG3
  unfold mishapV
  go_wp2_with fail
  have hXg := World.grownBy_alloc w4 (.cells #[.int .i64 10, .int .i64 p, .slice none 0 0] 30) none
  generalize w4.alloc (.cells #[.int .i64 10, .int .i64 p, .slice none 0 0] 30) = X at *
  have HX : Hid (w.grownBy X none) := grown_trans HG4.out hXg
  clear hXg HG4
  refine (bad_err p X).mono ?_
  rintro e w5 ⟨rfl, hg5⟩
  have HG5 : Hid (w.grownBy w5 none) := grown_trans HX.out hg5
  clear hg5 HX
  go_wp2_with fail
  refine (are_same none none 0 0 [] w5 (.inl rfl) (.inl rfl) (by simp)).mono ?_
  rintro e w6 ⟨rfl, hg6⟩
  have HG6 : Hid (w.grownBy w6 none) := grown_trans HG5.out hg6
  clear hg6 HG5
  go_wp2_with fail
  go_loopw [7] (fun v7 wr => v7 = .int .i64 0 ∧ wr = w6) (fun _ _ => 0)
  case atStart => exact ⟨rfl, rfl⟩
  case round =>
    obtain ⟨rfl, rfl⟩ := hrel
    go_wp2_with fail
    refine (words_bad s _ (HO.out.grown0 HG6.out) ws p HS.out).mono ?_
    rintro e w7 ⟨rfl, hg7⟩
    have HG7 : Hid (w.grownBy w7 none) := grown_trans HG6.out hg7
    clear hg7 HG6
    unfold mishapV
    go_wp2_with fail
    have hXg := World.grownBy_alloc w7 (.cells #[.int .i64 10, .int .i64 p, .slice none 0 0] 30) none
    generalize w7.alloc (.cells #[.int .i64 10, .int .i64 p, .slice none 0 0] 30) = Y at *
    have HY : Hid (w.grownBy Y none) := grown_trans HG7.out hXg
    clear hXg HG7
    refine (bad_err p Y).mono ?_
    rintro e w8 ⟨rfl, hg8⟩
    have HG8 : Hid (w.grownBy w8 none) := grown_trans HY.out hg8
    clear hg8 HY
    go_wp2_with fail
    refine (are_same none none 0 0 [] w8 (.inl rfl) (.inl rfl) (by simp)).mono ?_
    rintro e w9 ⟨rfl, hg9⟩
    have HG9 : Hid (w.grownBy w9 none) := grown_trans HG8.out hg9
    clear hg9 HG8
    go_wp2_with fail
    go_ret
    exact ⟨rfl, HG9.out⟩

theorem reads_any (s : ByteArray) (w : World) (hO : Ords w) : Calls Tryd.prog 3 #[.string s] w fun e w' => e = .returned (.bool true) ∧ w.grownBy w' none := by
  obtain ⟨ws, en, h⟩ : ∃ ws en, scanW s = (ws, en) := ⟨_, _, rfl⟩
  cases en with
  | none => exact reads_good s w ws hO h (awake_any w hO)
  | some q => exact reads_bad s w ws q hO h (awake_any w hO)

end Go.Proofs.YtpjckjggmcijjabDoor
