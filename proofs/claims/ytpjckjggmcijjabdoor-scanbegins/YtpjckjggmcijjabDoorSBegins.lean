/-
  ScanBegins, walked.
-/
import Derived.Test.YtpjckjggmcijjabDoorSBegMath
import Derived.Test.YtpjckjggmcijjabDoorSNames
import Derived.Deep.CutRange
namespace Go.Proofs.YtpjckjggmcijjabDoor
open Go.RowKit

attribute [local go_sem] Oper.semAt_some

set_option maxRecDepth 100000 in
set_option maxHeartbeats 1000000 in
theorem begins_good (s m : ByteArray) (w1 : World) (ws : List El) (hO : Ords w1) (h : scanW s = (ws, none)) (hs : s.size ≤ 140737488355328) (HAW : Hid (Calls Tryd.prog 8 #[] w1 fun e w' => e = .returned (.bool true) ∧ w1.grownBy w' none)) :
    Calls Tryd.prog 7 #[.string s, .string m] w1 fun e w' => e = .returned (.bool true) ∧ w1.grownBy w' none := by
  have HO : Hid (Ords w1) := hO
  have HS : Hid (scanW s = (ws, none)) := h
  clear hO h
  go_enter Tryd.func7, Tryd.ntmps7
  go_wp2_with fail
  refine HAW.out.mono ?_
  rintro e w2 ⟨rfl, hg2⟩
  have HG2 : Hid (w1.grownBy w2 none) := hg2
  have HO2 : Hid (Ords w2) := HO.out.grown0 hg2
  clear hg2 HAW
  go_wp2_with fail
  refine (words_ok s _ HO2.out ws HS.out).mono ?_
  rintro e w3 ⟨a, c, rfl, _, hg3⟩
  have HG3 : Hid (w1.grownBy w3 none) := grown_trans HG2.out hg3
  clear hg3 HG2 HO2
  unfold mishapV
  go_wp2_with fail
  obtain ⟨X, hX⟩ : ∃ X, w3.alloc (.cells #[.int .i64 0, .int .i64 0, .slice none 0 0] 30) = X := ⟨_, rfl⟩
  have HGX : Hid (w1.grownBy X none) := by rw [← hX]; exact grown_trans HG3.out (World.grownBy_alloc _ _ none)
  rw [hX]
  clear hX HG3
  have HOX : Hid (Ords X) := HO.out.grown0 HGX.out
  by_cases hz : s.size + 2 ≤ 8192
  · have HB : Hid (scanW (blanked s) = (ws, none)) := beg_ok HS.out hz
    refine (words_ok (blanked s) _ HOX.out ws HB.out).mono ?_
    rintro e w4 ⟨a4, c4, rfl, _, hg4⟩
    have HG4 : Hid (w1.grownBy w4 none) := grown_trans HGX.out hg4
    clear hg4 HGX HOX HB HS HO
    unfold mishapV
    have hw := wrap_fits (x := (s.size : Int) + 2) (by omega) (by omega)
    have hd : decide (8192 < (s.size : Int) + 2) = false := decide_eq_false (by omega)
    go_wp2_with fail
    go_ret
    exact ⟨rfl, grown_trans HG4.out (World.grownBy_alloc _ _ none)⟩
  · refine (words_both (blanked s) _ HOX.out).mono ?_
    rintro e w4 ⟨a4, c4, k4, p4, ws4, rfl, _, _, hg4⟩
    have HG4 : Hid (w1.grownBy w4 none) := grown_trans HGX.out hg4
    clear hg4 HGX HOX HS HO
    have hd : decide (8192 < (s.size : Int) + 2) = true := decide_eq_true (by omega)
    go_wp2_with fail
    go_ret
    exact ⟨rfl, grown_trans HG4.out (World.grownBy_alloc _ _ none)⟩

set_option maxRecDepth 100000 in
set_option maxHeartbeats 1000000 in
theorem begins_bad (s m : ByteArray) (w1 : World) (ws : List El) (q : Nat) (hO : Ords w1) (h : scanW s = (ws, some q)) (hs : s.size ≤ 140737488355328) (hm : m.size ≤ 140737488355328) (HAW : Hid (Calls Tryd.prog 8 #[] w1 fun e w' => e = .returned (.bool true) ∧ w1.grownBy w' none)) :
    Calls Tryd.prog 7 #[.string s, .string m] w1 fun e w' => e = .returned (.bool true) ∧ w1.grownBy w' none := by
  have HO : Hid (Ords w1) := hO
  have HS : Hid (scanW s = (ws, some q)) := h
  have hq := beg_le h
  clear hO h
  go_enter Tryd.func7, Tryd.ntmps7
  go_wp2_with fail
  refine HAW.out.mono ?_
  rintro e w2 ⟨rfl, hg2⟩
  have HG2 : Hid (w1.grownBy w2 none) := hg2
  have HO2 : Hid (Ords w2) := HO.out.grown0 hg2
  clear hg2 HAW
  go_wp2_with fail
  refine (words_bad s _ HO2.out ws q HS.out).mono ?_
  rintro e w3 ⟨rfl, hg3⟩
  have HG3 : Hid (w1.grownBy w3 none) := grown_trans HG2.out hg3
  clear hg3 HG2 HO2
  unfold mishapV
  have hn0 : decide ((q : Int) < 0) = false := decide_eq_false (by omega)
  have hn1 : decide ((s.size : Int) < (q : Int)) = false := decide_eq_false (by omega)
  have hn1' : decide (s.size < q) = false := decide_eq_false (by omega)
  by_cases hl : 8192 < s.size
  · obtain rfl : q = 8192 := beg_long HS.out hl
    have hd : decide (8192 < (s.size : Int)) = true := decide_eq_true (by omega)
    clear hn0
    go_wp2_with fail
    go_ret
    exact ⟨rfl, grown_trans HG3.out (World.grownBy_alloc _ _ none)⟩
  · have hd : decide (8192 < (s.size : Int)) = false := decide_eq_false (by omega)
    have HL : Hid (s.size ≤ 8192) := Nat.le_of_not_lt hl
    clear hl
    go_wp2_with fail
    obtain ⟨X, hX⟩ : ∃ X, w3.alloc (.cells #[.int .i64 10, .int .i64 q, .slice none 0 0] 30) = X := ⟨_, rfl⟩
    have HGX : Hid (w1.grownBy X none) := by rw [← hX]; exact grown_trans HG3.out (World.grownBy_alloc _ _ none)
    have hcX : X.cell? ⟨w3.heap.size, 1, none⟩ = some (.int .i64 q) := by rw [← hX]; exact (three_cells (heap_alloc_new w3 _)).2.1
    rw [hX]
    clear hX HG3
    have HOX : Hid (Ords X) := HO.out.grown0 HGX.out
    have hH := beg_head HS.out HL.out
    obtain ⟨hd', hHd⟩ : ∃ hd', hd' = s.extract 0 q := ⟨_, rfl⟩
    refine (words_both (s.extract 0 q) _ HOX.out).mono ?_
    rw [← hHd] at hH ⊢
    clear hHd
    rintro e w4 ⟨a4, c4, k4, p4, ws4, rfl, _, hT, hg4⟩
    have HG4 : Hid (w1.grownBy w4 none) := grown_trans HGX.out hg4
    have hc4 := hg4.cell hcX (by simp)
    have hc5 := fun o => (World.grownBy_alloc w4 o none).cell hc4 (by simp)
    obtain ⟨n4, hn4⟩ : ∃ n4, n4 = ws4.length := ⟨_, rfl⟩
    have HHS : Hid ((n4 = 0 → scanW hd' = ([], none)) ∧ k4 = 0 ∧ p4 = 0 ∨ k4 = 10 ∧ p4 = q) := by
      rcases hT with ⟨h1, h2, h3⟩ | ⟨h1, h2, ws0, q0, h4, h5⟩
      · exact .inl ⟨fun h0 => by rw [h1, List.length_eq_zero_iff.1 (hn4.symm.trans h0)], h2, h3⟩
      · rw [h4] at hH
        rcases hH with hH | hH
        · cases hH
        · cases hH
          exact .inr ⟨h2, h5⟩
    rw [← hn4]
    clear hn4 hH hT hg4 HGX HOX hcX hc4
    go_upto_region 15 with fail
    obtain ⟨Y, hY⟩ : ∃ Y, w4.alloc (.cells #[.int .i64 k4, .int .i64 p4, .slice none 0 0] 30) = Y := ⟨_, rfl⟩
    have HGY : Hid (w1.grownBy Y none) := by rw [← hY]; exact grown_trans HG4.out (World.grownBy_alloc _ _ none)
    have hcY : Y.cell? ⟨w3.heap.size, 1, none⟩ = some (.int .i64 q) := by rw [← hY]; exact hc5 _
    obtain ⟨hy0, hy1, _⟩ : Y.cell? ⟨w4.heap.size, 0, none⟩ = some (.int .i64 k4) ∧ Y.cell? ⟨w4.heap.size, 1, none⟩ = some (.int .i64 p4) ∧ Y.cell? ⟨w4.heap.size, 2, none⟩ = some (.slice none 0 0) := by rw [← hY]; exact three_cells (heap_alloc_new w4 _)
    rw [hY]
    clear hY HG4 hc5
    go_cut [84] from 75 to 84 (fun v84 wx => v84 = .bool false ∧ wx = Y)
    case first =>
      rcases HHS.out with ⟨_, rfl, rfl⟩ | ⟨rfl, rfl⟩
      · go_wp2_with fail
        go_meet
        exact ⟨rfl, rfl⟩
      · have hqq : ((q : Int) != (q : Int)) = false := by simp
        go_wp2_with fail
        go_meet
        exact ⟨rfl, rfl⟩
    case rest =>
      obtain ⟨hv84, hwc⟩ := hcut
      subst hwc
      rw [hv84]
      clear hv84
      go_upto_region 17 with fail
      go_cut [107] from 85 to 107 (fun v107 wx => v107 = .bool false ∧ wx = wc)
      case first =>
        rcases HHS.out with ⟨h1, rfl, rfl⟩ | ⟨rfl, rfl⟩
        · by_cases hn : n4 = 0
          · have h2 := h1 hn
            clear h1
            subst hn
            by_cases hz : 0 < hd'.size
            · have hix : ∀ W : World, (Instr.index 9 (.string hd') (.int .i64 0)).run Tryd.prog W = .ok (.int .u8 (chr hd' 0)) W := fun W => index_at hd' 0 hz W
              have hno := fun a b => beg_first h2 hz a b
              have hzz : decide (0 < (hd'.size : Int)) = true := decide_eq_true (by omega)
              generalize chr hd' 0 = c at *
              by_cases h32 : 32 < c
              · have h35 : c = 35 := Classical.byContradiction fun hc => hno h32 hc
                subst h35
                clear hno h32 h2
                go_wp2_with fail
                go_meet
                exact ⟨rfl, rfl⟩
              · have hcc : decide (32 < (c : Int)) = false := decide_eq_false (by omega)
                clear hno h32 h2
                go_wp2_with fail
                go_meet
                exact ⟨rfl, rfl⟩
            · have hzz : hd'.size = 0 := by omega
              clear hz h2
              go_wp2_with fail
              go_meet
              exact ⟨rfl, rfl⟩
          · have hzz : ((n4 : Int) == 0) = false := by simp; omega
            clear h1 hn
            go_wp2_with fail
            go_meet
            exact ⟨rfl, rfl⟩
        · go_wp2_with fail
          go_meet
          exact ⟨rfl, rfl⟩
      case rest =>
        obtain ⟨hv107, hwc⟩ := hcut
        subst hwc
        rw [hv107]
        clear hv107 HHS hy0 hy1
        by_cases he : q = s.size
        · have hee : ((q : Int) == (s.size : Int)) = true := by simp; omega
          have hee' : (q == s.size) = true := by simp; omega
          clear he
          go_wp2_with fail
          go_ret
          exact ⟨rfl, HGY.out⟩
        · have hee : ((q : Int) == (s.size : Int)) = false := by simp; omega
          have hlt : q + 1 ≤ s.size := by omega
          have hw := wrap_fits (x := (q : Int) + 1) (by omega) (by have := HL.out; omega)
          clear he
          go_upto_region 22 with fail
          have HOT : Hid ((s.extract 0 (q + 1) ++ m).size ≤ 8192 → (scanW (s.extract 0 (q + 1) ++ m)).2 = some q) := fun ho => beg_other HS.out HL.out (by omega) ho
          generalize s.extract 0 (q + 1) ++ m = o at *
          clear hw hee
          by_cases hz : o.size ≤ 8192
          · have hdo : decide (8192 < (o.size : Int)) = false := decide_eq_false (by omega)
            have hso := HOT.out hz
            obtain ⟨wso, hwo⟩ : ∃ wso, scanW o = (wso, some q) := ⟨(scanW o).1, by rw [← hso]⟩
            have HWO : Hid (scanW o = (wso, some q)) := hwo
            clear hwo hso HOT hz
            have HOY : Hid (Ords wc) := HO.out.grown0 HGY.out
            go_wp2_with fail
            refine (words_bad o _ HOY.out wso q HWO.out).mono ?_
            rintro e w6 ⟨rfl, hg6⟩
            have HG6 : Hid (w1.grownBy w6 none) := grown_trans HGY.out hg6
            have hc6 := hg6.cell hcY (by simp)
            have hc7 := fun o => (World.grownBy_alloc w6 o none).cell hc6 (by simp)
            clear hg6 hc6 hcY HGY HOY
            unfold mishapV
            go_wp2_with fail
            go_ret
            exact ⟨by simp, grown_trans HG6.out (World.grownBy_alloc _ _ none)⟩
          · have hdo : decide (8192 < (o.size : Int)) = true := decide_eq_true (by omega)
            clear HOT hz
            go_wp2_with fail
            go_ret
            exact ⟨rfl, HGY.out⟩

theorem begins_any (s m : ByteArray) (w : World) (hO : Ords w) (hs : s.size ≤ 140737488355328) (hm : m.size ≤ 140737488355328) : Calls Tryd.prog 7 #[.string s, .string m] w fun e w' => e = .returned (.bool true) ∧ w.grownBy w' none := by
  obtain ⟨ws, en, h⟩ : ∃ ws en, scanW s = (ws, en) := ⟨_, _, rfl⟩
  cases en with
  | none => exact begins_good s m w ws hO h hs (awake_any w hO)
  | some q => exact begins_bad s m w ws q hO h hs hm (awake_any w hO)

end Go.Proofs.YtpjckjggmcijjabDoor
