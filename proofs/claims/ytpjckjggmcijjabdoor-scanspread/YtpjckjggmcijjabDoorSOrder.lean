/-
  How a reader reads an order.
-/
import Derived.Test.YtpjckjggmcijjabDoorSWordA
import Derived.Laws.Rows
namespace Go.Proofs.YtpjckjggmcijjabDoor
open Go.RowKit

attribute [local go_sem] Oper.semAt_some

/-- The orders. -/
def ords : List ByteArray := [⟨#[37, 116, 111, 107, 101, 110]⟩, ⟨#[37, 108, 101, 102, 116]⟩, ⟨#[37, 114, 105, 103, 104, 116]⟩, ⟨#[37, 110, 111, 110, 97, 115, 115, 111, 99]⟩, ⟨#[37, 115, 116, 97, 114, 116]⟩, ⟨#[37, 112, 114, 101, 99]⟩, ⟨#[37, 110, 111, 110, 101]⟩]
def ordAt (k : Nat) : ByteArray := ords.getD k ⟨#[]⟩
/-- They lie in their variable. -/
def Ords (w : World) : Prop := ∀ j, j < 7 → w.cell? ⟨0, j, none⟩ = some (.string (ordAt j))
theorem Ords.grown {w w' : World} {r : Nat} (h : Ords w) (hg : w.grownBy w' (some r)) (hr : r ≠ 0) : Ords w' := fun j hj => hg.cell (h j hj) (by simp; omega)
theorem Ords.grown0 {w w' : World} (h : Ords w) (hg : w.grownBy w' none) : Ords w' := fun j hj => hg.cell (h j hj) (by simp)

/-- Of the first k orders the nearest one, and with how many bytes it begins. -/
def bestTo (t : List Nat) : Nat → ByteArray × Nat
  | 0 => (⟨#[]⟩, 0)
  | k + 1 => if (bestTo t k).2 < comL (bs (ordAt k)) t then (ordAt k, comL (bs (ordAt k)) t) else bestTo t k
theorem comL_le : ∀ (l m : List Nat), comL l m ≤ l.length ∧ comL l m ≤ m.length
  | [], m => by cases m <;> simp [comL]
  | a :: l, [] => by simp [comL]
  | a :: l, b :: m => by
    unfold comL
    have := comL_le l m
    split <;> simp <;> omega
theorem bestTo_le (t : List Nat) : ∀ k, (bestTo t k).2 ≤ t.length ∧ (bestTo t k).2 ≤ (bestTo t k).1.size
  | 0 => by simp [bestTo]
  | k + 1 => by
    unfold bestTo
    split
    · have := comL_le (bs (ordAt k)) t
      rw [bs_length] at this
      exact ⟨this.2, this.1⟩
    · exact bestTo_le t k
theorem ordAt_size (k : Nat) (hk : k < 7) : (ordAt k).size ≤ 9 := by
  revert k
  decide

theorem ordArr0 (w : World) : (Instr.index 69 (.agg #[.string (ordAt 0), .string (ordAt 1), .string (ordAt 2), .string (ordAt 3), .string (ordAt 4), .string (ordAt 5), .string (ordAt 6)]) (.int .i64 0)).run Tryd.prog w = .ok (.string (ordAt 0)) w := by kernel_rfl
theorem ordArr1 (w : World) : (Instr.index 69 (.agg #[.string (ordAt 0), .string (ordAt 1), .string (ordAt 2), .string (ordAt 3), .string (ordAt 4), .string (ordAt 5), .string (ordAt 6)]) (.int .i64 1)).run Tryd.prog w = .ok (.string (ordAt 1)) w := by kernel_rfl
theorem ordArr2 (w : World) : (Instr.index 69 (.agg #[.string (ordAt 0), .string (ordAt 1), .string (ordAt 2), .string (ordAt 3), .string (ordAt 4), .string (ordAt 5), .string (ordAt 6)]) (.int .i64 2)).run Tryd.prog w = .ok (.string (ordAt 2)) w := by kernel_rfl
theorem ordArr3 (w : World) : (Instr.index 69 (.agg #[.string (ordAt 0), .string (ordAt 1), .string (ordAt 2), .string (ordAt 3), .string (ordAt 4), .string (ordAt 5), .string (ordAt 6)]) (.int .i64 3)).run Tryd.prog w = .ok (.string (ordAt 3)) w := by kernel_rfl
theorem ordArr4 (w : World) : (Instr.index 69 (.agg #[.string (ordAt 0), .string (ordAt 1), .string (ordAt 2), .string (ordAt 3), .string (ordAt 4), .string (ordAt 5), .string (ordAt 6)]) (.int .i64 4)).run Tryd.prog w = .ok (.string (ordAt 4)) w := by kernel_rfl
theorem ordArr5 (w : World) : (Instr.index 69 (.agg #[.string (ordAt 0), .string (ordAt 1), .string (ordAt 2), .string (ordAt 3), .string (ordAt 4), .string (ordAt 5), .string (ordAt 6)]) (.int .i64 5)).run Tryd.prog w = .ok (.string (ordAt 5)) w := by kernel_rfl
theorem ordArr6 (w : World) : (Instr.index 69 (.agg #[.string (ordAt 0), .string (ordAt 1), .string (ordAt 2), .string (ordAt 3), .string (ordAt 4), .string (ordAt 5), .string (ordAt 6)]) (.int .i64 6)).run Tryd.prog w = .ok (.string (ordAt 6)) w := by kernel_rfl
theorem ordArr (k : Nat) (hk : k < 7) (w : World) : (Instr.index 69 (.agg #[.string (ordAt 0), .string (ordAt 1), .string (ordAt 2), .string (ordAt 3), .string (ordAt 4), .string (ordAt 5), .string (ordAt 6)]) (.int .i64 k)).run Tryd.prog w = .ok (.string (ordAt k)) w :=
  match k, hk with
  | 0, _ => ordArr0 w
  | 1, _ => ordArr1 w
  | 2, _ => ordArr2 w
  | 3, _ => ordArr3 w
  | 4, _ => ordArr4 w
  | 5, _ => ordArr5 w
  | 6, _ => ordArr6 w

set_option maxRecDepth 100000 in
theorem order_any (r : Nat) (s : ByteArray) (i : Nat) (w : World) (h : RAt w r s i false) (hO : Ords w) (hi : i ≤ s.size) (hs : s.size ≤ 10000) (near : ByteArray) (L : Nat) (hb : bestTo ((bs s).drop i) 7 = (near, L)) :
    Calls Tryd.prog 45 #[.pointer (some ⟨r, 0, none⟩)] w fun e w' => e = .returned (.string near) ∧ RAt w' r s (i + L) (decide (L < near.size) || letterB (chr s (i + L))) ∧ w.grownBy w' (some r) := by
  have o0 := hO 0 (by omega)
  have o1 := hO 1 (by omega)
  have o2 := hO 2 (by omega)
  have o3 := hO 3 (by omega)
  have o4 := hO 4 (by omega)
  have o5 := hO 5 (by omega)
  have o6 := hO 6 (by omega)
  have hLb : i + L ≤ s.size ∧ L ≤ near.size := by
    have := bestTo_le ((bs s).drop i) 7
    rw [hb, List.length_drop, bs_length] at this
    have h1 : L ≤ s.size - i := this.1
    exact ⟨by omega, this.2⟩
  have HRS : Hid (∀ W, RAt W r s i false → Calls Tryd.prog 38 #[.pointer (some ⟨r, 0, none⟩)] W fun e w' => e = .returned (.string (s.extract i s.size)) ∧ ∃ q, w' = W.drewN q) := fun W hW => rest_any r s i false W hW hi hs
  have HCM : Hid (∀ W k, k < 7 → Calls Tryd.prog 48 #[.string (ordAt k), .string (s.extract i s.size)] W fun e w' => e = .returned (.int .i64 (comL (bs (ordAt k)) ((bs s).drop i))) ∧ ∃ q, w' = W.drewN q) := fun W k hk => by
    have := common_any (ordAt k) (s.extract i s.size) W (by have := ordAt_size k hk; omega)
    rwa [bs_rest] at this
  have HST : Hid (∀ k, bestTo ((bs s).drop i) (k + 1) = if (bestTo ((bs s).drop i) k).2 < comL (bs (ordAt k)) ((bs s).drop i) then (ordAt k, comL (bs (ordAt k)) ((bs s).drop i)) else bestTo ((bs s).drop i) k) := fun k => rfl
  have HCB : Hid (∀ k, comL (bs (ordAt k)) ((bs s).drop i) ≤ 10000) := fun k => by
    have := (comL_le (bs (ordAt k)) ((bs s).drop i)).2
    rw [List.length_drop, bs_length] at this
    omega
  have hB0 : bestTo ((bs s).drop i) 0 = (⟨#[]⟩, 0) := rfl
  have HSE : Hid (∀ W, RAt W r s (i + L) false → Calls Tryd.prog 40 #[.pointer (some ⟨r, 0, none⟩), .func (.func 34) #[] #[]] W fun e w' => e = .returned (.bool (letterB (chr s (i + L)))) ∧ ∃ q, w' = W.drewN q) := fun W hW => sees_letter r s (i + L) false W hW hLb.1 hs
  generalize hcm : (fun k => comL (bs (ordAt k)) ((bs s).drop i)) = cm at *
  have hcm' : ∀ k, comL (bs (ordAt k)) ((bs s).drop i) = cm k := fun k => by rw [← hcm]
  simp only [hcm'] at HCM HST HCB
  generalize bestTo ((bs s).drop i) = best at *
  obtain ⟨bn, hbn⟩ : ∃ bn : Nat → ByteArray, ∀ k, bn k = (best k).1 := ⟨fun k => (best k).1, fun _ => rfl⟩
  obtain ⟨bl, hbl⟩ : ∃ bl : Nat → Nat, ∀ k, bl k = (best k).2 := ⟨fun k => (best k).2, fun _ => rfl⟩
  have HB : Hid (bn 7 = near ∧ bl 7 = L) := by refine ⟨?_, ?_⟩ <;> simp [hbn, hbl, hb]
  have HB0 : Hid (bn 0 = ⟨#[]⟩ ∧ bl 0 = 0) := by refine ⟨?_, ?_⟩ <;> simp [hbn, hbl, hB0]
  have HS1 : Hid (∀ k, bl k < cm k → bn (k + 1) = ordAt k ∧ bl (k + 1) = cm k) := fun k hk => by
    rw [hbl] at hk
    rw [hbn, hbl, HST.out k, if_pos hk]
    exact ⟨rfl, rfl⟩
  have HS2 : Hid (∀ k, ¬ bl k < cm k → bn (k + 1) = bn k ∧ bl (k + 1) = bl k) := fun k hk => by
    rw [hbl] at hk
    rw [hbn, hbl, HST.out k, if_neg hk, hbn, hbl]
    exact ⟨rfl, rfl⟩
  clear hbn hbl
  have HA : Hid (RAt w r s i false) := h
  generalize s.extract i s.size = t at *
  generalize letterB (chr s (i + L)) = v at *
  clear hb h hO hcm hcm' hB0 HST
  go_enter Tryd.func45, Tryd.ntmps45
  go_wp2_with fail
  clear o0 o1 o2 o3 o4 o5 o6
  go_loopw [9, 3, 4] (fun i v3 v4 wr => ∃ k : Nat, k ≤ 7 ∧ i = .int .i64 k ∧ v3 = .string (bn k) ∧ v4 = .int .i64 (bl k) ∧ ∃ q, wr = w.drewN q) (fun i _ _ _ => 7 - (intOf i).toNat)
  case atStart => exact ⟨0, Nat.zero_le _, rfl, by rw [HB0.out.1], by rw [HB0.out.2]; rfl, 0, rfl⟩
  case round =>
    obtain ⟨k, hk, rfl, rfl, rfl, q, hq⟩ := hrel
    have HW : Hid (wr = w.drewN q) := hq
    clear hq
    by_cases hlt : k < 7
    · have hix := ordArr k hlt
      have hcb := HCB.out k
      have hcc := fun W => HCM.out W k hlt
      have HCC : Hid (∀ W, Calls Tryd.prog 48 #[.string (ordAt k), .string t] W fun e w' => e = .returned (.int .i64 (cm k)) ∧ ∃ q, w' = W.drewN q) := hcc
      have H1 := HS1.out k
      have H2 := HS2.out k
      have HAk : Hid (RAt wr r s i false) := by rw [HW.out]; exact HA.out.drewN q
      clear hcc
      generalize ordAt k = ok at *
      generalize cm k = c at *
      generalize bn k = nk at *
      generalize bl k = lk at *
      by_cases hc : lk < c
      · have HN : Hid (bn (k + 1) = ok ∧ bl (k + 1) = c) := H1 hc
        have hd : decide (lk < c) = true := decide_eq_true hc
        clear H1 H2
        go_wp2_with fail
        refine (HRS.out _ HAk.out).mono ?_
        rintro e w1 ⟨rfl, q1, hw1⟩
        have HW1 : Hid (w1 = w.drewN (q + q1)) := by show _ = _; rw [hw1, HW.out]; simp
        clear hw1
        go_wp2_with fail
        refine (HCC.out _).mono ?_
        rintro e w2 ⟨rfl, q2, hw2⟩
        have HW2 : Hid (w2 = w.drewN (q + q1 + q2)) := by show _ = _; rw [hw2, HW1.out]; simp
        clear hw2
        go_wp2_with fail
        go_roundw
        case rel => exact ⟨k + 1, by omega, by go_num, by rw [HN.out.1], by rw [HN.out.2], _, HW2.out⟩
        case measure => simp [intOf]; omega
      · have HN : Hid (bn (k + 1) = nk ∧ bl (k + 1) = lk) := H2 hc
        have hd : decide (lk < c) = false := decide_eq_false hc
        clear H1 H2
        go_wp2_with fail
        refine (HRS.out _ HAk.out).mono ?_
        rintro e w1 ⟨rfl, q1, hw1⟩
        have HW1 : Hid (w1 = w.drewN (q + q1)) := by show _ = _; rw [hw1, HW.out]; simp
        clear hw1
        go_wp2_with fail
        refine (HCC.out _).mono ?_
        rintro e w2 ⟨rfl, q2, hw2⟩
        have HW2 : Hid (w2 = w.drewN (q + q1 + q2)) := by show _ = _; rw [hw2, HW1.out]; simp
        clear hw2
        go_wp2_with fail
        go_roundw
        case rel => exact ⟨k + 1, by omega, by go_num, by rw [HN.out.1], by rw [HN.out.2], _, HW2.out⟩
        case measure => simp [intOf]; omega
    · obtain rfl : k = 7 := by omega
      rw [HB.out.1, HB.out.2]
      have HA1 : Hid (RAt wr r s i false) := by rw [HW.out]; exact HA.out.drewN q
      have HG1 : Hid (w.grownBy wr none) := by rw [HW.out]; exact grown_drewN _ _
      clear HA HW HB HS1 HS2 HCM HCB HRS hlt hk
      obtain ⟨c0, c1, c2⟩ := HA1.out.cells
      have f1 := HA1.out.free 1
      have f2 := HA1.out.free 2
      have HA2 : Hid (RAt (wr.setCell ⟨r, 1, none⟩ (.int .i64 ((i : Int) + L))) r s (i + L) false) := HA1.out.setAt (i + L)
      have HG2 : Hid (w.grownBy (wr.setCell ⟨r, 1, none⟩ (.int .i64 ((i : Int) + L))) (some r)) := grown_trans (grown_but _ HG1.out) (grown_setCell r 1 _)
      obtain ⟨hL1, hL2⟩ := hLb
      by_cases hsh : L < near.size
      · have hd : decide ((L : Int) < (near.size : Int)) = true := decide_eq_true (by omega)
        have hd' : decide (L < near.size) = true := decide_eq_true hsh
        go_wp2_with fail
        go_ret
        refine ⟨rfl, ?_, grown_trans HG2.out (grown_setCell r 2 _)⟩
        rw [hd']
        exact HA2.out.setBad true
      · have hd : decide ((L : Int) < (near.size : Int)) = false := decide_eq_false (by omega)
        have hd' : decide (L < near.size) = false := decide_eq_false hsh
        go_wp2_with fail
        generalize wr.setCell ⟨r, 1, none⟩ (.int .i64 ((i : Int) + L)) = w3 at *
        refine (HSE.out _ HA2.out).mono ?_
        rintro e w4 ⟨rfl, q4, hw4⟩
        have HA4 : Hid (RAt w4 r s (i + L) false) := by rw [hw4]; exact HA2.out.drewN q4
        have HG4 : Hid (w.grownBy w4 (some r)) := by rw [hw4]; exact grown_trans HG2.out (grown_but _ (grown_drewN _ _))
        clear hw4 HA2 HG2 HSE HA1 HG1 c0 c1 c2 f1 f2
        obtain ⟨c0, c1, c2⟩ := HA4.out.cells
        have f2 := HA4.out.free 2
        go_wp2_with fail
        go_ret
        refine ⟨rfl, ?_, grown_trans HG4.out (grown_setCell r 2 _)⟩
        rw [hd', Bool.false_or]
        exact HA4.out.setBad v

end Go.Proofs.YtpjckjggmcijjabDoor
