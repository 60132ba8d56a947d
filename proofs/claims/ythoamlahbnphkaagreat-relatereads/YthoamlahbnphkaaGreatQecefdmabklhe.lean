import Derived.Test.YthoamlahbnphkaaGreatQagennkafiinf
import Derived.Test.YthoamlahbnphkaaGreatQhkgignmplmlj
import Derived.Test.YthoamlahbnphkaaGreatQfpejkjhamhib

/-
  first: foundOf: all that is to be found.
-/
namespace Go.Proofs.YthoamlahbnphkaaGreat
open Go.RowKit Go.Maps Go.Shelf

attribute [local go_sem] Oper.semAt_some

theorem made_rowK {w1 : World} {B g n : Nat} {t : TypeId} {z : Value} (hz : z.cells = #[z]) (h : w1.ownsRow B t 1 (.slice (some ⟨g, 0, none⟩) n n) n (madeCells z.cells (n * 1)).toList) : ValAt w1 g n t (fun _ => z) := by
  rcases h.2 with ⟨h', _⟩ | ⟨g', cap, cur, hv, _, hh, _, _, hs, ht⟩
  · cases h'
  · simp only [Value.slice.injEq, Option.some.injEq, Addr.mk.injEq, and_true, true_and] at hv
    obtain ⟨rfl, rfl⟩ := hv
    have e : cur = ((List.range n).map fun _ => z).toArray := by
      apply Array.ext'
      rw [show cur.toList = cur.toList.take (n * 1) by rw [List.take_of_length_le (by simp; omega)], ht]
      rw [hz, toList_madeCells_one, Nat.mul_one]
      rw [List.map_const', List.length_range]
    unfold ValAt
    rw [hh, e]

/-- The answer of foundOf. -/
def FoundTold (tn S n : Nat) (L : Nat → Int) (R : Nat → List Int) (w : World) (e : Ending) (y : World) : Prop :=
  ∃ vb fb f v m, e = .returned (.agg #[.int .i64 (tn : Int), .pointer (some ⟨vb, 0, none⟩), .slice (some ⟨fb, 0, none⟩) S S]) ∧ FAt y w.heap.size y.heap.size tn S fb vb f v m ∧ Found tn n L R v m ∧ w.grownBy y none

set_option maxRecDepth 100000 in
set_option maxHeartbeats 2000000 in
theorem foundOf_any (ta na la : Option Addr) (tn nn ln n tc nc lc pc S bp op : Nat) (st : Int) (L : Nat → Int) (R : Nat → List Int) (ra : Nat → Option Addr) (rc : Nat → Nat) (w : World) (hS : S = tn + nn) (hz : S ≤ 1024) (hn : n ≤ 1000)
    (hP : ∀ k, k < n → w.cell? ⟨bp, op + k * 3, none⟩ = some (.int .i64 (L k)) ∧ w.cell? ⟨bp, op + k * 3 + 1, none⟩ = some (.slice (ra k) (R k).length (rc k)) ∧ IntsAt w (ra k) (R k) ∧ (R k).length ≤ 17592186044416)
    (hL : ∀ k, k < n → (0 : Int) ≤ L k ∧ L k < (S : Int)) (hR : ∀ k, k < n → ∀ x ∈ R k, (0 : Int) ≤ x ∧ x < (S : Int)) :
    Calls Tryz.prog 67 #[.agg #[.slice ta tn tc, .slice na nn nc, .slice la ln lc, .int .i64 st, .slice (some ⟨bp, op, none⟩) n pc]] w fun e y => FoundTold tn S n L R w e y := by
  have HNO : Hid (∀ X, Calls Tryz.prog 100 #[.agg #[.slice ta tn tc, .slice na nn nc, .slice la ln lc, .int .i64 st, .slice (some ⟨bp, op, none⟩) n pc]] X fun e w' => ∃ vb fb f, e = .returned (.agg #[.int .i64 (tn : Int), .pointer (some ⟨vb, 0, none⟩), .slice (some ⟨fb, 0, none⟩) S S]) ∧ FAt w' X.heap.size w'.heap.size tn S fb vb f 0 (fun i => if i < tn then 2 ^ i else 0) ∧ X.grownBy w' none) := fun X => nothing_any ta na la (some ⟨bp, op, none⟩) tn nn ln n tc nc lc pc S st X hS hz
  have HUN : Hid (∀ k, k < n → ∀ X, w.grownBy X none → Calls Tryz.prog 101 #[.agg #[.slice ta tn tc, .slice na nn nc, .slice la ln lc, .int .i64 st, .slice (some ⟨bp, op, none⟩) n pc], .slice (ra k) (R k).length (rc k)] X fun e y => UnlTold (R k) X e y) := fun k hk X hX => unlike_any ta na la (some ⟨bp, op, none⟩) (ra k) tn nn ln n tc nc lc pc (rc k) S st (R k) X hS hz ((hP k hk).2.2.1.kept hX) (hP k hk).2.2.2 (hR k hk)
  have hts : tn ≤ 1024 := by omega
  have HP : Hid (∀ k, k < n → ∀ X, w.grownBy X none → X.cell? ⟨bp, op + k * 3, none⟩ = some (.int .i64 (L k)) ∧ X.cell? ⟨bp, op + k * 3 + 1, none⟩ = some (.slice (ra k) (R k).length (rc k))) := fun k hk X hX => ⟨hX.cell (hP k hk).1 (by simp), hX.cell (hP k hk).2.1 (by simp)⟩
  have HL : Hid (∀ k, k < n → (0 : Int) ≤ L k ∧ L k < (S : Int)) := hL
  have HR : Hid (∀ k, k < n → ∀ x ∈ R k, (0 : Int) ≤ x ∧ x < (S : Int)) := hR
  have HRL : Hid (∀ k, k < n → (R k).length ≤ 17592186044416) := fun k hk => (hP k hk).2.2.2
  obtain ⟨Y, hY⟩ : ∃ Y, Y = (w.alloc (.cells #[.slice ta tn tc, .slice na nn nc, .slice la ln lc, .int .i64 st, .slice (some ⟨bp, op, none⟩) n pc] 27)).alloc (.cells #[.int .i64 0, .pointer none, .slice none 0 0] 126) := ⟨_, rfl⟩
  have hYg : w.grownBy Y none := by rw [hY]; exact grown_trans (World.grownBy_alloc _ _ none) (World.grownBy_alloc _ _ none)
  have HYS : Hid (Y.heap.size = w.heap.size + 1 + 1) := by show _ = _; rw [hY]; simp
  have HPH : Hid (PhAt w Y w.heap.size #[.slice ta tn tc, .slice na nn nc, .slice la ln lc, .int .i64 st, .slice (some ⟨bp, op, none⟩) n pc]) := ⟨hYg, by rw [hY]; exact ((World.grownBy_alloc (w.alloc _) _ none).block _ (by simp) (by simp)).trans (heap_alloc_last w _)⟩
  have HRB : Hid (Y.heap[w.heap.size + 1]? = some (.cells #[.int .i64 0, .pointer none, .slice none 0 0] 126 (0, 0))) := by
    show _ = _
    have h := heap_alloc_last (w.alloc (.cells #[.slice ta tn tc, .slice na nn nc, .slice la ln lc, .int .i64 st, .slice (some ⟨bp, op, none⟩) n pc] 27)) (.cells #[.int .i64 0, .pointer none, .slice none 0 0] 126)
    rw [World.size_alloc] at h
    rw [hY]; exact h
  have HY : Hid (Y = (w.alloc (.cells #[.slice ta tn tc, .slice na nn nc, .slice la ln lc, .int .i64 st, .slice (some ⟨bp, op, none⟩) n pc] 27)).alloc (.cells #[.int .i64 0, .pointer none, .slice none 0 0] 126)) := hY
  obtain ⟨i0, hi0, hz0, hz1, hz2⟩ := info_parts infoInts
  clear hP hL hR hYg hS
  obtain ⟨k0, k1, k2, k3, k4⟩ := HPH.out.cells
  rw [hY] at k0 k1 k2 k3 k4
  clear hY
  go_enter Tryz.func67, Tryz.ntmps67
  go_wp2_with fail
  rw [← HY.out]
  refine Calls.mono (HNO.out Y) ?_
  rintro e w1 ⟨vb, fb, f, rfl, hF1, hg1⟩
  clear HY k0 k1 k2 k3 k4
  obtain ⟨kb, hkb⟩ : ∃ kb, kb = w1.heap.size := ⟨_, rfl⟩
  obtain ⟨X1, hX1⟩ : ∃ X1, X1 = w1.alloc (.cells #[.int .i64 (tn : Int), .pointer (some ⟨vb, 0, none⟩), .slice (some ⟨fb, 0, none⟩) S S] 126) := ⟨_, rfl⟩
  have hgb : w1.grownBy X1 none := by rw [hX1]; exact World.grownBy_alloc _ _ none
  have HF1 : Hid (FAt X1 Y.heap.size kb tn S fb vb f 0 (fun i => if i < tn then 2 ^ i else 0)) := by
    show FAt _ _ _ _ _ _ _ _ _ _
    rw [hkb]; exact hF1.kept hgb
  have HBX : Hid (X1.heap[kb]? = some (.cells #[.int .i64 (tn : Int), .pointer (some ⟨vb, 0, none⟩), .slice (some ⟨fb, 0, none⟩) S S] 126 (0, 0))) := by show _ = _; rw [hX1, hkb]; exact heap_alloc_last w1 _
  have HPX : Hid (PhAt w X1 w.heap.size #[.slice ta tn tc, .slice na nn nc, .slice la ln lc, .int .i64 st, .slice (some ⟨bp, op, none⟩) n pc]) := HPH.out.kept (grown_trans hg1 hgb)
  have HRX : Hid (X1.heap[w.heap.size + 1]? = some (.cells #[.int .i64 0, .pointer none, .slice none 0 0] 126 (0, 0))) := boxKept HRB.out (grown_trans hg1 hgb)
  have HSZ : Hid (w.heap.size + 1 < Y.heap.size ∧ Y.heap.size ≤ kb ∧ X1.heap.size = kb + 1) := ⟨by have := HYS.out; omega, by rw [hkb]; exact hg1.size, by rw [hX1, hkb]; simp⟩
  obtain ⟨k0, k1, k2, k3, k4⟩ := HPX.out.cells
  rw [hX1] at k0 k1 k2 k3 k4
  have HXE := show Hid _ from hX1
  have HKE := show Hid _ from hkb
  clear hF1 hg1 hgb hX1 hkb HPH HRB HYS HNO
  go_wp2_with (at_make; refine wpList_make_full _ rfl _ _ 30 rfl (w1.heap.size + 1) 24 i0 (.slice none 0 0) 1 Tryz.underlying30 hi0 hz0 hz1 .i64 .i64 _ _ n rfl rfl (by simp) (by simp) (by rw [hz2]; omega) (by unfold maxLen; omega) (by simp) ?_)
  intro w2 hown hgrow
  rw [← HXE.out] at hgrow
  rw [← HKE.out] at hown
  rw [← HKE.out]
  have hval : ValAt w2 (kb + 1) n 24 (fun _ => .slice none 0 0) := made_rowK (B := kb + 1) rfl (by simpa [Value.cells] using hown)
  obtain ⟨m0, hm0⟩ : ∃ m0 : Nat → Nat, m0 = fun i => if i < tn then 2 ^ i else 0 := ⟨_, rfl⟩
  have HSO : Hid (Sound tn n L R 0 m0) := by show Sound _ _ _ _ _ _; rw [hm0]; exact sound_start tn n L R
  rw [← hm0] at HF1
  have hfo : FoAt w w2 #[.slice ta tn tc, .slice na nn nc, .slice la ln lc, .int .i64 st, .slice (some ⟨bp, op, none⟩) n pc] tn S n kb vb fb (kb + 1) Y.heap.size kb f 0 m0 0 R (fun _ => none) (fun _ => 0) := ⟨grown_trans HPX.out.grown hgrow, (HPX.out.kept hgrow).box, (boxKept HRX.out hgrow).out, (boxKept HBX.out hgrow).out, HF1.out.kept hgrow, by simpa using hval, fun i hi => absurd hi (Nat.not_lt_zero _), ⟨HSZ.out.1, HSZ.out.2.1, Nat.le_refl _, by omega, by omega, by have := hgrow.size; have := HSZ.out.2.2; omega⟩⟩
  obtain ⟨rb, hrb⟩ : ∃ rb, rb = kb + 1 := ⟨_, rfl⟩
  rw [← hrb] at hfo
  rw [← hrb]
  obtain ⟨lo, hlo⟩ : ∃ lo, lo = Y.heap.size := ⟨_, rfl⟩
  rw [← hlo] at hfo
  have HFO := show Hid _ from hfo
  have HBP : Hid (∀ k, k < n → bp < w.heap.size) := fun k hk => World.block_lt_of_cell? w _ (HP.out k hk w (grown_refl _ _)).1
  clear hown hgrow hval hm0 hfo hrb hlo HXE HKE HPX HRX HBX HF1 HSZ k0 k1 k2 k3 k4 hi0 hz0 hz1 hz2
  obtain ⟨k0, k1, k2, k3, k4⟩ := HFO.out.ph.cells
  go_wp2_with fail
  clear k0 k1 k2 k3 k4
  go_loopg [17] n (fun gk i wr => ∃ (k : Nat) (ua : Nat → Option Addr) (uc : Nat → Nat), k ≤ n ∧ gk = n - k ∧ i = .int .i64 k ∧ FoAt w wr #[.slice ta tn tc, .slice na nn nc, .slice la ln lc, .int .i64 st, .slice (some ⟨bp, op, none⟩) n pc] tn S n kb vb fb rb lo kb f 0 m0 k R ua uc)
  case atStart => exact ⟨0, _, _, Nat.zero_le _, rfl, rfl, HFO.out⟩
  case round =>
    obtain ⟨k, ua, uc, hk, hgk, rfl, hF⟩ := hrel
    have HGK : Hid (gk = n - k) := hgk
    have HF : Hid (FoAt w wr #[.slice ta tn tc, .slice na nn nc, .slice la ln lc, .int .i64 st, .slice (some ⟨bp, op, none⟩) n pc] tn S n kb vb fb rb lo kb f 0 m0 k R ua uc) := hF
    clear hgk hF HFO
    by_cases hlt : k < n
    · have hk0 : (0 : Int) ≤ (k : Int) := by omega
      have hk1 : (k : Int) < (n : Int) := by omega
      have hkd : decide (k < n) = true := decide_eq_true hlt
      have HKS : Hid (∀ x, wr.grownBy x none → (x.cell? ⟨w.heap.size, 0, none⟩ = some (.slice ta tn tc) ∧ x.cell? ⟨w.heap.size, 1, none⟩ = some (.slice na nn nc) ∧ x.cell? ⟨w.heap.size, 2, none⟩ = some (.slice la ln lc) ∧ x.cell? ⟨w.heap.size, 3, none⟩ = some (.int .i64 st) ∧ x.cell? ⟨w.heap.size, 4, none⟩ = some (.slice (some ⟨bp, op, none⟩) n pc)) ∧ x.cell? ⟨bp, op + k * 3 + 1, none⟩ = some (.slice (ra k) (R k).length (rc k))) := fun x hx => ⟨(HF.out.ph.kept hx).cells, (HP.out k hlt x (grown_trans HF.out.grown hx)).2⟩
      have HG0 : Hid (wr.grownBy wr.drew none) := grown_drewN _ 1
      go_wp2_with fail
      go_region_held3 (fun x => (x.cell? ⟨w.heap.size, 0, none⟩ = some (.slice ta tn tc) ∧ x.cell? ⟨w.heap.size, 1, none⟩ = some (.slice na nn nc) ∧ x.cell? ⟨w.heap.size, 2, none⟩ = some (.slice la ln lc) ∧ x.cell? ⟨w.heap.size, 3, none⟩ = some (.int .i64 st) ∧ x.cell? ⟨w.heap.size, 4, none⟩ = some (.slice (some ⟨bp, op, none⟩) n pc)) ∧ x.cell? ⟨bp, op + k * 3 + 1, none⟩ = some (.slice (ra k) (R k).length (rc k))) (first | exact HKS.out _ HG0.out | exact HKS.out _ HG5.out | exact HST.out _ | go_keep)
        ((first
          | (go_at_call 101; refine Calls.mono (HUN.out k hlt _ (grown_trans HF.out.grown HG0.out)) ?_; rintro e w5 ⟨a5, c5, rfl, hO5, hg5⟩; have HG5 : Hid (wr.grownBy w5 none) := grown_trans HG0.out hg5; have HR5 : Hid (RowIn w5 a5 (unl (R k)) kb) := RowIn.of hO5 (Nat.le_trans HF.out.lo.2.2.2.2.2 HG0.out.size); have y0 := (HF.out.kept HG5.out).row.cell k hlt; have y1 := (HF.out.kept HG5.out).row.free k; rw [if_neg (Nat.lt_irrefl k)] at y0; have HST : Hid (∀ v, (fun x => (x.cell? ⟨w.heap.size, 0, none⟩ = some (.slice ta tn tc) ∧ x.cell? ⟨w.heap.size, 1, none⟩ = some (.slice na nn nc) ∧ x.cell? ⟨w.heap.size, 2, none⟩ = some (.slice la ln lc) ∧ x.cell? ⟨w.heap.size, 3, none⟩ = some (.int .i64 st) ∧ x.cell? ⟨w.heap.size, 4, none⟩ = some (.slice (some ⟨bp, op, none⟩) n pc)) ∧ x.cell? ⟨bp, op + k * 3 + 1, none⟩ = some (.slice (ra k) (R k).length (rc k))) (w5.setCell ⟨rb, k, none⟩ v)) := (fun v => by { have h1 := HKS.out _ HG5.out; have h2 := HF.out.lo; have h3 := HBP.out k hlt; have G := grown_setCell (w := w5) rb k v; exact ⟨⟨G.cell h1.1.1 (by simp; omega), G.cell h1.1.2.1 (by simp; omega), G.cell h1.1.2.2.1 (by simp; omega), G.cell h1.1.2.2.2.1 (by simp; omega), G.cell h1.1.2.2.2.2 (by simp; omega)⟩, G.cell h1.2 (by simp; omega)⟩ }); clear hO5 hg5)
          | fail))
      go_wp2_with fail
      go_roundg (n - (k + 1))
      case measure => have := HGK.out; omega
      case rel => exact ⟨k + 1, _, _, by omega, rfl, by go_num, (HF.out.kept HG5.out).push HR5.out⟩
    · have hkn : n = k := by omega
      subst hkn
      have hkd : decide (n < n) = false := decide_eq_false (by omega)
      clear HGK
      generalize wr = w3 at *
      go_wp2_with fail
      go_loopg [6] (2 * (1024 * (S + 1) - tot S 0 m0) + 1) (fun gk v6 wr => ∃ (z v : Nat) (m : Nat → Nat), v6 = .int .i64 (z : Int) ∧ z ≤ 1024 * (S + 1) ∧ gk = 2 * (1024 * (S + 1) - tot S v m) + (if z = 0 then 0 else 1) ∧ Sound tn n L R v m ∧ (z = 0 → ∀ j, j < n → ClosedAt L R v m j) ∧ FoAt w wr #[.slice ta tn tc, .slice na nn nc, .slice la ln lc, .int .i64 st, .slice (some ⟨bp, op, none⟩) n pc] tn S n kb vb fb rb lo kb f v m n R ua uc)
      case atStart => exact ⟨1, 0, m0, rfl, by omega, rfl, HSO.out, fun h => by omega, HF.out⟩
      case round =>
        obtain ⟨z, v, m, rfl, hzb, hgk, hso, hcl, hF⟩ := hrel
        have HGK : Hid (gk = 2 * (1024 * (S + 1) - tot S v m) + (if z = 0 then 0 else 1)) := hgk
        have HSV : Hid (Sound tn n L R v m) := hso
        have HCV : Hid (z = 0 → ∀ j, j < n → ClosedAt L R v m j) := hcl
        have HFV : Hid (FoAt w wr #[.slice ta tn tc, .slice na nn nc, .slice la ln lc, .int .i64 st, .slice (some ⟨bp, op, none⟩) n pc] tn S n kb vb fb rb lo kb f v m n R ua uc) := hF
        clear hgk hso hcl hF HF
        by_cases hz0 : z = 0
        · subst hz0
          obtain ⟨⟨b0, b1, b2⟩, f0, f1, f2⟩ := box3 HFV.out.box
          obtain ⟨⟨r0, r1, r2⟩, g0, g1, g2⟩ := box3 HFV.out.res
          go_wp2_with fail
          refine bodyPost_ret (v := .agg #[.int .i64 (tn : Int), .pointer (some ⟨vb, 0, none⟩), .slice (some ⟨fb, 0, none⟩) S S]) (results_cell_row (fr := (0, 0)) rfl _ _ (w.heap.size + 1) 126 #[.int .i64 (tn : Int), .pointer (some ⟨vb, 0, none⟩), .slice (some ⟨fb, 0, none⟩) S S] _ rfl (by rw [heap_setCell_same _ _ _ _ _ _ (heap_setCell_same _ _ _ _ _ _ (heap_setCell_same _ _ _ _ _ _ HFV.out.res))]; rfl) Tryz.underlying126 rfl infoFound) rfl ⟨vb, fb, f, v, m, rfl, (HFV.out.told _ _ _).1, found_of HSV.out (HCV.out (by trivial)), (HFV.out.told _ _ _).2⟩
        · have hd1 : decide ((0 : Int) < (z : Int)) = true := decide_eq_true (by omega)
          have hd2 : decide (0 < z) = true := decide_eq_true (by omega)
          have HZ0 : Hid (¬ z = 0) := hz0
          clear hz0
          obtain ⟨k0, k1, k2, k3, k4⟩ := HFV.out.ph.cells
          generalize wr = w4 at *
          go_wp2_with fail
          clear k0 k1 k2 k3 k4
          go_loopg [6, 37] n (fun gk v6 i wr => ∃ (k z' v' : Nat) (m' : Nat → Nat), k ≤ n ∧ gk = n - k ∧ v6 = .int .i64 (z' : Int) ∧ i = .int .i64 k ∧ tot S v' m' = tot S v m + z' ∧ Sound tn n L R v' m' ∧ (z' = 0 → v' = v ∧ m' = m ∧ ∀ j, j < k → ClosedAt L R v m j) ∧ FoAt w wr #[.slice ta tn tc, .slice na nn nc, .slice la ln lc, .int .i64 st, .slice (some ⟨bp, op, none⟩) n pc] tn S n kb vb fb rb lo kb f v' m' n R ua uc)
          case atStart => exact ⟨0, 0, v, m, Nat.zero_le _, rfl, rfl, rfl, (Nat.add_zero _).symm, HSV.out, fun _ => ⟨rfl, rfl, fun j hj => absurd hj (Nat.not_lt_zero _)⟩, HFV.out⟩
          case round =>
            obtain ⟨k, z', v', m', hk, hgk2, rfl, rfl, htot, hso, hcl, hF⟩ := hrel
            have HGI : Hid (gk = n - k) := hgk2
            have HTO : Hid (tot S v' m' = tot S v m + z') := htot
            have HSI : Hid (Sound tn n L R v' m') := hso
            have HCI : Hid (z' = 0 → v' = v ∧ m' = m ∧ ∀ j, j < k → ClosedAt L R v m j) := hcl
            have HFI : Hid (FoAt w wr #[.slice ta tn tc, .slice na nn nc, .slice la ln lc, .int .i64 st, .slice (some ⟨bp, op, none⟩) n pc] tn S n kb vb fb rb lo kb f v' m' n R ua uc) := hF
            have hzb' : z' ≤ 1049600 := by have := tot_le S v' m'; omega
            clear hgk2 htot hso hcl hF
            by_cases hlt : k < n
            · have hk0 : (0 : Int) ≤ (k : Int) := by omega
              have hk1 : (k : Int) < (n : Int) := by omega
              have hkd : decide (k < n) = true := decide_eq_true hlt
              have hLk := HL.out k hlt
              obtain ⟨x0, hx0⟩ : ∃ x : Nat, L k = (x : Int) := ⟨(L k).toNat, by omega⟩
              have HX0 : Hid (L k = (x0 : Int)) := hx0
              rw [hx0] at hLk
              have hxS : x0 < S := by omega
              obtain ⟨ul, hul⟩ : ∃ u, u = (unl (R k)).length := ⟨_, rfl⟩
              have HKS : Hid (∀ x, FoAt w x #[.slice ta tn tc, .slice na nn nc, .slice la ln lc, .int .i64 st, .slice (some ⟨bp, op, none⟩) n pc] tn S n kb vb fb rb lo kb f (stV v' x0 (R k)) (stB v' m' x0 (R k)) n R ua uc ∨ wr.grownBy x none → (x.cell? ⟨kb, 0, none⟩ = some (.int .i64 (tn : Int)) ∧ x.cell? ⟨kb, 1, none⟩ = some (.pointer (some ⟨vb, 0, none⟩)) ∧ x.cell? ⟨kb, 2, none⟩ = some (.slice (some ⟨fb, 0, none⟩) S S)) ∧ x.cell? ⟨w.heap.size, 4, none⟩ = some (.slice (some ⟨bp, op, none⟩) n pc) ∧ x.cell? ⟨bp, op + k * 3, none⟩ = some (.int .i64 (x0 : Int)) ∧ x.cell? ⟨rb, k, none⟩ = some (.slice (ua k) ul (uc k))) := fun x hx => by
                have key : ∀ v1 m1, FoAt w x #[.slice ta tn tc, .slice na nn nc, .slice la ln lc, .int .i64 st, .slice (some ⟨bp, op, none⟩) n pc] tn S n kb vb fb rb lo kb f v1 m1 n R ua uc → (x.cell? ⟨kb, 0, none⟩ = some (.int .i64 (tn : Int)) ∧ x.cell? ⟨kb, 1, none⟩ = some (.pointer (some ⟨vb, 0, none⟩)) ∧ x.cell? ⟨kb, 2, none⟩ = some (.slice (some ⟨fb, 0, none⟩) S S)) ∧ x.cell? ⟨w.heap.size, 4, none⟩ = some (.slice (some ⟨bp, op, none⟩) n pc) ∧ x.cell? ⟨bp, op + k * 3, none⟩ = some (.int .i64 (x0 : Int)) ∧ x.cell? ⟨rb, k, none⟩ = some (.slice (ua k) ul (uc k)) := fun v1 m1 h => by
                  have h2 := h.row.cell k hlt
                  rw [if_pos hlt, ← hul] at h2
                  exact ⟨(box3 h.box).1, h.ph.cells.2.2.2.2, by rw [← hx0]; exact (HP.out k hlt x h.grown).1, h2⟩
                rcases hx with h | h
                · exact key _ _ h
                · exact key _ _ (HFI.out.kept h)
              have HG0 : Hid (wr.grownBy wr.drew none) := grown_drewN _ 1
              have HAD : Hid (Calls Tryz.prog 102 #[.agg #[.int .i64 (tn : Int), .pointer (some ⟨vb, 0, none⟩), .slice (some ⟨fb, 0, none⟩) S S], .int .i64 (x0 : Int), .slice (ua k) ul (uc k)] wr.drew fun e y => ∃ zz : Nat, e = .returned (.int .i64 (zz : Int)) ∧ FoAt w y #[.slice ta tn tc, .slice na nn nc, .slice la ln lc, .int .i64 st, .slice (some ⟨bp, op, none⟩) n pc] tn S n kb vb fb rb lo kb f (stV v' x0 (R k)) (stB v' m' x0 (R k)) n R ua uc ∧ tot S (stV v' x0 (R k)) (stB v' m' x0 (R k)) = tot S v' m' + zz) := by
                have h1 := HFI.out.kept HG0.out
                rw [hul]
                refine (addF_any lo kb tn S fb vb x0 f v' m' (ua k) (uc k) (unl (R k)) wr.drew h1.fat (h1.rows k hlt).ints (Nat.le_trans (unl_len _) (HRL.out k hlt)) (fun y hy => HR.out k hlt y ((unl_mem _ y).1 hy)) hts hz h1.lo.2.2.2.2.2 hxS).mono ?_
                rintro e y ⟨zz, rfl, h3, h4, h5⟩
                rw [stV_unl, stB_unl] at h3 h4
                exact ⟨zz, rfl, h1.out h5 h3, h4⟩
              have HNX : Hid (Sound tn n L R (stV v' x0 (R k)) (stB v' m' x0 (R k)) ∧ (tot S (stV v' x0 (R k)) (stB v' m' x0 (R k)) = tot S v' m' → stV v' x0 (R k) = v' ∧ stB v' m' x0 (R k) = m' ∧ ClosedAt L R v' m' k)) := by
                have e1 : (L k).toNat = x0 := by rw [hx0]; simp
                refine ⟨?_, fun h => ?_⟩
                · have := sound_step HSI.out hlt (HL.out k hlt).1 (fun x hx => (HR.out k hlt x hx).1)
                  rw [e1] at this
                  exact this
                · have hm : rowM v' m' (R k) < 2 ^ tn := rowM_lt fun x hx => by
                    have h1 := HR.out k hlt x hx
                    exact (HFI.out.fat.sets x.toNat (by omega)).2.1
                  have h2 := step_none hxS hz hts hm h
                  refine ⟨h2.1, h2.2.1, ?_, ?_⟩
                  · rw [e1]; exact h2.2.2.1
                  · rw [e1]; exact h2.2.2.2
              clear hx0 hul hLk
              go_wp2_with fail
              go_region_held3 (fun x => (x.cell? ⟨kb, 0, none⟩ = some (.int .i64 (tn : Int)) ∧ x.cell? ⟨kb, 1, none⟩ = some (.pointer (some ⟨vb, 0, none⟩)) ∧ x.cell? ⟨kb, 2, none⟩ = some (.slice (some ⟨fb, 0, none⟩) S S)) ∧ x.cell? ⟨w.heap.size, 4, none⟩ = some (.slice (some ⟨bp, op, none⟩) n pc) ∧ x.cell? ⟨bp, op + k * 3, none⟩ = some (.int .i64 (x0 : Int)) ∧ x.cell? ⟨rb, k, none⟩ = some (.slice (ua k) ul (uc k))) (first | exact HKS.out _ (.inr HG0.out) | exact HKS.out _ (.inl HF5.out) | go_keep)
                ((first
                  | (go_at_call 102; refine Calls.mono HAD.out ?_; rintro e w5 ⟨zz, rfl, hF5, ht5⟩; have HF5 : Hid (FoAt w w5 #[.slice ta tn tc, .slice na nn nc, .slice la ln lc, .int .i64 st, .slice (some ⟨bp, op, none⟩) n pc] tn S n kb vb fb rb lo kb f (stV v' x0 (R k)) (stB v' m' x0 (R k)) n R ua uc) := hF5; have HT5 : Hid (tot S (stV v' x0 (R k)) (stB v' m' x0 (R k)) = tot S v' m' + zz) := ht5; have hzz : zz ≤ 1049600 := (by { have h1 := tot_le S (stV v' x0 (R k)) (stB v' m' x0 (R k)); omega }); clear hF5 ht5)
                  | fail))
              go_wp2_with fail
              go_roundg (n - (k + 1))
              case measure => have := HGI.out; omega
              case rel => exact ⟨k + 1, z' + zz, _, _, by omega, rfl, by rw [show IntKind.i64.wrap ((z' : Int) + (zz : Int)) = ((z' + zz : Nat) : Int) by rw [IntKind.wrap_i64]; omega], by go_num, by rw [HT5.out, HTO.out]; omega, HNX.out.1, fun h0 => by
                have e1 : z' = 0 := by omega
                have e2 : zz = 0 := by omega
                obtain ⟨rfl, rfl, h3⟩ := HCI.out e1
                obtain ⟨h4, h5, h6⟩ := HNX.out.2 (by rw [HT5.out, e2, Nat.add_zero])
                refine ⟨h4, h5, fun j hj => ?_⟩
                by_cases e : j = k
                · rw [e]; exact h6
                · exact h3 j (by omega), HF5.out⟩
            · have hkn : n = k := by omega
              subst hkn
              have hkd : decide (n < n) = false := decide_eq_false (by omega)
              go_wp2_with fail
              go_roundg (2 * (1024 * (S + 1) - tot S v' m') + (if z' = 0 then 0 else 1))
              case measure =>
                have h1 := HGK.out
                rw [if_neg HZ0.out] at h1
                have h2 := HTO.out
                have h3 := tot_le S v' m'
                split <;> omega
              case rel => exact ⟨z', v', m', rfl, by have := tot_le S v' m'; have := HTO.out; omega, rfl, HSI.out, fun h0 => by
                obtain ⟨rfl, rfl, h3⟩ := HCI.out h0
                exact h3, HFI.out⟩

end Go.Proofs.YthoamlahbnphkaaGreat

/-
  first: a grammar that may be; foundOf of it; Nullable.
-/
namespace Go.Proofs.YthoamlahbnphkaaGreat
open Go.RowKit Go.Maps Go.Shelf

attribute [local go_sem] Oper.semAt_some

/-- What the marks lean on of a grammar that may be. -/
structure MayOK (tn nn n : Nat) (st : Int) (L : Nat → Int) (R : Nat → List Int) (cl : Bool) : Prop where
  t0 : 0 < tn
  tmax : tn ≤ 65
  n0 : 0 < nn
  nmax : nn ≤ 65
  pmax : n ≤ 97
  p0 : 0 < n
  left : ∀ k, k < n → (tn : Int) ≤ L k ∧ L k < ((tn + nn : Nat) : Int)
  right : ∀ k, k < n → ∀ x ∈ R k, (0 : Int) < x ∧ x < ((tn + nn : Nat) : Int)
  start : (tn : Int) ≤ st ∧ st < ((tn + nn : Nat) : Int)
  added : cl = true → L 0 = tn ∧ R 0 = [st]

theorem mayOK_closed {ts : List (ByteArray × Int)} {ns : List ByteArray} {lv : List Int} {st : Int} {n : Nat} {L : Nat → Int} {R : Nat → List Int} {V : Nat → Int} (h : closedOK ts ns lv st n L R V) : MayOK ts.length ns.length n st L R true := by
  obtain ⟨ha, hf⟩ := h
  have hs := hf.start
  unfold isNonI at hs
  refine ⟨hf.terms.1.1, hf.tn, ha.nn, by have := hf.nn; omega, by have := hf.pn; omega, ha.pn, fun k hk => ?_, fun k hk x hx => ?_, by omega, fun _ => ⟨ha.left, ha.right⟩⟩
  · by_cases h0 : k = 0
    · subst h0
      have := ha.left
      have := ha.nn
      omega
    · have := (hf.prods k (by omega) hk).1
      unfold isNonI at this
      omega
  · by_cases h0 : k = 0
    · subst h0
      rw [ha.right] at hx
      simp at hx
      have := hf.terms.1.1
      omega
    · have := (hf.prods k (by omega) hk).2.2 x hx
      unfold isSymI isNonI at this
      have := hf.terms.1.1
      omega
set_option maxRecDepth 100000 in
theorem kmayBe_any (ta na la pa : Option Addr) (tc nc lc pc : Nat) (ts : List (ByteArray × Int)) (ns : List ByteArray) (lv : List Int) (n : Nat) (L : Nat → Int) (R : Nat → List Int) (ra : Nat → Option Addr) (rc : Nat → Nat) (V : Nat → Int) (st : Int) (w : World) (tn nn ln : Nat) (hlen : ts.length = tn ∧ ns.length = nn ∧ lv.length = ln) (hG : GAt w ta na la pa tc nc lc pc ts ns lv n L R ra rc V) (r : Bool) (hr : r = true ↔ validOK ts ns lv st n L R V ∨ closedOK ts ns lv st n L R V) :
    Calls Tryz.prog 66 #[.agg #[.slice ta tn tc, .slice na nn nc, .slice la ln lc, .int .i64 st, .slice pa n pc]] w fun e w' => e = .returned (.bool r) ∧ w.grownBy w' none := by
  obtain ⟨rV, hrV⟩ := boolOf (validOK ts ns lv st n L R V)
  obtain ⟨rC, hrC⟩ := boolOf (closedOK ts ns lv st n L R V)
  have HV : Hid (∀ Y, w.grownBy Y none → Calls Tryz.prog 99 #[.agg #[.slice ta tn tc, .slice na nn nc, .slice la ln lc, .int .i64 st, .slice pa n pc]] Y fun e w' => e = .returned (.bool rV) ∧ Y.grownBy w' none) := fun Y hY => by
    have := valid_any ta na la pa tc nc lc pc ts ns lv n L R ra rc V st Y (hG.kept hY) rV hrV
    rwa [hlen.1, hlen.2.1, hlen.2.2] at this
  have HC : Hid (∀ Y, w.grownBy Y none → Calls Tryz.prog 44 #[.agg #[.slice ta tn tc, .slice na nn nc, .slice la ln lc, .int .i64 st, .slice pa n pc]] Y fun e w' => e = .returned (.bool rC) ∧ Y.grownBy w' none) := fun Y hY => by
    have := closed_any ta na la pa tc nc lc pc ts ns lv n L R ra rc V st Y (hG.kept hY) rC hrC
    rwa [hlen.1, hlen.2.1, hlen.2.2] at this
  have hre : r = (rV || rC) := by
    rw [Bool.eq_iff_iff, hr, Bool.or_eq_true, hrV, hrC]
  have HX0 : Hid (PhAt w (w.alloc (.cells #[.slice ta tn tc, .slice na nn nc, .slice la ln lc, .int .i64 st, .slice pa n pc] 27)) w.heap.size #[.slice ta tn tc, .slice na nn nc, .slice la ln lc, .int .i64 st, .slice pa n pc]) := ⟨World.grownBy_alloc _ _ none, heap_alloc_last w _⟩
  clear hG hlen hr hrV hrC
  subst hre
  cases rV
  · go_enter Tryz.func66, Tryz.ntmps66
    go_wp2_with fail
    refine Calls.mono (HV.out _ HX0.out.grown) ?_
    rintro e w1 ⟨rfl, hg1⟩
    have HX1 : Hid (PhAt w w1 w.heap.size #[.slice ta tn tc, .slice na nn nc, .slice la ln lc, .int .i64 st, .slice pa n pc]) := HX0.out.kept hg1
    obtain ⟨k0, k1, k2, k3, k4⟩ := HX1.out.cells
    clear hg1 HX0
    go_wp2_with fail
    refine Calls.mono (HC.out w1 HX1.out.grown) ?_
    rintro e w2 ⟨rfl, hg2⟩
    have HG2 : Hid (w.grownBy w2 none) := grown_trans HX1.out.grown hg2
    clear hg2 HX1 HC HV
    go_wp2_with fail
    go_ret
    exact ⟨by simp, HG2.out⟩
  · go_enter Tryz.func66, Tryz.ntmps66
    go_wp2_with fail
    refine Calls.mono (HV.out _ HX0.out.grown) ?_
    rintro e w1 ⟨rfl, hg1⟩
    have HX1 : Hid (PhAt w w1 w.heap.size #[.slice ta tn tc, .slice na nn nc, .slice la ln lc, .int .i64 st, .slice pa n pc]) := HX0.out.kept hg1
    obtain ⟨k0, k1, k2, k3, k4⟩ := HX1.out.cells
    clear hg1 HX0
    go_wp2_with fail
    go_ret
    exact ⟨by simp, HX1.out.grown⟩

theorem infoBoolK : (Tryz.prog.info? 4).map (fun i => (i.zero, i.size, i.bytes)) = some (some (.bool false), 1, 1) := by kernel_rfl

section
variable (ta na la pa : Option Addr) (tc nc lc pc : Nat) (ts : List (ByteArray × Int)) (ns : List ByteArray) (lv : List Int) (n : Nat) (L : Nat → Int) (R : Nat → List Int) (ra : Nat → Option Addr) (rc : Nat → Nat) (V : Nat → Int) (st : Int) (w : World) (tn nn ln : Nat) (hlen : ts.length = tn ∧ ns.length = nn ∧ lv.length = ln) (hG : GAt w ta na la pa tc nc lc pc ts ns lv n L R ra rc V)
include hlen hG

theorem kmay_ok (h : validOK ts ns lv st n L R V ∨ closedOK ts ns lv st n L R V) : Calls Tryz.prog 66 #[.agg #[.slice ta tn tc, .slice na nn nc, .slice la ln lc, .int .i64 st, .slice pa n pc]] w fun e w' => e = .returned (.bool true) ∧ w.grownBy w' none :=
  kmayBe_any ta na la pa tc nc lc pc ts ns lv n L R ra rc V st w tn nn ln hlen hG true ⟨fun _ => h, fun _ => rfl⟩

theorem found_ok {cl : Bool} (hM : MayOK tn nn n st L R cl) : Calls Tryz.prog 67 #[.agg #[.slice ta tn tc, .slice na nn nc, .slice la ln lc, .int .i64 st, .slice pa n pc]] w fun e y => FoundTold tn (tn + nn) n L R w e y := by
  have h0 := hM.p0
  rcases hG.prods with h | ⟨bp, op, rfl, hp⟩
  · omega
  · exact foundOf_any ta na la tn nn ln n tc nc lc pc (tn + nn) bp op st L R ra rc w rfl (by have := hM.tmax; have := hM.nmax; omega) (by have := hM.pmax; omega) (fun k hk => ⟨(hp k hk).1, (hp k hk).2.1, (hp k hk).2.2.2.1, (hp k hk).2.2.2.2.2⟩) (fun k hk => ⟨by have := hM.left k hk; omega, (hM.left k hk).2⟩) (fun k hk x hx => ⟨by have := hM.right k hk x hx; omega, (hM.right k hk x hx).2⟩)

end

/-- While Nullable or Sets goes over the nonterminals: the boxes, what is found, and the row so far. -/
structure NlAt (w X : World) (cs : Array Value) (tn S nn kb vb fb rb : Nat) (f : Nat → Nat) (v : Nat) (m : Nat → Nat) (t : TypeId) (c : Nat → Value) : Prop where
  grown : w.grownBy X none
  gbox : X.heap[w.heap.size]? = some (.cells cs 27 (0, 0))
  box : X.heap[kb]? = some (.cells #[.int .i64 (tn : Int), .pointer (some ⟨vb, 0, none⟩), .slice (some ⟨fb, 0, none⟩) S S] 126 (0, 0))
  fat : FAt X w.heap.size kb tn S fb vb f v m
  row : ValAt X rb nn t c
  lo : w.heap.size < kb ∧ kb < rb
section
variable {w X Z : World} {cs : Array Value} {tn S nn kb vb fb rb : Nat} {f : Nat → Nat} {v : Nat} {m : Nat → Nat} {t : TypeId} {c : Nat → Value}
theorem NlAt.kept (h : NlAt w X cs tn S nn kb vb fb rb f v m t c) (hg : X.grownBy Z none) : NlAt w Z cs tn S nn kb vb fb rb f v m t c :=
  ⟨grown_trans h.grown hg, (boxKept h.gbox hg).out, (boxKept h.box hg).out, h.fat.kept hg, h.row.kept hg, h.lo⟩
theorem NlAt.set (h : NlAt w X cs tn S nn kb vb fb rb f v m t c) (i : Nat) (u : Value) : NlAt w (X.setCell ⟨rb, i, none⟩ u) cs tn S nn kb vb fb rb f v m t (put c i u) := by
  have G : X.grownBy (X.setCell ⟨rb, i, none⟩ u) (some rb) := grown_setCell _ _ _
  have hl := h.lo
  exact ⟨grown_at h.grown G (by omega), (G.block _ (Array.getElem?_eq_some_iff.1 h.gbox).1 (by simp; omega)).trans h.gbox, (G.block _ (Array.getElem?_eq_some_iff.1 h.box).1 (by simp; omega)).trans h.box, h.fat.other G (.inr (by omega)), h.row.set i u, h.lo⟩
theorem NlAt.ph (h : NlAt w X cs tn S nn kb vb fb rb f v m t c) : PhAt w X w.heap.size cs := ⟨h.grown, h.gbox⟩
end
theorem ValAt.ext {w : World} {k len : Nat} {t : TypeId} {c d : Nat → Value} (h : ValAt w k len t c) (e : ∀ i, i < len → c i = d i) : ValAt w k len t d := by
  unfold ValAt at *
  rw [h, List.map_congr_left fun i hi => e i (by simpa using hi)]

set_option maxRecDepth 100000 in
set_option maxHeartbeats 1000000 in
theorem nullable_ok (ta na la pa : Option Addr) (tc nc lc pc : Nat) (ts : List (ByteArray × Int)) (ns : List ByteArray) (lv : List Int) (n : Nat) (L : Nat → Int) (R : Nat → List Int) (ra : Nat → Option Addr) (rc : Nat → Nat) (V : Nat → Int) (st : Int) (w : World) (tn nn ln : Nat) (hlen : ts.length = tn ∧ ns.length = nn ∧ lv.length = ln) (hG : GAt w ta na la pa tc nc lc pc ts ns lv n L R ra rc V) (h : validOK ts ns lv st n L R V ∨ closedOK ts ns lv st n L R V) {cl : Bool} (hM : MayOK tn nn n st L R cl) (F : Nat → Bool) (hF : ∀ i : Nat, F i = true ↔ Nul n L R ((tn + i : Nat) : Int)) :
    Calls Tryz.prog 38 #[.agg #[.slice ta tn tc, .slice na nn nc, .slice la ln lc, .int .i64 st, .slice pa n pc]] w fun e y => ∃ k, e = .returned (.tuple #[.slice (some ⟨k, 0, none⟩) nn nn, .int .i64 0]) ∧ w.heap.size ≤ k ∧ ValAt y k nn 4 (fun i => .bool (F i)) ∧ w.grownBy y none := by
  have HMB : Hid (∀ X, w.grownBy X none → Calls Tryz.prog 66 #[.agg #[.slice ta tn tc, .slice na nn nc, .slice la ln lc, .int .i64 st, .slice pa n pc]] X fun e w' => e = .returned (.bool true) ∧ X.grownBy w' none) := fun X hX => kmay_ok ta na la pa tc nc lc pc ts ns lv n L R ra rc V st X tn nn ln hlen (hG.kept hX) h
  have HFO : Hid (∀ X, w.grownBy X none → Calls Tryz.prog 67 #[.agg #[.slice ta tn tc, .slice na nn nc, .slice la ln lc, .int .i64 st, .slice pa n pc]] X fun e y => FoundTold tn (tn + nn) n L R X e y) := fun X hX => found_ok ta na la pa tc nc lc pc ts ns lv n L R ra rc V st X tn nn ln hlen (hG.kept hX) hM
  obtain ⟨S, hS⟩ : ∃ S, S = tn + nn := ⟨_, rfl⟩
  rw [← hS] at HFO
  have hnn : nn ≤ 65 := hM.nmax
  have htn : tn ≤ 65 := hM.tmax
  have HX0 : Hid (PhAt w (w.alloc (.cells #[.slice ta tn tc, .slice na nn nc, .slice la ln lc, .int .i64 st, .slice pa n pc] 27)) w.heap.size #[.slice ta tn tc, .slice na nn nc, .slice la ln lc, .int .i64 st, .slice pa n pc]) := ⟨World.grownBy_alloc _ _ none, heap_alloc_last w _⟩
  have HFF : Hid (∀ i : Nat, F i = true ↔ Nul n L R ((tn + i : Nat) : Int)) := hF
  obtain ⟨i0, hi0, hz0, hz1, hz2⟩ := info_parts infoBoolK
  clear hG hlen h hM hF hS
  go_enter Tryz.func38, Tryz.ntmps38
  go_wp2_with fail
  refine Calls.mono (HMB.out _ HX0.out.grown) ?_
  rintro e w1 ⟨rfl, hg1⟩
  have HX1 : Hid (PhAt w w1 w.heap.size #[.slice ta tn tc, .slice na nn nc, .slice la ln lc, .int .i64 st, .slice pa n pc]) := HX0.out.kept hg1
  clear hg1 HX0
  obtain ⟨k0, k1, k2, k3, k4⟩ := HX1.out.cells
  go_wp2_with fail
  refine Calls.mono (HFO.out _ HX1.out.grown) ?_
  rintro e w2 ⟨vb, fb, f, v, m, rfl, hF2, hfd, hg2⟩
  clear k0 k1 k2 k3 k4
  have HFD : Hid (∀ i, v.testBit (tn + i) = F i) := fun i => by
    have h1 := hfd.nul (tn + i)
    have h2 := HFF.out i
    have h3 : v.testBit (tn + i) = true ↔ F i = true := h1.trans h2.symm
    cases ha : v.testBit (tn + i) <;> cases hb : F i <;> simp_all
  obtain ⟨kb, hkb⟩ : ∃ kb, kb = w2.heap.size := ⟨_, rfl⟩
  obtain ⟨X2, hX2⟩ : ∃ X2, X2 = w2.alloc (.cells #[.int .i64 (tn : Int), .pointer (some ⟨vb, 0, none⟩), .slice (some ⟨fb, 0, none⟩) S S] 126) := ⟨_, rfl⟩
  have hgb : w2.grownBy X2 none := by rw [hX2]; exact World.grownBy_alloc _ _ none
  have hf2 : FAt X2 w.heap.size kb tn S fb vb f v m := by
    have h3 := hF2.kept hgb
    have h4 := HX1.out.grown.size
    exact ⟨h3.row, h3.sets, h3.van, ⟨⟨by have := h3.rng.1; omega, by have := h3.rng.1; omega⟩, ⟨by have := h3.rng.2.1; omega, by have := h3.rng.2.1; omega⟩, fun i hi => ⟨by have := h3.rng.2.2 i hi; omega, by have := h3.rng.2.2 i hi; omega⟩⟩, h3.inj, h3.ne⟩
  have HP2 : Hid (PhAt w X2 w.heap.size #[.slice ta tn tc, .slice na nn nc, .slice la ln lc, .int .i64 st, .slice pa n pc]) := HX1.out.kept (grown_trans hg2 hgb)
  have HB2 : Hid (X2.heap[kb]? = some (.cells #[.int .i64 (tn : Int), .pointer (some ⟨vb, 0, none⟩), .slice (some ⟨fb, 0, none⟩) S S] 126 (0, 0))) := by show _ = _; rw [hX2, hkb]; exact heap_alloc_last w2 _
  have HF2 : Hid (FAt X2 w.heap.size kb tn S fb vb f v m) := hf2
  have HSZ : Hid (w.heap.size < kb ∧ X2.heap.size = kb + 1) := ⟨by have h5 := (Array.getElem?_eq_some_iff.1 HX1.out.box).1; have := hg2.size; omega, by rw [hX2, hkb]; simp⟩
  obtain ⟨k0, k1, k2, k3, k4⟩ := HP2.out.cells
  rw [hX2] at k0 k1 k2 k3 k4
  have HXE := show Hid _ from hX2
  have HKE := show Hid _ from hkb
  clear hF2 hfd hg2 hf2 hgb hX2 hkb HX1
  go_wp2_with (at_make; refine wpList_make_full _ rfl _ _ 47 rfl (w2.heap.size + 1) 4 i0 (.bool false) 1 Tryz.underlying47 hi0 hz0 hz1 .i64 .i64 _ _ nn rfl rfl (by simp) (by simp) (by rw [hz2]; omega) (by unfold maxLen; omega) (by simp) ?_)
  intro w3 hown hgrow
  rw [← HXE.out] at hgrow
  rw [← HKE.out] at hown
  rw [← HKE.out]
  have hval : ValAt w3 (kb + 1) nn 4 (fun _ => .bool false) := made_rowK (B := kb + 1) rfl (by simpa [Value.cells] using hown)
  have hnl : NlAt w w3 #[.slice ta tn tc, .slice na nn nc, .slice la ln lc, .int .i64 st, .slice pa n pc] tn S nn kb vb fb (kb + 1) f v m 4 (fun i => .bool (decide (i < 0) && F i)) := ⟨grown_trans HP2.out.grown hgrow, (HP2.out.kept hgrow).box, (boxKept HB2.out hgrow).out, HF2.out.kept hgrow, by simpa using hval, ⟨HSZ.out.1, by omega⟩⟩
  obtain ⟨rb, hrb⟩ : ∃ rb, rb = kb + 1 := ⟨_, rfl⟩
  rw [← hrb] at hnl
  rw [← hrb]
  have HNL := show Hid _ from hnl
  clear hown hgrow hval hnl hrb HXE HKE HP2 HB2 HF2 HSZ k0 k1 k2 k3 k4 hi0 hz0 hz1 hz2
  obtain ⟨k0, k1, k2, k3, k4⟩ := HNL.out.ph.cells
  go_wp2_with fail
  clear k0 k1 k2 k3 k4
  go_loopg [19] nn (fun gk i wr => ∃ (k : Nat), k ≤ nn ∧ gk = nn - k ∧ i = .int .i64 k ∧ NlAt w wr #[.slice ta tn tc, .slice na nn nc, .slice la ln lc, .int .i64 st, .slice pa n pc] tn S nn kb vb fb rb f v m 4 (fun i => .bool (decide (i < k) && F i)))
  case atStart => exact ⟨0, Nat.zero_le _, rfl, rfl, HNL.out⟩
  case round =>
    obtain ⟨k, hk, hgk, rfl, hN⟩ := hrel
    have HGK : Hid (gk = nn - k) := hgk
    have HN : Hid (NlAt w wr #[.slice ta tn tc, .slice na nn nc, .slice la ln lc, .int .i64 st, .slice pa n pc] tn S nn kb vb fb rb f v m 4 (fun i => .bool (decide (i < k) && F i))) := hN
    clear hgk hN HNL
    by_cases hlt : k < nn
    · have hk0 : (0 : Int) ≤ (k : Int) := by omega
      have hk1 : (k : Int) < (nn : Int) := by omega
      have hkd : decide (k < nn) = true := decide_eq_true hlt
      obtain ⟨k0, k1, k2, k3, k4⟩ := HN.out.ph.cells
      obtain ⟨⟨b0, b1, b2⟩, f0, f1, f2⟩ := box3 HN.out.box
      have HHS : Hid (∀ X, NlAt w X #[.slice ta tn tc, .slice na nn nc, .slice la ln lc, .int .i64 st, .slice pa n pc] tn S nn kb vb fb rb f v m 4 (fun i => .bool (decide (i < k) && F i)) → Calls Tryz.prog 68 #[.pointer (some ⟨vb, 0, none⟩), .int .i64 ((tn : Int) + (k : Int))] X fun e w' => e = .returned (.bool (F k)) ∧ X.grownBy w' none) := fun X hX => by
        have := has_in vb S v (tn + k) X hX.fat.van
        rw [HFD.out] at this
        exact this
      go_wp2_with fail
      refine Calls.mono (HHS.out _ HN.out) ?_
      rintro e w5 ⟨rfl, hg5⟩
      have HN5 : Hid (NlAt w w5 #[.slice ta tn tc, .slice na nn nc, .slice la ln lc, .int .i64 st, .slice pa n pc] tn S nn kb vb fb rb f v m 4 (fun i => .bool (decide (i < k) && F i))) := HN.out.kept hg5
      have y0 := HN5.out.row.cell k hlt
      have y1 := HN5.out.row.free k
      clear hg5 HN k0 k1 k2 k3 k4 b0 b1 b2 f0 f1 f2
      go_wp2_with fail
      go_roundg (nn - (k + 1))
      case measure => have := HGK.out; omega
      case rel =>
        refine ⟨k + 1, by omega, rfl, by go_num, ?_⟩
        have h2 := HN5.out.set k (.bool (F k))
        exact ⟨h2.grown, h2.gbox, h2.box, h2.fat, h2.row.ext fun i _ => by
          unfold put
          by_cases e : i = k
          · subst e; simp
          · by_cases e2 : i < k
            · have e3 : i < k + 1 := by omega
              simp [e, e2, e3]
            · have e3 : ¬ i < k + 1 := by omega
              simp [e, e2, e3], h2.lo⟩
    · have hkn : nn = k := by omega
      subst hkn
      have hkd : decide (nn < nn) = false := decide_eq_false (by omega)
      go_wp2_with fail
      go_ret2
      exact ⟨rb, rfl, by have := HN.out.lo; omega, HN.out.row.ext fun i hi => by simp [hi], HN.out.grown⟩

end Go.Proofs.YthoamlahbnphkaaGreat
