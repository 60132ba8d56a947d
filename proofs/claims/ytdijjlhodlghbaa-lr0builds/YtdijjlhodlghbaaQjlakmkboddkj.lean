import Derived.Test.YtdijjlhodlghbaaQeobbkpnlgmfp
import Derived.Test.YtdijjlhodlghbaaQgebfmhdknfjl
import Derived.Test.YtdijjlhodlghbaaQillbiiocpkmk
import Derived.Deep.RegionLaw
import Derived.Test.YtdijjlhodlghbaaQolpbggfophhg

/-
  lr0: the document's Closed.
-/
namespace Go.Proofs.Ytdijjlhodlghbaa.J
open Go.RowKit Go.Maps Go.Shelf

attribute [local go_sem] Oper.semAt_some

set_option maxRecDepth 100000 in
set_option maxHeartbeats 4000000 in
theorem rclos_any (ta na la pa : Option Addr) (tc nc lc pc : Nat) (n : Nat) (L : Nat → Int) (R : Nat → List Int) (ra : Nat → Option Addr) (rc : Nat → Nat) (V : Nat → Int) (st : Int) (w : World) (tn nn ln : Nat) (hP : ProdsAt w pa n L R ra rc V) (hn : n ≤ 97) (hn0 : 0 < n) (htn : tn ≤ 65) (hnn : nn ≤ 65) (hR : ∀ k, k < n → ∀ x ∈ R k, (0 : Int) ≤ x ∧ x < ((tn + nn : Nat) : Int)) (a : Option Addr) (cap : Nat) (I : List It) (hI : ItsAt w a I) (hIb : I.length ≤ 8796093022208) (hit : ∀ x ∈ I, itB n R x = true) :
    Calls Try.prog 27 #[.agg #[.slice ta tn tc, .slice na nn nc, .slice la ln lc, .int .i64 st, .slice pa n pc], .slice a I.length cap] w fun e y => CloTold tn n L R I w e y := by
  obtain ⟨S, hS⟩ : ∃ S, S = tn + nn := ⟨_, rfl⟩
  have HSE : Hid (S = tn + nn) := hS
  have hSz : S ≤ 130 := by omega
  have HSY : Hid (∀ X, Calls Try.prog 24 #[.agg #[.slice ta tn tc, .slice na nn nc, .slice la ln lc, .int .i64 st, .slice pa n pc]] X fun e y => e = .returned (.int .i64 (S : Int)) ∧ X.grownBy y none) := fun X => by
    refine (Go.Proofs.Ytdijjlhodlghbaa.symbols_any ta na la pa tn nn ln n tc nc lc pc st X (by omega) (by omega)).mono ?_
    rintro e y ⟨rfl, hg⟩
    exact ⟨by rw [hS, Int.natCast_add], hg⟩
  have HAH : Hid (∀ X x, w.grownBy X none → itB n R x = true → Calls Try.prog 41 #[.agg #[.slice ta tn tc, .slice na nn nc, .slice la ln lc, .int .i64 st, .slice pa n pc], .agg #[.int .i64 x.1, .int .i64 x.2]] X fun e y => e = .returned (.int .i64 (aheadV R x)) ∧ X.grownBy y none) := fun X x hX hx => rafter_any ta na la pa tc nc lc pc n L R ra rc V st X tn nn ln (prods_kept hP hX) x hx
  have HAR : Hid (∀ x, itB n R x = true → aheadV R x = -1 ∨ ((0 : Int) ≤ aheadV R x ∧ aheadV R x < (S : Int))) := fun x hx => aheadV_range (by rw [hS]; exact hR) hx
  have HIT : Hid (∀ x ∈ I, itB n R x = true) := hit
  obtain ⟨bp, op, rfl, hp⟩ : ∃ bp op, pa = some ⟨bp, op, none⟩ ∧ ∀ k, k < n → w.cell? ⟨bp, op + k * 3, none⟩ = some (.int .i64 (L k)) := by
    rcases hP with h | ⟨bp, op, e, h⟩
    · omega
    · exact ⟨bp, op, e, fun k hk => (h k hk).1⟩
  have HPC : Hid (∀ k, k < n → ∀ X, w.grownBy X none → X.cell? ⟨bp, op + k * 3, none⟩ = some (.int .i64 (L k))) := fun k hk X hX => hX.cell (hp k hk) (by simp)
  obtain ⟨ll, hle⟩ : ∃ m, m = I.length := ⟨_, rfl⟩
  have HLE : Hid (ll = I.length) := hle
  have HLA : Hid (∀ X, w.grownBy X none → Calls Try.prog 25 #[.slice a ll cap] X fun e y => LaidTold I X e y) := fun X hX => by rw [hle]; exact laid_any a cap I X (hI.kept hX) (by omega)
  rw [← hle] at hIb
  rw [← hle]
  have HX0 : Hid (PhAt w (w.alloc (.cells #[.slice ta tn tc, .slice na nn nc, .slice la ln lc, .int .i64 st, .slice (some ⟨bp, op, none⟩) n pc] 27)) w.heap.size #[.slice ta tn tc, .slice na nn nc, .slice la ln lc, .int .i64 st, .slice (some ⟨bp, op, none⟩) n pc]) := ⟨World.grownBy_alloc _ _ none, heap_alloc_last w _⟩
  obtain ⟨i0, hi0, hz0, hz1, hz2⟩ := info_parts infoItem
  obtain ⟨i1, hi1, hy0, hy1, hy2⟩ := info_parts infoBool
  clear hP hR hI hit hle hS hp
  go_enter Try.func27, Try.ntmps27
  go_wp2_with fail
  refine Calls.mono (HLA.out _ HX0.out.grown) ?_
  rintro e w1 ⟨A0, hA1, hA2, hA3, a5, c5, rfl, ho1, hg1⟩
  have HA0 : Hid (∀ x, x ∈ A0 ↔ x ∈ I) := hA2
  obtain ⟨q0, hq0⟩ : ∃ q, q = A0.length := ⟨_, rfl⟩
  have HQ0 : Hid (q0 = A0.length ∧ q0 ≤ ll) := ⟨hq0, by rw [hq0, HLE.out]; exact hA3⟩
  rw [← hq0] at ho1
  rw [← hq0]
  have HX1 : Hid (PhAt w w1 w.heap.size #[.slice ta tn tc, .slice na nn nc, .slice la ln lc, .int .i64 st, .slice (some ⟨bp, op, none⟩) n pc]) := HX0.out.kept hg1
  have HO1 : Hid (w1.ownsRow w.heap.size 49 2 (.slice a5 q0 c5) q0 (itsV A0)) := owns_lowJ ho1 HX0.out.grown.size
  clear hA1 hA2 hA3 ho1 hg1 hq0 HX0
  obtain ⟨k0, k1, k2, k3, k4⟩ := HX1.out.cells
  go_wp2_with fail
  refine Calls.mono (HSY.out _) ?_
  rintro e w2 ⟨rfl, hg2⟩
  have HX2 : Hid (PhAt w w2 w.heap.size #[.slice ta tn tc, .slice na nn nc, .slice la ln lc, .int .i64 st, .slice (some ⟨bp, op, none⟩) n pc]) := HX1.out.kept hg2
  have HO2 : Hid (w2.ownsRow w.heap.size 49 2 (.slice a5 q0 c5) q0 (itsV A0)) := keep0 HO1.out hg2
  clear hg2 k0 k1 k2 k3 k4 HX1 HO1
  go_wp2_with (at_make; refine wpList_make_full _ rfl _ _ 54 rfl w2.heap.size 4 i1 (.bool false) 1 Try.underlying54 hi1 hy0 hy1 .i64 .i64 _ _ S rfl rfl (by simp) (by simp) (by rw [hy2]; omega) (by unfold maxLen; omega) (by simp) ?_)
  intro w3 hown hgrow
  have hval : ValAt w3 w2.heap.size S 4 (fun _ => .bool false) := made_rowK (B := w2.heap.size) rfl (by simpa [Value.cells] using hown)
  obtain ⟨mb, hmb⟩ : ∃ mb, mb = w2.heap.size := ⟨_, rfl⟩
  rw [← hmb] at hval
  rw [← hmb]
  have HC0 : Hid (ClAt w w3 #[.slice ta tn tc, .slice na nn nc, .slice la ln lc, .int .i64 st, .slice (some ⟨bp, op, none⟩) n pc] mb S (fun _ => false) a5 q0 c5 A0) := ⟨grown_trans HX2.out.grown hgrow, box_kept HX2.out.box hgrow, hval, by have := (Array.getElem?_eq_some_iff.1 HX2.out.box).1; omega, keep0 HO2.out hgrow⟩
  have HW0 : Hid (CwP tn n L R I A0 (fun _ => false) 0) := CwP.start' HA0.out
  have HU0 : Hid (q0 + unm S (fun _ => false) * 97 ≤ ll + 12610) := by have := unm_le S (fun _ => false); have := HQ0.out.2; show _ ≤ _; omega
  clear hown hgrow hval hmb HX2 HO2
  go_wp2_with fail
  go_loopg [5, 7] (unm S (fun _ => false) * 98 + q0) (fun gk v5 v7 wr => ∃ (i q c' : Nat) (a' : Option Addr) (b : Nat → Bool) (A : List It), v5 = .slice a' q c' ∧ v7 = .int .i64 i ∧ q = A.length ∧ i ≤ q ∧ gk = unm S b * 98 + (q - i) ∧ q + unm S b * 97 ≤ ll + 12610 ∧ CwP tn n L R I A b i ∧ ClAt w wr #[.slice ta tn tc, .slice na nn nc, .slice la ln lc, .int .i64 st, .slice (some ⟨bp, op, none⟩) n pc] mb S b a' q c' A)
  case atStart => exact ⟨0, q0, c5, a5, fun _ => false, A0, rfl, rfl, HQ0.out.1, Nat.zero_le _, rfl, HU0.out, HW0.out, HC0.out⟩
  case round =>
    obtain ⟨i, q, c', a', b, A, rfl, rfl, hq, hiq, hgk, hub, hW, hC⟩ := hrel
    have HQ : Hid (q = A.length) := hq
    have HGK : Hid (gk = unm S b * 98 + (q - i)) := hgk
    have HUB : Hid (q + unm S b * 97 ≤ ll + 12610) := hub
    have HW : Hid (CwP tn n L R I A b i) := hW
    have HC : Hid (ClAt w wr #[.slice ta tn tc, .slice na nn nc, .slice la ln lc, .int .i64 st, .slice (some ⟨bp, op, none⟩) n pc] mb S b a' q c' A) := hC
    have hqb : q ≤ 8796093034818 := by omega
    clear hq hgk hub hW hC HC0 HW0 HU0
    obtain ⟨k0, k1, k2, k3, k4⟩ := HC.out.ph.cells
    by_cases hlt : i < q
    · have hi0' : (0 : Int) ≤ (i : Int) := by omega
      have hi1' : (i : Int) < (q : Int) := by omega
      have hid : decide (i < q) = true := decide_eq_true hlt
      have hiA : i < A.length := by rw [← HQ.out]; exact hlt
      obtain ⟨gb, rfl, c0, c1⟩ : ∃ gb, a' = some ⟨gb, 0, none⟩ ∧ wr.cell? ⟨gb, i * 2, none⟩ = some (.int .i64 (A.getD i (0, 0)).1) ∧ wr.cell? ⟨gb, i * 2 + 1, none⟩ = some (.int .i64 (A.getD i (0, 0)).2) := by
        have ho := HC.out.own
        rcases ho.2 with ⟨_, h⟩ | ⟨g, cap, cur, hv, hB, hh, _, _, hs, ht⟩
        · omega
        · simp only [Value.slice.injEq] at hv
          refine ⟨g, hv.1, ?_⟩
          obtain ⟨h3, h4⟩ := itsV_at A i hiA
          rw [← ht, List.getElem?_take, if_pos (by omega)] at h3 h4
          rw [cell_of_row _ _ _ _ _ _ hh, cell_of_row _ _ _ _ _ _ hh]
          exact ⟨by simpa using h3, by simpa using h4⟩
      have hxi : itB n R (A.getD i (0, 0)) = true := by
        refine (HW.out.mem _ ?_).item HIT.out
        rw [List.getD_eq_getElem?_getD, List.getElem?_eq_getElem hiA]; exact List.getElem_mem hiA
      have hrg := HAR.out _ hxi
      have HAC : Hid (∀ X, wr.grownBy X none → Calls Try.prog 41 #[.agg #[.slice ta tn tc, .slice na nn nc, .slice la ln lc, .int .i64 st, .slice (some ⟨bp, op, none⟩) n pc], .agg #[.int .i64 (A.getD i (0, 0)).1, .int .i64 (A.getD i (0, 0)).2]] X fun e y => e = .returned (.int .i64 (aheadV R (A.getD i (0, 0)))) ∧ X.grownBy y none) := fun X hX => HAH.out X _ (grown_trans HC.out.grown hX) hxi
      obtain ⟨sv, hsv⟩ : ∃ s, s = aheadV R (A.getD i (0, 0)) := ⟨_, rfl⟩
      have HSV : Hid (sv = aheadV R (A.getD i (0, 0))) := hsv
      rw [← hsv] at HAC hrg
      obtain ⟨x, hx⟩ : ∃ x, x = A.getD i (0, 0) := ⟨_, rfl⟩
      rw [← hx] at HAC c0 c1
      clear hsv hx hxi
      obtain ⟨p, d⟩ := x
      simp only at HAC c0 c1
      have HUP : Hid (wr.grownBy wr.drew none) := grown_drewN wr 1
      have HKS : Hid (∀ Y, wr.grownBy Y none → (Y.cell? ⟨w.heap.size, 0, none⟩ = some (.slice ta tn tc) ∧ Y.cell? ⟨w.heap.size, 1, none⟩ = some (.slice na nn nc) ∧ Y.cell? ⟨w.heap.size, 2, none⟩ = some (.slice la ln lc) ∧ Y.cell? ⟨w.heap.size, 3, none⟩ = some (.int .i64 st) ∧ Y.cell? ⟨w.heap.size, 4, none⟩ = some (.slice (some ⟨bp, op, none⟩) n pc)) ∧ Y.cell? ⟨gb, i * 2, none⟩ = some (.int .i64 p) ∧ Y.cell? ⟨gb, i * 2 + 1, none⟩ = some (.int .i64 d)) := fun Y hY => ⟨(HC.out.kept hY).ph.cells, hY.cell c0 (by simp), hY.cell c1 (by simp)⟩
      clear k0 k1 k2 k3 k4 c0 c1
      go_wp2_with fail
      go_region_held3 (fun Y => (Y.cell? ⟨w.heap.size, 0, none⟩ = some (.slice ta tn tc) ∧ Y.cell? ⟨w.heap.size, 1, none⟩ = some (.slice na nn nc) ∧ Y.cell? ⟨w.heap.size, 2, none⟩ = some (.slice la ln lc) ∧ Y.cell? ⟨w.heap.size, 3, none⟩ = some (.int .i64 st) ∧ Y.cell? ⟨w.heap.size, 4, none⟩ = some (.slice (some ⟨bp, op, none⟩) n pc)) ∧ Y.cell? ⟨gb, i * 2, none⟩ = some (.int .i64 p) ∧ Y.cell? ⟨gb, i * 2 + 1, none⟩ = some (.int .i64 d)) (first | exact HKS.out _ HUP.out | exact HKS.out _ HG4.out | go_keep)
        ((first
          | (go_at_call 41; refine Calls.mono (HAC.out _ HUP.out) ?_; rintro e w4 ⟨rfl, hg4⟩; have HG4 : Hid (wr.grownBy w4 none) := grown_trans HUP.out hg4; clear hg4)
          | fail))
      have HC4 : Hid (ClAt w w4 #[.slice ta tn tc, .slice na nn nc, .slice la ln lc, .int .i64 st, .slice (some ⟨bp, op, none⟩) n pc] mb S b (some ⟨gb, 0, none⟩) q c' A) := HC.out.kept HG4.out
      clear HKS HUP HAC HC
      obtain ⟨k0, k1, k2, k3, k4⟩ := HC4.out.ph.cells
      by_cases hst : sv < (tn : Int)
      · have hd : decide (sv < (tn : Int)) = true := decide_eq_true hst
        have HSK : Hid (CwP tn n L R I A b (i + 1)) := HW.out.skip fun h => absurd h (by rw [← HSV.out]; omega)
        clear hst hrg
        go_wp2_with fail
        go_roundg (unm S b * 98 + (q - (i + 1)))
        case measure => have := HGK.out; omega
        case rel => exact ⟨i + 1, q, c', _, b, A, rfl, by go_num, HQ.out, by omega, rfl, HUB.out, HSK.out, HC4.out⟩
      · obtain ⟨s, rfl⟩ : ∃ s : Nat, sv = (s : Int) := ⟨sv.toNat, by omega⟩
        have hsS : s < S := by omega
        have hts : tn ≤ s := by omega
        have hd : decide (s < tn) = false := decide_eq_false (by omega)
        have hd2 : decide ((s : Int) < (tn : Int)) = false := decide_eq_false (by omega)
        have hs0 : (0 : Int) ≤ (s : Int) := by omega
        have hs1 : (s : Int) < (S : Int) := by omega
        have m0 := HC4.out.mark.cell s hsS
        have m1 := HC4.out.mark.free s
        obtain ⟨bs, hbs⟩ : ∃ x, x = b s := ⟨_, rfl⟩
        have HBSV : Hid (bs = b s) := hbs
        rw [← hbs] at m0
        clear hst hrg hbs
        cases bs with
        | true =>
          have HSK : Hid (CwP tn n L R I A b (i + 1)) := HW.out.skip fun _ => by rw [← HSV.out, Int.toNat_natCast]; exact HBSV.out.symm
          go_wp2_with fail
          go_roundg (unm S b * 98 + (q - (i + 1)))
          case measure => have := HGK.out; omega
          case rel => exact ⟨i + 1, q, c', _, b, A, rfl, by go_num, HQ.out, by omega, rfl, HUB.out, HSK.out, HC4.out⟩
        | false =>
          have HUM : Hid (unm S (markT b s) + 1 = unm S b) := unm_mark b s HBSV.out.symm S hsS
          have HCT : Hid (ClAt w (w4.setCell ⟨mb, s, none⟩ (.bool true)) #[.slice ta tn tc, .slice na nn nc, .slice la ln lc, .int .i64 st, .slice (some ⟨bp, op, none⟩) n pc] mb S (markT b s) (some ⟨gb, 0, none⟩) q c' A) := HC4.out.tick
          obtain ⟨X5, hX5⟩ : ∃ X5, X5 = w4.setCell ⟨mb, s, none⟩ (.bool true) := ⟨_, rfl⟩
          have HX5 : Hid (X5 = w4.setCell ⟨mb, s, none⟩ (.bool true)) := hX5
          rw [← hX5] at HCT
          clear hX5 HC4 k0 k1 k2 k3 k4
          have k0 : True := trivial
          go_wp2_with fail
          rw [← HX5.out]
          clear m0 m1 k0
          go_loopg [5, 9] n (fun gp v5 v9 wr => ∃ (pp q2 c2 : Nat) (a2 : Option Addr) (M : List It), pp ≤ n ∧ gp = n - pp ∧ v5 = .slice a2 q2 c2 ∧ v9 = .int .i64 pp ∧ q2 = (A ++ M).length ∧ q2 ≤ q + pp ∧ (∀ x ∈ M, ∃ k : Nat, k < n ∧ L k = (s : Int) ∧ x = ((k : Int), (0 : Int))) ∧ (∀ k : Nat, k < pp → L k = (s : Int) → ((k : Int), (0 : Int)) ∈ A ++ M) ∧ ClAt w wr #[.slice ta tn tc, .slice na nn nc, .slice la ln lc, .int .i64 st, .slice (some ⟨bp, op, none⟩) n pc] mb S (markT b s) a2 q2 c2 (A ++ M))
          case atStart => exact ⟨0, q, c', _, [], Nat.zero_le _, rfl, rfl, rfl, by rw [List.append_nil]; exact HQ.out, Nat.le_refl _, fun x hx => (by cases hx), fun k hk => absurd hk (Nat.not_lt_zero _), by rw [List.append_nil]; exact HCT.out⟩
          case round =>
            obtain ⟨pp, q2, c2, a2, M, hpn, hgp, rfl, rfl, hq2, hqp, hM, hall, hC5⟩ := hrel
            have HGP : Hid (gk = n - pp) := hgp
            have HQ2 : Hid (q2 = (A ++ M).length) := hq2
            have HMM : Hid (∀ x ∈ M, ∃ k : Nat, k < n ∧ L k = (s : Int) ∧ x = ((k : Int), (0 : Int))) := hM
            have HALL : Hid (∀ k : Nat, k < pp → L k = (s : Int) → ((k : Int), (0 : Int)) ∈ A ++ M) := hall
            have HC5 : Hid (ClAt w wr #[.slice ta tn tc, .slice na nn nc, .slice la ln lc, .int .i64 st, .slice (some ⟨bp, op, none⟩) n pc] mb S (markT b s) a2 q2 c2 (A ++ M)) := hC5
            clear hgp hq2 hM hall hC5 HCT
            obtain ⟨k0, k1, k2, k3, k4⟩ := HC5.out.ph.cells
            by_cases hpl : pp < n
            · have hp0 : (0 : Int) ≤ (pp : Int) := by omega
              have hp1 : (pp : Int) < (n : Int) := by omega
              have hpd : decide (pp < n) = true := decide_eq_true hpl
              obtain ⟨Y, hY⟩ : ∃ Y, Y = wr.alloc (.cells #[.int .i64 (pp : Int), .int .i64 0] 49) := ⟨_, rfl⟩
              have HYE : Hid (Y = wr.alloc (.cells #[.int .i64 (pp : Int), .int .i64 0] 49)) := hY
              have HGY : Hid (wr.grownBy Y none) := by rw [hY]; exact World.grownBy_alloc _ _ none
              have HBY : Hid (Y.heap[wr.heap.size]? = some (.cells #[.int .i64 (pp : Int), .int .i64 0] 49 (0, 0))) := by rw [hY]; exact heap_alloc_last wr _
              have HCY : Hid (ClAt w Y #[.slice ta tn tc, .slice na nn nc, .slice la ln lc, .int .i64 st, .slice (some ⟨bp, op, none⟩) n pc] mb S (markT b s) a2 q2 c2 (A ++ M)) := HC5.out.kept HGY.out
              have p0 := HPC.out pp hpl Y HCY.out.grown
              obtain ⟨j0, j1, j2, j3, j4⟩ := HCY.out.ph.cells
              obtain ⟨lk, hlk⟩ : ∃ x, x = L pp := ⟨_, rfl⟩
              have HLK : Hid (lk = L pp) := hlk
              rw [← hlk] at p0
              rw [hY] at p0 j0 j1 j2 j3 j4
              clear hlk hY
              by_cases hls : lk = (s : Int)
              · have hne : (lk != (s : Int)) = false := by rw [hls]; exact bne_self_eq_false _
                obtain ⟨rh, hrh⟩ := boolOf (((pp : Int), (0 : Int)) ∈ A ++ M)
                have HRH : Hid (rh = true ↔ ((pp : Int), (0 : Int)) ∈ A ++ M) := hrh
                have HHA : Hid (Calls Try.prog 42 #[.slice a2 q2 c2, .agg #[.int .i64 (pp : Int), .int .i64 0]] Y fun e y => e = .returned (.bool rh) ∧ Y.grownBy y none) := by
                  have ho := HCY.out.own
                  rw [HQ2.out] at ho ⊢
                  exact rhas_any a2 c2 (A ++ M) ((pp : Int), 0) Y (ItsAt.of ho) (by rw [← HQ2.out]; omega) rh hrh
                have HLS : Hid (L pp = (s : Int)) := by show _ = _; rw [← HLK.out]; exact hls
                clear hrh hls
                go_wp2_with fail
                rw [← HYE.out]
                refine Calls.mono HHA.out ?_
                rintro e w7 ⟨rfl, hg7⟩
                have HC7 : Hid (ClAt w w7 #[.slice ta tn tc, .slice na nn nc, .slice la ln lc, .int .i64 st, .slice (some ⟨bp, op, none⟩) n pc] mb S (markT b s) a2 q2 c2 (A ++ M)) := HCY.out.kept hg7
                have HB7 : Hid (w7.heap[wr.heap.size]? = some (.cells #[.int .i64 (pp : Int), .int .i64 0] 49 (0, 0))) := box_kept HBY.out hg7
                clear hg7 p0 j0 j1 j2 j3 j4 k0 k1 k2 k3 k4 HHA
                cases rh with
                | true =>
                  have HAL2 : Hid (∀ k : Nat, k < pp + 1 → L k = (s : Int) → ((k : Int), (0 : Int)) ∈ A ++ M) := fun k hk hl => by
                    by_cases e : k = pp
                    · rw [e]; exact HRH.out.1 rfl
                    · exact HALL.out k (by omega) hl
                  clear HRH
                  go_wp2_with fail
                  go_roundg (n - (pp + 1))
                  case measure => have := HGP.out; omega
                  case rel => exact ⟨pp + 1, q2, c2, a2, M, by omega, rfl, rfl, by go_num, HQ2.out, by omega, HMM.out, HAL2.out, HC7.out⟩
                | false =>
                  have b0 : w7.cell? ⟨wr.heap.size, 0, none⟩ = some (.int .i64 (pp : Int)) := by rw [cell_of_row _ _ _ _ _ _ HB7.out]; rfl
                  have b1 : w7.cell? ⟨wr.heap.size, 1, none⟩ = some (.int .i64 0) := by rw [cell_of_row _ _ _ _ _ _ HB7.out]; rfl
                  have HAL2 : Hid (∀ k : Nat, k < pp + 1 → L k = (s : Int) → ((k : Int), (0 : Int)) ∈ A ++ (M ++ [((pp : Int), (0 : Int))])) := fun k hk hl => by
                    rw [← List.append_assoc]
                    by_cases e : k = pp
                    · rw [e]; simp
                    · exact List.mem_append_left _ (HALL.out k (by omega) hl)
                  have HMM2 : Hid (∀ x ∈ M ++ [((pp : Int), (0 : Int))], ∃ k : Nat, k < n ∧ L k = (s : Int) ∧ x = ((k : Int), (0 : Int))) := fun x hx => by
                    rcases List.mem_append.1 hx with hx | hx
                    · exact HMM.out x hx
                    · exact ⟨pp, hpl, HLS.out, List.mem_singleton.1 hx⟩
                  have HOW : Hid (ClAt w (w7.alloc (.cells #[.int .i64 (pp : Int), .int .i64 0] 49)) #[.slice ta tn tc, .slice na nn nc, .slice la ln lc, .int .i64 st, .slice (some ⟨bp, op, none⟩) n pc] mb S (markT b s) a2 q2 c2 (A ++ M)) := HC7.out.kept (World.grownBy_alloc _ _ none)
                  have HNW : Hid (∀ j z, [Value.int .i64 (pp : Int), Value.int .i64 0][j]? = some z → (w7.alloc (.cells #[.int .i64 (pp : Int), .int .i64 0] 49)).cell? ((⟨w7.heap.size, 0, none⟩ : Addr).add j) = some z) := news_new w7 _ _
                  clear HRH
                  go_wp2_with (at_builtin; refine wpList_append_srcW rfl (.tmp 65) (.tmp 67) 40 rfl w.heap.size 49 i0 (.agg #[.int .i64 0, .int .i64 0]) 2 16 Try.underlying40 hi0 hz0 hz1 hz2 rfl (by decide) (.slice a2 q2 c2) q2 (itsV (A ++ M)) rfl HOW.out.own (some ⟨w7.heap.size, 0, none⟩) 1 1 [.int .i64 (pp : Int), .int .i64 0] rfl (fun h => by cases h) rfl (fun ad e => by cases e; exact HNW.out) (by simp [Value.oneCell']) (by unfold maxLen; omega) (by omega) HOW.out.grown.size ?_; intro v8 wB hoB hgB; have hoB2 : wB.ownsRow w.heap.size 49 2 v8 (q2 + 1) (itsV (A ++ (M ++ [((pp : Int), (0 : Int))]))) := (by rw [← List.append_assoc, itsV_append]; exact hoB); obtain ⟨a8, c8, rfl, hC8⟩ := HOW.out.more hgB hoB2; have HC8 := show Hid _ from hC8; clear hoB hgB hC8 hoB2)
                  go_roundg (n - (pp + 1))
                  case measure => have := HGP.out; omega
                  case rel => exact ⟨pp + 1, q2 + 1, c8, a8, M ++ [((pp : Int), (0 : Int))], by omega, rfl, rfl, by go_num, by rw [← List.append_assoc, List.length_append, ← HQ2.out]; rfl, by omega, HMM2.out, HAL2.out, HC8.out⟩
              · have hne : (lk != (s : Int)) = true := bne_iff_ne.2 hls
                have HAL2 : Hid (∀ k : Nat, k < pp + 1 → L k = (s : Int) → ((k : Int), (0 : Int)) ∈ A ++ M) := fun k hk hl => by
                  by_cases e : k = pp
                  · rw [e] at hl; exact absurd (HLK.out.trans hl) hls
                  · exact HALL.out k (by omega) hl
                clear hls
                go_wp2_with fail
                rw [← HYE.out]
                go_roundg (n - (pp + 1))
                case measure => have := HGP.out; omega
                case rel => exact ⟨pp + 1, q2, c2, a2, M, by omega, rfl, rfl, by go_num, HQ2.out, by omega, HMM.out, HAL2.out, HCY.out⟩
            · have hpk : n = pp := by omega
              subst hpk
              have hpd : decide (n < n) = false := decide_eq_false (by omega)
              have HBR : Hid (CwP tn n L R I (A ++ M) (markT b s) (i + 1)) := HW.out.bring' (by rw [← HQ.out]; exact hlt) HSV.out.symm hts (fun j => by
                unfold markT
                by_cases e : j = s
                · simp [e]
                · simp [e]) HMM.out HALL.out
              go_wp2_with fail
              go_roundg (unm S (markT b s) * 98 + (q2 - (i + 1)))
              case measure => have h1 := HGK.out; have h2 := HUM.out; omega
              case rel => exact ⟨i + 1, q2, c2, a2, markT b s, A ++ M, rfl, by go_num, HQ2.out, by
                have h1 := HQ2.out
                rw [List.length_append, ← HQ.out] at h1
                omega, rfl, by have h1 := HUB.out; have h2 := HUM.out; omega, HBR.out, HC5.out⟩
    · have hin : q = i := by omega
      subst hin
      have hid : decide (q < q) = false := decide_eq_false (by omega)
      have HMEM : Hid (∀ x, x ∈ A ↔ Clo tn n L R I x) := HW.out.fin (by rw [HQ.out]; exact Nat.le_refl _)
      have HLF : Hid (Calls Try.prog 25 #[.slice a' q c'] wr fun e y => LaidTold A wr e y) := by
        have ho := HC.out.own
        rw [HQ.out] at ho ⊢
        exact laid_any a' c' A wr (ItsAt.of ho) (by rw [← HQ.out]; omega)
      clear k0 k1 k2 k3 k4
      go_wp2_with fail
      refine Calls.mono HLF.out ?_
      rintro e w4 ⟨l', h1, h2, h3, a4, c4, rfl, ho4, hg4⟩
      have HIC : Hid (IsClo tn n L R I l') := ⟨h1, fun x => (h2 x).trans (HMEM.out x)⟩
      have HL4 : Hid (l'.length ≤ q) := by rw [HQ.out]; exact h3
      have HG4 : Hid (w.grownBy w4 none) := grown_trans HC.out.grown hg4
      have HO4 : Hid (w4.ownsRow w.heap.size 49 2 (.slice a4 l'.length c4) l'.length (itsV l')) := owns_lowJ ho4 HC.out.grown.size
      obtain ⟨m, hm⟩ : ∃ m, m = l'.length := ⟨_, rfl⟩
      have HM : Hid (m = l'.length) := hm
      rw [← hm]
      clear h1 h2 h3 ho4 hg4 hm HLF HC HW
      go_wp2_with fail
      go_ret
      refine ⟨l', HIC.out, ?_, a4, c4, by rw [← HM.out]; rfl, HO4.out, HG4.out⟩
      have h2 := HL4.out
      have h3 := HUB.out
      rw [← HLE.out]
      omega

end Go.Proofs.Ytdijjlhodlghbaa.J

/-
  lr0: the document's from.
-/
namespace Go.Proofs.Ytdijjlhodlghbaa.J
open Go.RowKit Go.Maps Go.Shelf

attribute [local go_sem] Oper.semAt_some

theorem kerT_asc {R : Nat → List Int} {l : List It} (h : Asc l) (s : Int) : Asc (kerT R l s) := by
  unfold kerT Asc
  rw [List.pairwise_map]
  refine List.Pairwise.imp ?_ (List.Pairwise.filter _ h)
  intro x y hxy
  unfold ltI at *
  simp only
  omega

set_option maxRecDepth 100000 in
set_option maxHeartbeats 4000000 in
theorem rfrom_any (ta na la pa : Option Addr) (tc nc lc pc : Nat) (n : Nat) (L : Nat → Int) (R : Nat → List Int) (ra : Nat → Option Addr) (rc : Nat → Nat) (V : Nat → Int) (st s : Int) (w : World) (tn nn ln : Nat) (hP : ProdsAt w pa n L R ra rc V) (hRb : ∀ k, k < n → (R k).length ≤ 17592186044416) (a : Option Addr) (cap : Nat) (l : List It) (hl : ItsAt w a l) (hlb : l.length ≤ 8796093035208) (hit : ∀ x ∈ l, itB n R x = true) (hasc : Asc l) :
    Calls Try.prog 28 #[.agg #[.slice ta tn tc, .slice na nn nc, .slice la ln lc, .int .i64 st, .slice pa n pc], .int .i64 s, .slice a l.length cap] w fun e y => ItsTold (kerT R l s) w e y := by
  have HAH : Hid (∀ X x, w.grownBy X none → itB n R x = true → Calls Try.prog 41 #[.agg #[.slice ta tn tc, .slice na nn nc, .slice la ln lc, .int .i64 st, .slice pa n pc], .agg #[.int .i64 x.1, .int .i64 x.2]] X fun e y => e = .returned (.int .i64 (aheadV R x)) ∧ X.grownBy y none) := fun X x hX hx => rafter_any ta na la pa tc nc lc pc n L R ra rc V st X tn nn ln (prods_kept hP hX) x hx
  have HRB : Hid (∀ x, itB n R x = true → (0 : Int) ≤ x.2 ∧ x.2 ≤ 17592186044416) := fun x hx => by
    unfold itB at hx
    simp only [Bool.and_eq_true, decide_eq_true_eq] at hx
    have := hRb x.1.toNat (by omega)
    omega
  have HIT : Hid (∀ x ∈ l, itB n R x = true) := hit
  have HL : Hid (∀ X, w.grownBy X none → ItsAt X a l) := fun X hX => hl.kept hX
  have HAS : Hid (Asc l) := hasc
  obtain ⟨N, hN⟩ : ∃ m, m = l.length := ⟨_, rfl⟩
  have HN : Hid (N = l.length) := hN
  rw [← hN] at hlb
  rw [← hN]
  have HX0 : Hid (PhAt w (w.alloc (.cells #[.slice ta tn tc, .slice na nn nc, .slice la ln lc, .int .i64 st, .slice pa n pc] 27)) w.heap.size #[.slice ta tn tc, .slice na nn nc, .slice la ln lc, .int .i64 st, .slice pa n pc]) := ⟨World.grownBy_alloc _ _ none, heap_alloc_last w _⟩
  obtain ⟨i0, hi0, hz0, hz1, hz2⟩ := info_parts infoItem
  clear hP hRb hl hit hasc hN
  go_enter Try.func28, Try.ntmps28
  go_wp2_with fail
  go_loopg [7, 8] N (fun gk v7 v8 wr => ∃ (i q c : Nat) (a' : Option Addr), i ≤ N ∧ gk = N - i ∧ v7 = .slice a' q c ∧ v8 = .int .i64 i ∧ q = (kerT R (l.take i) s).length ∧ q ≤ i ∧ wr.ownsRow w.heap.size 49 2 (.slice a' q c) q (itsV (kerT R (l.take i) s)) ∧ PhAt w wr w.heap.size #[.slice ta tn tc, .slice na nn nc, .slice la ln lc, .int .i64 st, .slice pa n pc])
  case atStart => exact ⟨0, 0, 0, none, Nat.zero_le _, rfl, rfl, rfl, rfl, Nat.le_refl _, World.ownsRow_nil _ _ _ _, HX0.out⟩
  case round =>
    obtain ⟨i, q, c, a', hi, hgi, rfl, rfl, hq, hqi, hO, hPh⟩ := hrel
    have HGI : Hid (gk = N - i) := hgi
    have HQ : Hid (q = (kerT R (l.take i) s).length) := hq
    have HO : Hid (wr.ownsRow w.heap.size 49 2 (.slice a' q c) q (itsV (kerT R (l.take i) s))) := hO
    have HPh : Hid (PhAt w wr w.heap.size #[.slice ta tn tc, .slice na nn nc, .slice la ln lc, .int .i64 st, .slice pa n pc]) := hPh
    clear hgi hq hO hPh HX0
    by_cases hlt : i < N
    · have hi0' : (0 : Int) ≤ (i : Int) := by omega
      have hi1' : (i : Int) < (N : Int) := by omega
      have hid : decide (i < N) = true := decide_eq_true hlt
      have hil : i < l.length := by rw [← HN.out]; exact hlt
      obtain ⟨lb, lo, rfl, HLC⟩ : ∃ lb lo, a = some ⟨lb, lo, none⟩ ∧ Hid (∀ X, w.grownBy X none → X.cell? ⟨lb, lo + i * 2, none⟩ = some (.int .i64 (l.getD i (0, 0)).1) ∧ X.cell? ⟨lb, lo + i * 2 + 1, none⟩ = some (.int .i64 (l.getD i (0, 0)).2)) := by
        obtain ⟨lb, lo, e, _⟩ := (HL.out w (grown_refl _ _)).at hil
        refine ⟨lb, lo, e, fun X hX => ?_⟩
        obtain ⟨lb', lo', e', q1, q2⟩ := (HL.out X hX).at hil
        rw [e] at e'
        cases e'
        exact ⟨q1, q2⟩
      have hmem : l.getD i (0, 0) ∈ l := by rw [List.getD_eq_getElem?_getD, List.getElem?_eq_getElem hil]; exact List.getElem_mem hil
      have hxi := HIT.out _ hmem
      have hdb := HRB.out _ hxi
      have HTK : Hid (kerT R (l.take (i + 1)) s = kerT R (l.take i) s ++ (if aheadV R (l.getD i (0, 0)) = s then [((l.getD i (0, 0)).1, (l.getD i (0, 0)).2 + 1)] else [])) := by show _ = _; rw [take_at hil, kerT_append, kerT_one]
      have HAC : Hid (∀ X, wr.grownBy X none → Calls Try.prog 41 #[.agg #[.slice ta tn tc, .slice na nn nc, .slice la ln lc, .int .i64 st, .slice pa n pc], .agg #[.int .i64 (l.getD i (0, 0)).1, .int .i64 (l.getD i (0, 0)).2]] X fun e y => e = .returned (.int .i64 (aheadV R (l.getD i (0, 0)))) ∧ X.grownBy y none) := fun X hX => HAH.out X _ (grown_trans HPh.out.grown hX) hxi
      obtain ⟨sv, hsv⟩ : ∃ s, s = aheadV R (l.getD i (0, 0)) := ⟨_, rfl⟩
      rw [← hsv] at HAC HTK
      obtain ⟨x, hx⟩ : ∃ x, x = l.getD i (0, 0) := ⟨_, rfl⟩
      rw [← hx] at HAC HLC HTK hdb
      clear hsv hx hxi hmem hil
      obtain ⟨p, d⟩ := x
      simp only at HAC HLC HTK hdb
      obtain ⟨d2, hd2⟩ : ∃ d2 : Nat, d = (d2 : Int) := ⟨d.toNat, by omega⟩
      subst hd2
      have hd3 : d2 ≤ 17592186044416 := by omega
      have HUP : Hid (wr.grownBy wr.drew none) := grown_drewN wr 1
      have HKS : Hid (∀ Y, wr.grownBy Y none → (Y.cell? ⟨w.heap.size, 0, none⟩ = some (.slice ta tn tc) ∧ Y.cell? ⟨w.heap.size, 1, none⟩ = some (.slice na nn nc) ∧ Y.cell? ⟨w.heap.size, 2, none⟩ = some (.slice la ln lc) ∧ Y.cell? ⟨w.heap.size, 3, none⟩ = some (.int .i64 st) ∧ Y.cell? ⟨w.heap.size, 4, none⟩ = some (.slice pa n pc)) ∧ Y.cell? ⟨lb, lo + i * 2, none⟩ = some (.int .i64 p) ∧ Y.cell? ⟨lb, lo + i * 2 + 1, none⟩ = some (.int .i64 (d2 : Int))) := fun Y hY => ⟨(HPh.out.kept hY).cells, (HLC.out Y (grown_trans HPh.out.grown hY)).1, (HLC.out Y (grown_trans HPh.out.grown hY)).2⟩
      clear hdb
      go_wp2_with fail
      go_region_held3 (fun Y => (Y.cell? ⟨w.heap.size, 0, none⟩ = some (.slice ta tn tc) ∧ Y.cell? ⟨w.heap.size, 1, none⟩ = some (.slice na nn nc) ∧ Y.cell? ⟨w.heap.size, 2, none⟩ = some (.slice la ln lc) ∧ Y.cell? ⟨w.heap.size, 3, none⟩ = some (.int .i64 st) ∧ Y.cell? ⟨w.heap.size, 4, none⟩ = some (.slice pa n pc)) ∧ Y.cell? ⟨lb, lo + i * 2, none⟩ = some (.int .i64 p) ∧ Y.cell? ⟨lb, lo + i * 2 + 1, none⟩ = some (.int .i64 (d2 : Int))) (first | exact HKS.out _ HUP.out | exact HKS.out _ HG4.out | go_keep)
        ((first
          | (go_at_call 41; refine Calls.mono (HAC.out _ HUP.out) ?_; rintro e w4 ⟨rfl, hg4⟩; have HG4 : Hid (wr.grownBy w4 none) := grown_trans HUP.out hg4; clear hg4)
          | fail))
      have HP4 : Hid (PhAt w w4 w.heap.size #[.slice ta tn tc, .slice na nn nc, .slice la ln lc, .int .i64 st, .slice pa n pc]) := HPh.out.kept HG4.out
      have HO4 : Hid (∀ X, w4.grownBy X none → X.ownsRow w.heap.size 49 2 (.slice a' q c) q (itsV (kerT R (l.take i) s))) := fun X hX => keep0 HO.out (grown_trans HG4.out hX)
      clear HKS HUP HAC HPh HO
      by_cases hse : sv = s
      · have he : (sv == s) = true := beq_iff_eq.2 hse
        have HT2 : Hid (kerT R (l.take (i + 1)) s = kerT R (l.take i) s ++ [(p, (d2 : Int) + 1)]) := by show _ = _; rw [HTK.out, if_pos hse]
        have hwr : IntKind.i64.wrap ((d2 : Int) + 1) = (d2 : Int) + 1 := by rw [IntKind.wrap_i64]; omega
        have y0 := (HLC.out w4 HP4.out.grown).1
        have y1 := (HLC.out w4 HP4.out.grown).2
        have HSZ : Hid (∀ X, w4.grownBy X none → w.heap.size ≤ X.heap.size) := fun X hX => (grown_trans HP4.out.grown hX).size
        have HFI : Hid (∀ (Y Z : World) (v : Value), w4.grownBy Y none → Y.grownBy Z (Value.slice a' q c).ownBlock → Z.ownsRow w.heap.size 49 2 v (q + 1) (itsV (kerT R (l.take i) s) ++ [.int .i64 p, .int .i64 ((d2 : Int) + 1)]) → Z.ownsRow w.heap.size 49 2 v (q + 1) (itsV (kerT R (l.take (i + 1)) s)) ∧ PhAt w Z w.heap.size #[.slice ta tn tc, .slice na nn nc, .slice la ln lc, .int .i64 st, .slice pa n pc]) := fun Y Z v hY hg ho => by
          refine ⟨by rw [HT2.out, itsV_append]; exact ho, grown_row (HP4.out.kept hY).grown (HO4.out Y hY) (Nat.le_refl _) hg, ?_⟩
          have hb := (HP4.out.kept hY).box
          refine (hg.block _ (Array.getElem?_eq_some_iff.1 hb).1 ?_).trans hb
          rcases owns_nebox (HO4.out Y hY) hb (by decide) with h1 | h1
          · rw [h1]; simp
          · exact fun h2 => h1 h2.symm
        obtain ⟨xs, hxs⟩ : ∃ xs, xs = itsV (kerT R (l.take i) s) := ⟨_, rfl⟩
        rw [← hxs] at HO4 HFI
        clear hse hxs
        go_wp2_with fail
        go_region_law (first
          | (refine step_append_liesW _ rfl (.tmp 23) (.tmp 36) 40 rfl w.heap.size 49 i0 (.agg #[.int .i64 0, .int .i64 0]) 2 16 Try.underlying40 hi0 hz0 hz1 hz2 rfl (by decide) (.slice a' q c) q xs (by simp [Act.eval]) (HO4.out _ (grown_trans (World.grownBy_alloc _ _ none) (grown_drewN _ 1))) ⟨w4.heap.size, 0, none⟩ 1 1 [.int .i64 p, .int .i64 ((d2 : Int) + 1)] (by simp [Act.eval]) rfl (World.news_of_block (heap_alloc_last w4 _)) (by simp [Value.oneCell']) (by decide) (by unfold maxLen; omega) (by omega) (HSZ.out _ (grown_trans (World.grownBy_alloc _ _ none) (grown_drewN _ 1))) ?_; intro g7 c7 wB hoB hgB _; have HQ1 := show Hid _ from HFI.out _ wB _ (grown_trans (World.grownBy_alloc _ _ none) (grown_drewN _ 1)) hgB hoB; clear hoB hgB)
          | fail)
        all_goals go_wp2_with fail
        all_goals go_roundg (N - (i + 1))
        all_goals first
          | exact ⟨i + 1, q + 1, c7, _, by omega, rfl, rfl, by go_num, by rw [HT2.out, List.length_append, ← HQ.out]; rfl, by omega, HQ1.out.1, HQ1.out.2⟩
          | (have := HGI.out; omega)
      · have he : (sv == s) = false := beq_eq_false_iff_ne.2 hse
        have HT2 : Hid (kerT R (l.take (i + 1)) s = kerT R (l.take i) s) := by show _ = _; rw [HTK.out, if_neg hse, List.append_nil]
        clear hse
        go_wp2_with fail
        go_roundg (N - (i + 1))
        case measure => have := HGI.out; omega
        case rel => exact ⟨i + 1, q, c, a', by omega, rfl, rfl, by go_num, by rw [HT2.out]; exact HQ.out, by omega, by rw [HT2.out]; exact HO4.out _ (grown_refl _ _), HP4.out⟩
    · have hin : N = i := by omega
      subst hin
      have hid : decide (N < N) = false := decide_eq_false (by omega)
      have HTL : Hid (l.take N = l) := by show _ = _; rw [HN.out]; exact List.take_length
      rw [HTL.out] at HO HQ
      have HLA : Hid (Calls Try.prog 25 #[.slice a' q c] wr fun e y => LaidTold (kerT R l s) wr e y) := by
        have ho := HO.out
        rw [HQ.out] at ho ⊢
        exact laid_any a' c (kerT R l s) wr (ItsAt.of ho) (by rw [← HQ.out]; omega)
      go_wp2_with fail
      refine Calls.mono HLA.out ?_
      rintro e w5 ⟨l', h1, h2, h3, a5, c5, rfl, ho5, hg5⟩
      have HE : Hid (l' = kerT R l s) := h1.unique (kerT_asc HAS.out s) h2
      have HO5 : Hid (w5.ownsRow w.heap.size 49 2 (.slice a5 l'.length c5) l'.length (itsV l')) := owns_lowJ ho5 HPh.out.grown.size
      have HG5 : Hid (w.grownBy w5 none) := grown_trans HPh.out.grown hg5
      obtain ⟨m, hm⟩ : ∃ m, m = l'.length := ⟨_, rfl⟩
      have HM : Hid (m = l'.length) := hm
      rw [← hm]
      clear h1 h2 h3 ho5 hg5 hm HLA
      go_wp2_with fail
      go_ret
      exact ⟨a5, c5, by rw [← HE.out, ← HM.out]; rfl, by rw [← HE.out]; exact HO5.out, HG5.out⟩

end Go.Proofs.Ytdijjlhodlghbaa.J

/-
  lr0: the document's asked and Behind.
-/
namespace Go.Proofs.Ytdijjlhodlghbaa.J
open Go.RowKit Go.Maps Go.Shelf

attribute [local go_sem] Oper.semAt_some

section
variable (ta na la pa : Option Addr) (tc nc lc pc : Nat) (ts : List (ByteArray × Int)) (ns : List ByteArray) (lv : List Int) (n : Nat) (L : Nat → Int) (R : Nat → List Int) (ra : Nat → Option Addr) (rc : Nat → Nat) (V : Nat → Int) (st : Int) (w : World) (tn nn ln : Nat) (hlen : ts.length = tn ∧ ns.length = nn ∧ lv.length = ln) (hG : GAt w ta na la pa tc nc lc pc ts ns lv n L R ra rc V) (a : Option Addr) (cap : Nat) (I : List It) (hI : ItsAt w a I)
include hlen hG hI
end

/-- What Behind tells. -/
def BehTold (tn n : Nat) (L : Nat → Int) (R : Nat → List Int) (I : List It) (s : Int) (w : World) (e : Ending) (y : World) : Prop := ∃ l, IsClo tn n L R I l ∧ l.length ≤ I.length + 13000 ∧ ItsTold (kerT R l s) w e y

end Go.Proofs.Ytdijjlhodlghbaa.J

/-
  lr0: the document's Closure and Goto.
-/
namespace Go.Proofs.Ytdijjlhodlghbaa.J
open Go.RowKit Go.Maps Go.Shelf

attribute [local go_sem] Oper.semAt_some

section
variable (ta na la pa : Option Addr) (tc nc lc pc : Nat) (ts : List (ByteArray × Int)) (ns : List ByteArray) (lv : List Int) (n : Nat) (L : Nat → Int) (R : Nat → List Int) (ra : Nat → Option Addr) (rc : Nat → Nat) (V : Nat → Int) (st : Int) (w : World) (tn nn ln : Nat) (hlen : ts.length = tn ∧ ns.length = nn ∧ lv.length = ln) (hG : GAt w ta na la pa tc nc lc pc ts ns lv n L R ra rc V) (a : Option Addr) (cap : Nat) (I : List It) (hI : ItsAt w a I)
include hlen hG hI
end

end Go.Proofs.Ytdijjlhodlghbaa.J
