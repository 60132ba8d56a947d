import Derived.Test.YtdijjlhodlghbaaQkffcfiigjjme
import Derived.Test.YtdijjlhodlghbaaQgebfmhdknfjl
import Derived.Test.YtdijjlhodlghbaaQfhjjcabagdej
import Derived.Deep.RegionLaw
import Derived.Test.YtdijjlhodlghbaaQfhlhmekdlllp
import Derived.Deep.AppendSrc

/-
  lr0: the document's Closed.
-/
namespace Go.Proofs.Ytdijjlhodlghbaa.J
open Go.RowKit Go.Maps Go.Shelf

attribute [local go_sem] Oper.semAt_some

set_option maxRecDepth 100000 in
set_option maxHeartbeats 4000000 in
theorem rclos_any (ta na la pa : Option Addr) (tc nc lc pc : Nat) (n : Nat) (L : Nat → Int) (R : Nat → List Int) (ra : Nat → Option Addr) (rc : Nat → Nat) (V : Nat → Int) (st : Int) (w : World) (tn nn ln : Nat) (hP : ProdsAt w pa n L R ra rc V) (hn : n ≤ 97) (hn0 : 0 < n) (htn : tn ≤ 65) (hnn : nn ≤ 65) (hR : ∀ k, k < n → ∀ x ∈ R k, (0 : Int) ≤ x ∧ x < ((tn + nn : Nat) : Int)) (a : Option Addr) (cap : Nat) (I : List It) (hI : ItsAt w a I) (hIb : I.length ≤ 8796093022208) (hit : ∀ x ∈ I, itB n R x = true) :
    Calls Try.prog 27 #[.agg #[.slice ta tn tc, .slice na nn nc, .slice la ln lc, .int .i64 st, .slice pa n pc], .slice a I.length cap] w fun e y => CloTold tn n L R I w e y := by
  obtain ⟨S, hS⟩ : ∃ S, S = tn + nn := ⟨_, rfl⟩
  have HSE : Hid (S = tn + nn) := hS
  have hSz : S ≤ 130 := by omega
  have HSY : Hid (∀ X, Calls Try.prog 24 #[.agg #[.slice ta tn tc, .slice na nn nc, .slice la ln lc, .int .i64 st, .slice pa n pc]] X fun e y => e = .returned (.int .i64 (S : Int)) ∧ X.grownBy y none) := fun X => by
    refine (Go.Proofs.Ytdijjlhodlghbaa.symbols_any ta na la pa tn nn ln n tc nc lc pc st X (by omega) (by omega)).mono ?_
    rintro e y ⟨rfl, hg⟩
    exact ⟨by rw [hS, Int.natCast_add], hg⟩
  have HAH : Hid (∀ X x, w.grownBy X none → itB n R x = true → Calls Try.prog 41 #[.agg #[.slice ta tn tc, .slice na nn nc, .slice la ln lc, .int .i64 st, .slice pa n pc], .agg #[.int .i64 x.1, .int .i64 x.2]] X fun e y => e = .returned (.int .i64 (aheadV R x)) ∧ X.grownBy y none) := fun X x hX hx => rafter_any ta na la pa tc nc lc pc n L R ra rc V st X tn nn ln (prods_kept hP hX) x hx
  have HAR : Hid (∀ x, itB n R x = true → aheadV R x = -1 ∨ ((0 : Int) ≤ aheadV R x ∧ aheadV R x < (S : Int))) := fun x hx => aheadV_range (by rw [hS]; exact hR) hx
  have HIT : Hid (∀ x ∈ I, itB n R x = true) := hit
  obtain ⟨bp, op, rfl, hp⟩ : ∃ bp op, pa = some ⟨bp, op, none⟩ ∧ ∀ k, k < n → w.cell? ⟨bp, op + k * 3, none⟩ = some (.int .i64 (L k)) := by
    rcases hP with h | ⟨bp, op, e, h⟩
    · omega
    · exact ⟨bp, op, e, fun k hk => (h k hk).1⟩
  have HPC : Hid (∀ k, k < n → ∀ X, w.grownBy X none → X.cell? ⟨bp, op + k * 3, none⟩ = some (.int .i64 (L k))) := fun k hk X hX => hX.cell (hp k hk) (by simp)
  obtain ⟨ll, hle⟩ : ∃ m, m = I.length := ⟨_, rfl⟩
  have HLE : Hid (ll = I.length) := hle
  have HLA : Hid (∀ X, w.grownBy X none → Calls Try.prog 25 #[.slice a ll cap] X fun e y => LaidTold I X e y) := fun X hX => by rw [hle]; exact laid_any a cap I X (hI.kept hX) (by omega)
  rw [← hle] at hIb
  rw [← hle]
  have HX0 : Hid (PhAt w (w.alloc (.cells #[.slice ta tn tc, .slice na nn nc, .slice la ln lc, .int .i64 st, .slice (some ⟨bp, op, none⟩) n pc] 27)) w.heap.size #[.slice ta tn tc, .slice na nn nc, .slice la ln lc, .int .i64 st, .slice (some ⟨bp, op, none⟩) n pc]) := ⟨World.grownBy_alloc _ _ none, heap_alloc_last w _⟩
  obtain ⟨i0, hi0, hz0, hz1, hz2⟩ := info_parts infoItem
  obtain ⟨i1, hi1, hy0, hy1, hy2⟩ := info_parts infoBool
  clear hP hR hI hit hle hS hp
  go_enter Try.func27, Try.ntmps27
  go_wp2_with fail
  refine Calls.mono (HLA.out _ HX0.out.grown) ?_
  rintro e w1 ⟨A0, hA1, hA2, hA3, a5, c5, rfl, ho1, hg1⟩
  have HA0 : Hid (∀ x, x ∈ A0 ↔ x ∈ I) := hA2
  obtain ⟨q0, hq0⟩ : ∃ q, q = A0.length := ⟨_, rfl⟩
  have HQ0 : Hid (q0 = A0.length ∧ q0 ≤ ll) := ⟨hq0, by rw [hq0, HLE.out]; exact hA3⟩
  rw [← hq0] at ho1
  rw [← hq0]
  have HX1 : Hid (PhAt w w1 w.heap.size #[.slice ta tn tc, .slice na nn nc, .slice la ln lc, .int .i64 st, .slice (some ⟨bp, op, none⟩) n pc]) := HX0.out.kept hg1
  have HO1 : Hid (w1.ownsRow w.heap.size 49 2 (.slice a5 q0 c5) q0 (itsV A0)) := owns_lowJ ho1 HX0.out.grown.size
  clear hA1 hA2 hA3 ho1 hg1 hq0 HX0
  obtain ⟨k0, k1, k2, k3, k4⟩ := HX1.out.cells
  go_wp2_with fail
  refine Calls.mono (HSY.out _) ?_
  rintro e w2 ⟨rfl, hg2⟩
  have HX2 : Hid (PhAt w w2 w.heap.size #[.slice ta tn tc, .slice na nn nc, .slice la ln lc, .int .i64 st, .slice (some ⟨bp, op, none⟩) n pc]) := HX1.out.kept hg2
  have HO2 : Hid (w2.ownsRow w.heap.size 49 2 (.slice a5 q0 c5) q0 (itsV A0)) := keep0 HO1.out hg2
  clear hg2 k0 k1 k2 k3 k4 HX1 HO1
  go_wp2_with (at_make; refine wpList_make_full _ rfl _ _ 54 rfl w2.heap.size 4 i1 (.bool false) 1 Try.underlying54 hi1 hy0 hy1 .i64 .i64 _ _ S rfl rfl (by simp) (by simp) (by rw [hy2]; omega) (by unfold maxLen; omega) (by simp) ?_)
  intro w3 hown hgrow
  have hval : ValAt w3 w2.heap.size S 4 (fun _ => .bool false) := made_rowK (B := w2.heap.size) rfl (by simpa [Value.cells] using hown)
  obtain ⟨mb, hmb⟩ : ∃ mb, mb = w2.heap.size := ⟨_, rfl⟩
  rw [← hmb] at hval
  rw [← hmb]
  have HC0 : Hid (ClAt w w3 #[.slice ta tn tc, .slice na nn nc, .slice la ln lc, .int .i64 st, .slice (some ⟨bp, op, none⟩) n pc] mb S (fun _ => false) a5 q0 c5 A0) := ⟨grown_trans HX2.out.grown hgrow, box_kept HX2.out.box hgrow, hval, by have := (Array.getElem?_eq_some_iff.1 HX2.out.box).1; omega, keep0 HO2.out hgrow⟩
  have HW0 : Hid (CwP tn n L R I A0 (fun _ => false) 0) := CwP.start' HA0.out
  have HU0 : Hid (q0 + unm S (fun _ => false) * 97 ≤ ll + 12610) := by have := unm_le S (fun _ => false); have := HQ0.out.2; show _ ≤ _; omega
  clear hown hgrow hval hmb HX2 HO2
  go_wp2_with fail
  go_loopg [5, 7] (unm S (fun _ => false) * 98 + q0) (fun gk v5 v7 wr => ∃ (i q c' : Nat) (a' : Option Addr) (b : Nat → Bool) (A : List It), v5 = .slice a' q c' ∧ v7 = .int .i64 i ∧ q = A.length ∧ i ≤ q ∧ gk = unm S b * 98 + (q - i) ∧ q + unm S b * 97 ≤ ll + 12610 ∧ CwP tn n L R I A b i ∧ ClAt w wr #[.slice ta tn tc, .slice na nn nc, .slice la ln lc, .int .i64 st, .slice (some ⟨bp, op, none⟩) n pc] mb S b a' q c' A)
  case atStart => exact ⟨0, q0, c5, a5, fun _ => false, A0, rfl, rfl, HQ0.out.1, Nat.zero_le _, rfl, HU0.out, HW0.out, HC0.out⟩
  case round =>
    obtain ⟨i, q, c', a', b, A, rfl, rfl, hq, hiq, hgk, hub, hW, hC⟩ := hrel
    have HQ : Hid (q = A.length) := hq
    have HGK : Hid (gk = unm S b * 98 + (q - i)) := hgk
    have HUB : Hid (q + unm S b * 97 ≤ ll + 12610) := hub
    have HW : Hid (CwP tn n L R I A b i) := hW
    have HC : Hid (ClAt w wr #[.slice ta tn tc, .slice na nn nc, .slice la ln lc, .int .i64 st, .slice (some ⟨bp, op, none⟩) n pc] mb S b a' q c' A) := hC
    have hqb : q ≤ 8796093034818 := by omega
    clear hq hgk hub hW hC HC0 HW0 HU0
    obtain ⟨k0, k1, k2, k3, k4⟩ := HC.out.ph.cells
    by_cases hlt : i < q
    · have hi0' : (0 : Int) ≤ (i : Int) := by omega
      have hi1' : (i : Int) < (q : Int) := by omega
      have hid : decide (i < q) = true := decide_eq_true hlt
      have hiA : i < A.length := by rw [← HQ.out]; exact hlt
      obtain ⟨gb, rfl, c0, c1⟩ : ∃ gb, a' = some ⟨gb, 0, none⟩ ∧ wr.cell? ⟨gb, i * 2, none⟩ = some (.int .i64 (A.getD i (0, 0)).1) ∧ wr.cell? ⟨gb, i * 2 + 1, none⟩ = some (.int .i64 (A.getD i (0, 0)).2) := by
        have ho := HC.out.own
        rcases ho.2 with ⟨_, h⟩ | ⟨g, cap, cur, hv, hB, hh, _, _, hs, ht⟩
        · omega
        · simp only [Value.slice.injEq] at hv
          refine ⟨g, hv.1, ?_⟩
          obtain ⟨h3, h4⟩ := itsV_at A i hiA
          rw [← ht, List.getElem?_take, if_pos (by omega)] at h3 h4
          rw [cell_of_row _ _ _ _ _ _ hh, cell_of_row _ _ _ _ _ _ hh]
          exact ⟨by simpa using h3, by simpa using h4⟩
      have hxi : itB n R (A.getD i (0, 0)) = true := by
        refine (HW.out.mem _ ?_).item HIT.out
        rw [List.getD_eq_getElem?_getD, List.getElem?_eq_getElem hiA]; exact List.getElem_mem hiA
      have hrg := HAR.out _ hxi
      have HAC : Hid (∀ X, wr.grownBy X none → Calls Try.prog 41 #[.agg #[.slice ta tn tc, .slice na nn nc, .slice la ln lc, .int .i64 st, .slice (some ⟨bp, op, none⟩) n pc], .agg #[.int .i64 (A.getD i (0, 0)).1, .int .i64 (A.getD i (0, 0)).2]] X fun e y => e = .returned (.int .i64 (aheadV R (A.getD i (0, 0)))) ∧ X.grownBy y none) := fun X hX => HAH.out X _ (grown_trans HC.out.grown hX) hxi
      obtain ⟨sv, hsv⟩ : ∃ s, s = aheadV R (A.getD i (0, 0)) := ⟨_, rfl⟩
      have HSV : Hid (sv = aheadV R (A.getD i (0, 0))) := hsv
      rw [← hsv] at HAC hrg
      obtain ⟨x, hx⟩ : ∃ x, x = A.getD i (0, 0) := ⟨_, rfl⟩
      rw [← hx] at HAC c0 c1
      clear hsv hx hxi
      obtain ⟨p, d⟩ := x
      simp only at HAC c0 c1
      have HUP : Hid (wr.grownBy wr.drew none) := grown_drewN wr 1
      have HKS : Hid (∀ Y, wr.grownBy Y none → (Y.cell? ⟨w.heap.size, 0, none⟩ = some (.slice ta tn tc) ∧ Y.cell? ⟨w.heap.size, 1, none⟩ = some (.slice na nn nc) ∧ Y.cell? ⟨w.heap.size, 2, none⟩ = some (.slice la ln lc) ∧ Y.cell? ⟨w.heap.size, 3, none⟩ = some (.int .i64 st) ∧ Y.cell? ⟨w.heap.size, 4, none⟩ = some (.slice (some ⟨bp, op, none⟩) n pc)) ∧ Y.cell? ⟨gb, i * 2, none⟩ = some (.int .i64 p) ∧ Y.cell? ⟨gb, i * 2 + 1, none⟩ = some (.int .i64 d)) := fun Y hY => ⟨(HC.out.kept hY).ph.cells, hY.cell c0 (by simp), hY.cell c1 (by simp)⟩
      clear k0 k1 k2 k3 k4 c0 c1
      go_wp2_with fail
      go_region_held3 (fun Y => (Y.cell? ⟨w.heap.size, 0, none⟩ = some (.slice ta tn tc) ∧ Y.cell? ⟨w.heap.size, 1, none⟩ = some (.slice na nn nc) ∧ Y.cell? ⟨w.heap.size, 2, none⟩ = some (.slice la ln lc) ∧ Y.cell? ⟨w.heap.size, 3, none⟩ = some (.int .i64 st) ∧ Y.cell? ⟨w.heap.size, 4, none⟩ = some (.slice (some ⟨bp, op, none⟩) n pc)) ∧ Y.cell? ⟨gb, i * 2, none⟩ = some (.int .i64 p) ∧ Y.cell? ⟨gb, i * 2 + 1, none⟩ = some (.int .i64 d)) (first | exact HKS.out _ HUP.out | exact HKS.out _ HG4.out | go_keep)
        ((first
          | (go_at_call 41; refine Calls.mono (HAC.out _ HUP.out) ?_; rintro e w4 ⟨rfl, hg4⟩; have HG4 : Hid (wr.grownBy w4 none) := grown_trans HUP.out hg4; clear hg4)
          | fail))
      have HC4 : Hid (ClAt w w4 #[.slice ta tn tc, .slice na nn nc, .slice la ln lc, .int .i64 st, .slice (some ⟨bp, op, none⟩) n pc] mb S b (some ⟨gb, 0, none⟩) q c' A) := HC.out.kept HG4.out
      clear HKS HUP HAC HC
      obtain ⟨k0, k1, k2, k3, k4⟩ := HC4.out.ph.cells
      by_cases hst : sv < (tn : Int)
      · have hd : decide (sv < (tn : Int)) = true := decide_eq_true hst
        have HSK : Hid (CwP tn n L R I A b (i + 1)) := HW.out.skip fun h => absurd h (by rw [← HSV.out]; omega)
        clear hst hrg
        go_wp2_with fail
        go_roundg (unm S b * 98 + (q - (i + 1)))
        case measure => have := HGK.out; omega
        case rel => exact ⟨i + 1, q, c', _, b, A, rfl, by go_num, HQ.out, by omega, rfl, HUB.out, HSK.out, HC4.out⟩
      · obtain ⟨s, rfl⟩ : ∃ s : Nat, sv = (s : Int) := ⟨sv.toNat, by omega⟩
        have hsS : s < S := by omega
        have hts : tn ≤ s := by omega
        have hd : decide (s < tn) = false := decide_eq_false (by omega)
        have hd2 : decide ((s : Int) < (tn : Int)) = false := decide_eq_false (by omega)
        have hs0 : (0 : Int) ≤ (s : Int) := by omega
        have hs1 : (s : Int) < (S : Int) := by omega
        have m0 := HC4.out.mark.cell s hsS
        have m1 := HC4.out.mark.free s
        obtain ⟨bs, hbs⟩ : ∃ x, x = b s := ⟨_, rfl⟩
        have HBSV : Hid (bs = b s) := hbs
        rw [← hbs] at m0
        clear hst hrg hbs
        cases bs with
        | true =>
          have HSK : Hid (CwP tn n L R I A b (i + 1)) := HW.out.skip fun _ => by rw [← HSV.out, Int.toNat_natCast]; exact HBSV.out.symm
          go_wp2_with fail
          go_roundg (unm S b * 98 + (q - (i + 1)))
          case measure => have := HGK.out; omega
          case rel => exact ⟨i + 1, q, c', _, b, A, rfl, by go_num, HQ.out, by omega, rfl, HUB.out, HSK.out, HC4.out⟩
        | false =>
          have HUM : Hid (unm S (markT b s) + 1 = unm S b) := unm_mark b s HBSV.out.symm S hsS
          have HCT : Hid (ClAt w (w4.setCell ⟨mb, s, none⟩ (.bool true)) #[.slice ta tn tc, .slice na nn nc, .slice la ln lc, .int .i64 st, .slice (some ⟨bp, op, none⟩) n pc] mb S (markT b s) (some ⟨gb, 0, none⟩) q c' A) := HC4.out.tick
          obtain ⟨X5, hX5⟩ : ∃ X5, X5 = w4.setCell ⟨mb, s, none⟩ (.bool true) := ⟨_, rfl⟩
          have HX5 : Hid (X5 = w4.setCell ⟨mb, s, none⟩ (.bool true)) := hX5
          rw [← hX5] at HCT
          clear hX5 HC4 k0 k1 k2 k3 k4
          have k0 : True := trivial
          go_wp2_with fail
          rw [← HX5.out]
          clear m0 m1 k0
          go_loopg [5, 9] n (fun gp v5 v9 wr => ∃ (pp q2 c2 : Nat) (a2 : Option Addr) (M : List It), pp ≤ n ∧ gp = n - pp ∧ v5 = .slice a2 q2 c2 ∧ v9 = .int .i64 pp ∧ q2 = (A ++ M).length ∧ q2 ≤ q + pp ∧ (∀ x ∈ M, ∃ k : Nat, k < n ∧ L k = (s : Int) ∧ x = ((k : Int), (0 : Int))) ∧ (∀ k : Nat, k < pp → L k = (s : Int) → ((k : Int), (0 : Int)) ∈ A ++ M) ∧ ClAt w wr #[.slice ta tn tc, .slice na nn nc, .slice la ln lc, .int .i64 st, .slice (some ⟨bp, op, none⟩) n pc] mb S (markT b s) a2 q2 c2 (A ++ M))
          case atStart => exact ⟨0, q, c', _, [], Nat.zero_le _, rfl, rfl, rfl, by rw [List.append_nil]; exact HQ.out, Nat.le_refl _, fun x hx => (by cases hx), fun k hk => absurd hk (Nat.not_lt_zero _), by rw [List.append_nil]; exact HCT.out⟩
          case round =>
            obtain ⟨pp, q2, c2, a2, M, hpn, hgp, rfl, rfl, hq2, hqp, hM, hall, hC5⟩ := hrel
            have HGP : Hid (gk = n - pp) := hgp
            have HQ2 : Hid (q2 = (A ++ M).length) := hq2
            have HMM : Hid (∀ x ∈ M, ∃ k : Nat, k < n ∧ L k = (s : Int) ∧ x = ((k : Int), (0 : Int))) := hM
            have HALL : Hid (∀ k : Nat, k < pp → L k = (s : Int) → ((k : Int), (0 : Int)) ∈ A ++ M) := hall
            have HC5 : Hid (ClAt w wr #[.slice ta tn tc, .slice na nn nc, .slice la ln lc, .int .i64 st, .slice (some ⟨bp, op, none⟩) n pc] mb S (markT b s) a2 q2 c2 (A ++ M)) := hC5
            clear hgp hq2 hM hall hC5 HCT
            obtain ⟨k0, k1, k2, k3, k4⟩ := HC5.out.ph.cells
            by_cases hpl : pp < n
            · have hp0 : (0 : Int) ≤ (pp : Int) := by omega
              have hp1 : (pp : Int) < (n : Int) := by omega
              have hpd : decide (pp < n) = true := decide_eq_true hpl
              obtain ⟨Y, hY⟩ : ∃ Y, Y = wr.alloc (.cells #[.int .i64 (pp : Int), .int .i64 0] 49) := ⟨_, rfl⟩
              have HYE : Hid (Y = wr.alloc (.cells #[.int .i64 (pp : Int), .int .i64 0] 49)) := hY
              have HGY : Hid (wr.grownBy Y none) := by rw [hY]; exact World.grownBy_alloc _ _ none
              have HBY : Hid (Y.heap[wr.heap.size]? = some (.cells #[.int .i64 (pp : Int), .int .i64 0] 49 (0, 0))) := by rw [hY]; exact heap_alloc_last wr _
              have HCY : Hid (ClAt w Y #[.slice ta tn tc, .slice na nn nc, .slice la ln lc, .int .i64 st, .slice (some ⟨bp, op, none⟩) n pc] mb S (markT b s) a2 q2 c2 (A ++ M)) := HC5.out.kept HGY.out
              have p0 := HPC.out pp hpl Y HCY.out.grown
              obtain ⟨j0, j1, j2, j3, j4⟩ := HCY.out.ph.cells
              obtain ⟨lk, hlk⟩ : ∃ x, x = L pp := ⟨_, rfl⟩
              have HLK : Hid (lk = L pp) := hlk
              rw [← hlk] at p0
              rw [hY] at p0 j0 j1 j2 j3 j4
              clear hlk hY
              by_cases hls : lk = (s : Int)
              · have hne : (lk != (s : Int)) = false := by rw [hls]; exact bne_self_eq_false _
                obtain ⟨rh, hrh⟩ := boolOf (((pp : Int), (0 : Int)) ∈ A ++ M)
                have HRH : Hid (rh = true ↔ ((pp : Int), (0 : Int)) ∈ A ++ M) := hrh
                have HHA : Hid (Calls Try.prog 42 #[.slice a2 q2 c2, .agg #[.int .i64 (pp : Int), .int .i64 0]] Y fun e y => e = .returned (.bool rh) ∧ Y.grownBy y none) := by
                  have ho := HCY.out.own
                  rw [HQ2.out] at ho ⊢
                  exact rhas_any a2 c2 (A ++ M) ((pp : Int), 0) Y (ItsAt.of ho) (by rw [← HQ2.out]; omega) rh hrh
                have HLS : Hid (L pp = (s : Int)) := by show _ = _; rw [← HLK.out]; exact hls
                clear hrh hls
                go_wp2_with fail
                rw [← HYE.out]
                refine Calls.mono HHA.out ?_
                rintro e w7 ⟨rfl, hg7⟩
                have HC7 : Hid (ClAt w w7 #[.slice ta tn tc, .slice na nn nc, .slice la ln lc, .int .i64 st, .slice (some ⟨bp, op, none⟩) n pc] mb S (markT b s) a2 q2 c2 (A ++ M)) := HCY.out.kept hg7
                have HB7 : Hid (w7.heap[wr.heap.size]? = some (.cells #[.int .i64 (pp : Int), .int .i64 0] 49 (0, 0))) := box_kept HBY.out hg7
                clear hg7 p0 j0 j1 j2 j3 j4 k0 k1 k2 k3 k4 HHA
                cases rh with
                | true =>
                  have HAL2 : Hid (∀ k : Nat, k < pp + 1 → L k = (s : Int) → ((k : Int), (0 : Int)) ∈ A ++ M) := fun k hk hl => by
                    by_cases e : k = pp
                    · rw [e]; exact HRH.out.1 rfl
                    · exact HALL.out k (by omega) hl
                  clear HRH
                  go_wp2_with fail
                  go_roundg (n - (pp + 1))
                  case measure => have := HGP.out; omega
                  case rel => exact ⟨pp + 1, q2, c2, a2, M, by omega, rfl, rfl, by go_num, HQ2.out, by omega, HMM.out, HAL2.out, HC7.out⟩
                | false =>
                  have b0 : w7.cell? ⟨wr.heap.size, 0, none⟩ = some (.int .i64 (pp : Int)) := by rw [cell_of_row _ _ _ _ _ _ HB7.out]; rfl
                  have b1 : w7.cell? ⟨wr.heap.size, 1, none⟩ = some (.int .i64 0) := by rw [cell_of_row _ _ _ _ _ _ HB7.out]; rfl
                  have HAL2 : Hid (∀ k : Nat, k < pp + 1 → L k = (s : Int) → ((k : Int), (0 : Int)) ∈ A ++ (M ++ [((pp : Int), (0 : Int))])) := fun k hk hl => by
                    rw [← List.append_assoc]
                    by_cases e : k = pp
                    · rw [e]; simp
                    · exact List.mem_append_left _ (HALL.out k (by omega) hl)
                  have HMM2 : Hid (∀ x ∈ M ++ [((pp : Int), (0 : Int))], ∃ k : Nat, k < n ∧ L k = (s : Int) ∧ x = ((k : Int), (0 : Int))) := fun x hx => by
                    rcases List.mem_append.1 hx with hx | hx
                    · exact HMM.out x hx
                    · exact ⟨pp, hpl, HLS.out, List.mem_singleton.1 hx⟩
                  have HOW : Hid (ClAt w (w7.alloc (.cells #[.int .i64 (pp : Int), .int .i64 0] 49)) #[.slice ta tn tc, .slice na nn nc, .slice la ln lc, .int .i64 st, .slice (some ⟨bp, op, none⟩) n pc] mb S (markT b s) a2 q2 c2 (A ++ M)) := HC7.out.kept (World.grownBy_alloc _ _ none)
                  have HNW : Hid (∀ j z, [Value.int .i64 (pp : Int), Value.int .i64 0][j]? = some z → (w7.alloc (.cells #[.int .i64 (pp : Int), .int .i64 0] 49)).cell? ((⟨w7.heap.size, 0, none⟩ : Addr).add j) = some z) := news_new w7 _ _
                  clear HRH
                  go_wp2_with (at_builtin; refine wpList_append_srcW rfl (.tmp 65) (.tmp 67) 40 rfl w.heap.size 49 i0 (.agg #[.int .i64 0, .int .i64 0]) 2 16 Try.underlying40 hi0 hz0 hz1 hz2 rfl (by decide) (.slice a2 q2 c2) q2 (itsV (A ++ M)) rfl HOW.out.own (some ⟨w7.heap.size, 0, none⟩) 1 1 [.int .i64 (pp : Int), .int .i64 0] rfl (fun h => by cases h) rfl (fun ad e => by cases e; exact HNW.out) (by simp [Value.oneCell']) (by unfold maxLen; omega) (by omega) HOW.out.grown.size ?_; intro v8 wB hoB hgB; have hoB2 : wB.ownsRow w.heap.size 49 2 v8 (q2 + 1) (itsV (A ++ (M ++ [((pp : Int), (0 : Int))]))) := (by rw [← List.append_assoc, itsV_append]; exact hoB); obtain ⟨a8, c8, rfl, hC8⟩ := HOW.out.more hgB hoB2; have HC8 := show Hid _ from hC8; clear hoB hgB hC8 hoB2)
                  go_roundg (n - (pp + 1))
                  case measure => have := HGP.out; omega
                  case rel => exact ⟨pp + 1, q2 + 1, c8, a8, M ++ [((pp : Int), (0 : Int))], by omega, rfl, rfl, by go_num, by rw [← List.append_assoc, List.length_append, ← HQ2.out]; rfl, by omega, HMM2.out, HAL2.out, HC8.out⟩
              · have hne : (lk != (s : Int)) = true := bne_iff_ne.2 hls
                have HAL2 : Hid (∀ k : Nat, k < pp + 1 → L k = (s : Int) → ((k : Int), (0 : Int)) ∈ A ++ M) := fun k hk hl => by
                  by_cases e : k = pp
                  · rw [e] at hl; exact absurd (HLK.out.trans hl) hls
                  · exact HALL.out k (by omega) hl
                clear hls
                go_wp2_with fail
                rw [← HYE.out]
                go_roundg (n - (pp + 1))
                case measure => have := HGP.out; omega
                case rel => exact ⟨pp + 1, q2, c2, a2, M, by omega, rfl, rfl, by go_num, HQ2.out, by omega, HMM.out, HAL2.out, HCY.out⟩
            · have hpk : n = pp := by omega
              subst hpk
              have hpd : decide (n < n) = false := decide_eq_false (by omega)
              have HBR : Hid (CwP tn n L R I (A ++ M) (markT b s) (i + 1)) := HW.out.bring' (by rw [← HQ.out]; exact hlt) HSV.out.symm hts (fun j => by
                unfold markT
                by_cases e : j = s
                · simp [e]
                · simp [e]) HMM.out HALL.out
              go_wp2_with fail
              go_roundg (unm S (markT b s) * 98 + (q2 - (i + 1)))
              case measure => have h1 := HGK.out; have h2 := HUM.out; omega
              case rel => exact ⟨i + 1, q2, c2, a2, markT b s, A ++ M, rfl, by go_num, HQ2.out, by
                have h1 := HQ2.out
                rw [List.length_append, ← HQ.out] at h1
                omega, rfl, by have h1 := HUB.out; have h2 := HUM.out; omega, HBR.out, HC5.out⟩
    · have hin : q = i := by omega
      subst hin
      have hid : decide (q < q) = false := decide_eq_false (by omega)
      have HMEM : Hid (∀ x, x ∈ A ↔ Clo tn n L R I x) := HW.out.fin (by rw [HQ.out]; exact Nat.le_refl _)
      have HLF : Hid (Calls Try.prog 25 #[.slice a' q c'] wr fun e y => LaidTold A wr e y) := by
        have ho := HC.out.own
        rw [HQ.out] at ho ⊢
        exact laid_any a' c' A wr (ItsAt.of ho) (by rw [← HQ.out]; omega)
      clear k0 k1 k2 k3 k4
      go_wp2_with fail
      refine Calls.mono HLF.out ?_
      rintro e w4 ⟨l', h1, h2, h3, a4, c4, rfl, ho4, hg4⟩
      have HIC : Hid (IsClo tn n L R I l') := ⟨h1, fun x => (h2 x).trans (HMEM.out x)⟩
      have HL4 : Hid (l'.length ≤ q) := by rw [HQ.out]; exact h3
      have HG4 : Hid (w.grownBy w4 none) := grown_trans HC.out.grown hg4
      have HO4 : Hid (w4.ownsRow w.heap.size 49 2 (.slice a4 l'.length c4) l'.length (itsV l')) := owns_lowJ ho4 HC.out.grown.size
      obtain ⟨m, hm⟩ : ∃ m, m = l'.length := ⟨_, rfl⟩
      have HM : Hid (m = l'.length) := hm
      rw [← hm]
      clear h1 h2 h3 ho4 hg4 hm HLF HC HW
      go_wp2_with fail
      go_ret
      refine ⟨l', HIC.out, ?_, a4, c4, by rw [← HM.out]; rfl, HO4.out, HG4.out⟩
      have h2 := HL4.out
      have h3 := HUB.out
      rw [← HLE.out]
      omega

end Go.Proofs.Ytdijjlhodlghbaa.J

/-
  lr0: the document's from.
-/
namespace Go.Proofs.Ytdijjlhodlghbaa.J
open Go.RowKit Go.Maps Go.Shelf

attribute [local go_sem] Oper.semAt_some

end Go.Proofs.Ytdijjlhodlghbaa.J

/-
  lr0: the document's asked and Behind.
-/
namespace Go.Proofs.Ytdijjlhodlghbaa.J
open Go.RowKit Go.Maps Go.Shelf

attribute [local go_sem] Oper.semAt_some

section
variable (ta na la pa : Option Addr) (tc nc lc pc : Nat) (ts : List (ByteArray × Int)) (ns : List ByteArray) (lv : List Int) (n : Nat) (L : Nat → Int) (R : Nat → List Int) (ra : Nat → Option Addr) (rc : Nat → Nat) (V : Nat → Int) (st : Int) (w : World) (tn nn ln : Nat) (hlen : ts.length = tn ∧ ns.length = nn ∧ lv.length = ln) (hG : GAt w ta na la pa tc nc lc pc ts ns lv n L R ra rc V) (a : Option Addr) (cap : Nat) (I : List It) (hI : ItsAt w a I)
include hlen hG hI
end

/-- What Behind tells. -/
def BehTold (tn n : Nat) (L : Nat → Int) (R : Nat → List Int) (I : List It) (s : Int) (w : World) (e : Ending) (y : World) : Prop := ∃ l, IsClo tn n L R I l ∧ l.length ≤ I.length + 13000 ∧ ItsTold (kerT R l s) w e y

end Go.Proofs.Ytdijjlhodlghbaa.J

/-
  lr0: the document's Closure and Goto.
-/
namespace Go.Proofs.Ytdijjlhodlghbaa.J
open Go.RowKit Go.Maps Go.Shelf

attribute [local go_sem] Oper.semAt_some

section
variable (ta na la pa : Option Addr) (tc nc lc pc : Nat) (ts : List (ByteArray × Int)) (ns : List ByteArray) (lv : List Int) (n : Nat) (L : Nat → Int) (R : Nat → List Int) (ra : Nat → Option Addr) (rc : Nat → Nat) (V : Nat → Int) (st : Int) (w : World) (tn nn ln : Nat) (hlen : ts.length = tn ∧ ns.length = nn ∧ lv.length = ln) (hG : GAt w ta na la pa tc nc lc pc ts ns lv n L R ra rc V) (a : Option Addr) (cap : Nat) (I : List It) (hI : ItsAt w a I)
include hlen hG hI
end

end Go.Proofs.Ytdijjlhodlghbaa.J

/-
  trans: a queue of numbers: what is left of a row, from some place on; and append onto it.
-/
namespace Go.Proofs.Ytdijjlhodlghbaa.J
open Go.RowKit Go.Maps Go.Shelf

/-- A queue of numbers, from block B on. -/
def QueAt (X : World) (B : Nat) (a : Option Addr) (cap : Nat) (xs : List Int) : Prop :=
  xs.length ≤ cap ∧ (cap ≠ 0 → ∃ g off cur, a = some ⟨g, off, none⟩ ∧ B ≤ g ∧ X.heap[g]? = some (.cells cur 3 (0, 0)) ∧ off + cap ≤ cur.size ∧ ∀ i, i < xs.length → cur[off + i]? = some (.int .i64 (xs.getD i 0)))
section
variable {X Y : World} {B cap : Nat} {a : Option Addr} {xs : List Int}
theorem QueAt.kept (h : QueAt X B a cap xs) (hg : X.grownBy Y none) : QueAt Y B a cap xs := by
  refine ⟨h.1, fun hc => ?_⟩
  obtain ⟨g, off, cur, h1, h2, h3, h4⟩ := h.2 hc
  exact ⟨g, off, cur, h1, h2, (hg.block g (Array.getElem?_eq_some_iff.1 h3).1 (by simp)).trans h3, h4⟩
theorem QueAt.other {b : Nat} {cs : Array Value} {t : TypeId} (h : QueAt X B a cap xs) (hg : X.grownBy Y (some b)) (hb : X.heap[b]? = some (.cells cs t (0, 0))) (ht : t ≠ 3) : QueAt Y B a cap xs := by
  refine ⟨h.1, fun hc => ?_⟩
  obtain ⟨g, off, cur, h1, h2, h3, h4⟩ := h.2 hc
  refine ⟨g, off, cur, h1, h2, (hg.block g (Array.getElem?_eq_some_iff.1 h3).1 ?_).trans h3, h4⟩
  intro e
  have : g = b := by simpa using e
  subst this
  rw [h3] at hb
  cases hb
  exact ht rfl
theorem QueAt.head {x : Int} {ys : List Int} (h : QueAt X B a cap (x :: ys)) : ∃ g off, a = some ⟨g, off, none⟩ ∧ X.cell? ⟨g, off, none⟩ = some (.int .i64 x) := by
  have hc : cap ≠ 0 := by have := h.1; simp at this; omega
  obtain ⟨g, off, cur, h1, h2, h3, h4, h5⟩ := h.2 hc
  refine ⟨g, off, h1, ?_⟩
  rw [cell_of_row _ _ _ _ _ _ h3]
  simpa using h5 0 (by simp)
theorem QueAt.tail {x : Int} {ys : List Int} {g off : Nat} (h : QueAt X B (some ⟨g, off, none⟩) cap (x :: ys)) (a' : Option Addr) (ha : 1 < cap → a' = some ⟨g, off + 1, none⟩) : QueAt X B a' (cap - 1) ys := by
  have hl := h.1
  simp at hl
  refine ⟨by omega, fun hc => ?_⟩
  obtain ⟨g', off', cur, h1, h2, h3, h4, h5⟩ := h.2 (by omega)
  cases h1
  refine ⟨g, off + 1, cur, ha (by omega), h2, h3, by omega, fun i hi => ?_⟩
  have := h5 (i + 1) (by simp; omega)
  rw [show off + 1 + i = off + (i + 1) by omega]
  simpa using this
end

/-- Where a queue lies behind an append, and what was turned. -/
def QueTo (w : World) (a : Option Addr) (cap : Nat) (a' : Option Addr) (w' : World) : Prop := (w.grownBy w' none ∧ a' = some ⟨w.heap.size, 0, none⟩) ∨ ∃ g off, cap ≠ 0 ∧ a = some ⟨g, off, none⟩ ∧ a' = some ⟨g, off, none⟩ ∧ w.grownBy w' (some g)

section
variable {P : Program} (w : World)
theorem run_append_que (B : Nat) (t ty : TypeId) (i : TypeInfo) (ht : P.underlying t = some (.slice 3)) (hi : P.info? 3 = some i) (hz : i.zero = some (.int .i64 0)) (hs1 : i.size = 1) (hby : i.bytes = 8)
    (a : Option Addr) (cap : Nat) (xs : List Int) (hq : QueAt w B a cap xs) (hB : B ≤ w.heap.size) (nb : Nat) (x : Int) (c : Nat) (hn : w.cell? ⟨nb, 0, none⟩ = some (.int .i64 x)) (hlen : xs.length < 1000000) :
    ∃ a' cap' w', (Builtin.append_ #[t, t] ty #[.slice a xs.length cap, .slice (some ⟨nb, 0, none⟩) 1 c]).run P w = .ok (.slice a' (xs.length + 1) cap') w' ∧ QueAt w' B a' cap' (xs ++ [x]) ∧ QueTo w a cap a' w' := by
  have hnews : ∀ (u : World), u.heap = w.heap → ∀ j z, [Value.int .i64 x][j]? = some z → u.cell? ((⟨nb, 0, none⟩ : Addr).add j) = some z := fun u hu j z hj => by
    have h0 : j = 0 := by
      have := (List.getElem?_eq_some_iff.1 hj).1; simpa using this
    subst h0
    have : z = .int .i64 x := by simpa using hj.symm
    subst this
    have e : (⟨nb, 0, none⟩ : Addr).add 0 = ⟨nb, 0, none⟩ := by simp [Addr.add]
    rw [e]
    unfold World.cell? at hn ⊢
    rw [hu]; exact hn
  have hgrowO : ∀ (olds : List Value), olds.length = xs.length → (∀ j, j < xs.length → olds[j]? = some (.int .i64 (xs.getD j 0))) →
      (Builtin.append_ #[t, t] ty #[.slice a xs.length cap, .slice (some ⟨nb, 0, none⟩) 1 c]).run P w =
      .ok (.slice (some ⟨w.heap.size, 0, none⟩) (xs.length + 1) (grownCap w (xs.length + 1) cap 3))
        (w.drew.alloc (.cells ((olds ++ [Value.int .i64 x]).toArray ++ Builtin.zeroCells (Value.int .i64 0).cells (grownCap w (xs.length + 1) cap 3 - (xs.length + 1))) 3)) →
      ∃ a' cap' w', (Builtin.append_ #[t, t] ty #[.slice a xs.length cap, .slice (some ⟨nb, 0, none⟩) 1 c]).run P w = .ok (.slice a' (xs.length + 1) cap') w' ∧ QueAt w' B a' cap' (xs ++ [x]) ∧ QueTo w a cap a' w' := fun olds hol hov hr => by
    have hge := grownCap_ge w (xs.length + 1) cap 3
    refine ⟨_, _, _, hr, ⟨by simp; exact hge, fun _ => ⟨w.heap.size, 0, _, rfl, hB, heap_alloc_new w.drew _, ?_, fun j hj => ?_⟩⟩, Or.inl ⟨⟨rfl, rfl, rfl, by simp, fun k hk _ => Go.heap_alloc_old w.drew _ hk⟩, rfl⟩⟩
    · simp only [Array.size_append, List.size_toArray, List.length_append, size_zeroCells, hol]
      simp [Value.cells]; omega
    · simp only [List.length_append, List.length_cons, List.length_nil] at hj
      rw [Array.getElem?_append, if_pos (by simp [hol]; omega)]
      simp only [Nat.zero_add, List.getElem?_toArray]
      by_cases e : j < xs.length
      · rw [List.getElem?_append_left (by omega), hov j e]
        simp [List.getD, List.getElem?_append, e]
      · have : j = xs.length := by omega
        subst this
        rw [List.getElem?_append_right (by omega), hol]
        simp [List.getD]
  by_cases hc : cap = 0
  · have hx : xs = [] := by
      apply List.eq_nil_of_length_eq_zero
      have := hq.1; omega
    subst hx
    subst hc
    refine hgrowO [] rfl (fun j hj => absurd hj (Nat.not_lt_zero _)) ?_
    cases a with
    | none =>
      have hr := run_append_nil (P := P) w t ty 3 i (.int .i64 0) ht hi hz ⟨nb, 0, none⟩ 1 c [.int .i64 x] (by rw [hs1]; rfl) (hnews w rfl) (by omega) (by omega) (by rw [hby]; decide)
      simpa using hr
    | some ad =>
      have hr := run_append_grow (P := P) w t ty 3 i (.int .i64 0) ht hi hz ad 0 0 [] (by simp) (fun j v h => by simp at h) ⟨nb, 0, none⟩ 1 c [.int .i64 x] (by rw [hs1]; rfl) (hnews w rfl) (by omega) (by omega) (by rw [hby]; decide)
      simpa using hr
  · obtain ⟨g, off, cur, rfl, h2, h3, h4, h5⟩ := hq.2 hc
    by_cases hroom : xs.length + 1 ≤ cap
    · have hr := run_append_room_src (P := P) (w := w) t t ty 3 i ht hi g off xs.length cap (.slice (some ⟨nb, 0, none⟩) 1 c) 1 [.int .i64 x] (Src.ofSlice w ht ⟨nb, 0, none⟩ 1 c [.int .i64 x] (by rw [hs1]; rfl) (hnews w rfl) (by simp [Value.oneCell'])) hroom
        (fun j hj => by
          rw [cell_of_row _ _ _ _ _ _ h3, hs1]
          have : off + xs.length * 1 + j < cur.size := by simp at hj; omega
          rw [Array.getElem?_eq_getElem this]; rfl) (fun j _ => frozen_of_row _ _ _ _ _ h3)
      rw [hs1, Nat.mul_one] at hr
      refine ⟨_, _, _, hr, ⟨by simp; omega, fun _ => ⟨g, off, cur.setIfInBounds (off + xs.length) (.int .i64 x), rfl, h2, heap_setCell_same w g _ _ _ _ h3, by simp; omega, fun j hj => ?_⟩⟩, Or.inr ⟨g, off, hc, rfl, rfl, grown_setCell g _ _⟩⟩
      simp only [List.length_append, List.length_cons, List.length_nil] at hj
      rw [Array.getElem?_setIfInBounds]
      by_cases e : j < xs.length
      · rw [if_neg (by omega), h5 j e]
        simp [List.getD, List.getElem?_append, e]
      · have : j = xs.length := by omega
        subst this
        have h7 : off + xs.length < cur.size := by omega
        simp [List.getD, h7]
    · refine hgrowO (xs.map (Value.int .i64)) (by simp) (fun j hj => by simp [List.getD, hj]) ?_
      have hr := run_append_grow (P := P) w t ty 3 i (.int .i64 0) ht hi hz ⟨g, off, none⟩ xs.length cap (xs.map (Value.int .i64)) (by rw [hs1]; simp) (fun j v h => by
          have hj : j < xs.length := by have := (List.getElem?_eq_some_iff.1 h).1; simpa using this
          rw [Addr.add_mid, cell_of_row _ _ _ _ _ _ h3, h5 j hj, ← h]
          simp [List.getD, hj]) ⟨nb, 0, none⟩ 1 c [.int .i64 x] (by rw [hs1]; rfl) (hnews w rfl) (by omega) (by omega) (growslice_fits (by omega) (by rw [hby]; omega))
      simpa using hr

theorem wpList_append_que {ops : Array Oper} {rest : List Oper} {o : Oper} {ac : Act} {Q : Exit → Act → World → Prop} (hgd : o.guard = none) (s y : Operand) (t : TypeId)
    (ho : o.op = .call { callee := .builtin .append, args := #[s, y], argTypes := #[t, t] })
    (B : Nat) (i : TypeInfo) (ht : P.underlying t = some (.slice 3)) (hi : P.info? 3 = some i) (hz : i.zero = some (.int .i64 0)) (hs1 : i.size = 1) (hby : i.bytes = 8)
    (a : Option Addr) (n cap : Nat) (xs : List Int) (hs : ac.eval s = .slice a n cap) (hnl : n = xs.length) (hq : QueAt w B a cap xs) (hB : B ≤ w.heap.size) (nb : Nat) (x : Int) (c : Nat) (hy : ac.eval y = .slice (some ⟨nb, 0, none⟩) 1 c) (hn : w.cell? ⟨nb, 0, none⟩ = some (.int .i64 x)) (hlen : n < 1000000)
    (h : ∀ a' cap' w', QueAt w' B a' cap' (xs ++ [x]) → (QueTo w a cap a' w') → wpList P ops Q rest (ac.put o.dst (.slice a' (n + 1) cap')) w') : wpList P ops Q (o :: rest) ac w := by
  subst hnl
  refine wpList_plain hgd fun K hK => ?_
  obtain ⟨a', cap', w', hr, h2, h3⟩ := run_append_que (P := P) w B t o.type i ht hi hz hs1 hby a cap xs hq hB nb x c hn hlen
  unfold Oper.wp execOp
  simp only [ho, resolve, invoke, builtin, Sem.run_bind, Sem.run_pure, Result.andThen_ok, List.map_toArray, List.map_cons, List.map_nil, hs, hy, hr]
  exact hK _ _ (h a' cap' w' h2 h3)
end

end Go.Proofs.Ytdijjlhodlghbaa.J

/-
  A region of a function as a declaration of its own.
-/
namespace Go.Proofs.Ytdijjlhodlghbaa.J
open Go.RowKit Go.Maps Go.Shelf

/-- The regions of a number. -/
def regionsJ (n : Nat) : Code → List Code
  | .region i ops b => if i = n then [.region i ops b] else []
  | .loop c => regionsJ n c
  | .seq a b => regionsJ n a ++ regionsJ n b
  | .block _ c => regionsJ n c
  | .scope c => regionsJ n c
  | .cond _ a b => regionsJ n a ++ regionsJ n b
  | _ => []
/-- The loops of a piece of code, the outer ahead of the inner. -/
def loopsJ : Code → List Code
  | .loop c => .loop c :: loopsJ c
  | .seq a b => loopsJ a ++ loopsJ b
  | .block _ c => loopsJ c
  | .scope c => loopsJ c
  | .cond _ a b => loopsJ a ++ loopsJ b
  | _ => []
def OnEndJ (P : Act → World → Prop) : Exit → Act → World → Prop
  | .normal, a, w => P a w
  | _, _, _ => False

end Go.Proofs.Ytdijjlhodlghbaa.J
