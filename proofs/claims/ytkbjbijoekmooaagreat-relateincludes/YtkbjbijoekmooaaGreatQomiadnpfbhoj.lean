import Derived.Test.YtkbjbijoekmooaaGreatQhbhjohgoklon
import Derived.Test.YtkbjbijoekmooaaGreatQlboifickjjaa
import Derived.Test.YtkbjbijoekmooaaGreatQdkabjhppobfo
import Derived.BigQuiet

/-
  relate: ways.
-/
namespace Go.Proofs.YtkbjbijoekmooaaGreat.J
open Go.RowKit Go.Maps Go.Shelf

attribute [local go_sem] Oper.semAt_some

/-- What the rows that are gone over keep to. -/
def RowsOK (n T S : Nat) (tl : List It) (L : Nat → Int) (R : Nat → List Int) : Prop := ∀ p, p < n → (∀ k, k < T → (tl.getD k (0, 0)).2 = L p → (R p).length ≤ 10000) ∧ ∀ x ∈ R p, 0 ≤ x ∧ x < (S : Int)

section
variable (ta na la pa sa xa l1 m1 : Option Addr) (tc nc lc pc sc xc lc1 mc1 : Nat) (n N T nb : Nat) (st : Int) (w : World) (tn nn ln : Nat)

set_option maxRecDepth 100000 in
set_option maxHeartbeats 4000000 in
theorem ways_inc (P : World) (B S : Nat) (ks : List (List It)) (es : List (List (Nat × Nat))) (kv ev : Nat → Value) (tl : List It) (F : Nat → Bool) (lb mb : Nat → Nat) (L : Nat → Int) (R : Nat → List Int) (ra : Nat → Option Addr) (rc : Nat → Nat) (V : Nat → Int) (hK : RlOK N T S tn nn ks es tl)
    (hR : RaAt B P nb nn S (.slice sa N sc) (.slice xa T xc) (.slice l1 N lc1) (.slice m1 N mc1) ks es kv ev tl F lb mb) (hPr : ProdsAt P pa n L R ra rc V) (hn : n ≤ 1000) (hrow : RowsOK n T S tl L R)
    (ab2 hb : Nat) (I : World → Nat → Nat → Prop) (hKeep : ∀ X Y k p, I X k p → X.grownBy Y none → I Y k p) (hGr : ∀ X k p, I X k p → P.grownBy X none)
    (hHand : ∀ (X0 X : World) (k p q tb : Nat), k < T → p < n → q < N → tl.getD k (0, 0) = ((q : Int), L p) → I X0 k p → X0.grownBy X none → X0.heap.size ≤ tb → ValAt X tb ((R p).length + 1) 3 (fun i => .int .i64 (stF es q (R p) i : Int)) → Calls Tryz.prog 60 #[.int .i64 (k : Int), .int .i64 (p : Int), .slice (some ⟨tb, 0, none⟩) ((R p).length + 1) ((R p).length + 1), .pointer (some ⟨ab2, 0, none⟩), .pointer (some ⟨hb, 0, none⟩)] X fun e y => e = .returned (.tuple #[]) ∧ KeepH X y ∧ I y k (p + 1))
    (hSkip : ∀ (X : World) (k p q : Nat) (s : Int), k < T → p < n → tl.getD k (0, 0) = ((q : Int), s) → L p ≠ s → I X k p → I X k (p + 1)) (hNext : ∀ X k, I X k n → I X (k + 1) 0) (hI : I w 0 0) :
    Calls Tryz.prog 59 #[.agg #[.slice ta tn tc, .slice na nn nc, .slice la ln lc, .int .i64 st, .slice pa n pc, .slice (some ⟨nb, 0, none⟩) nn nn, .slice sa N sc, .slice xa T xc, .slice l1 N lc1, .slice m1 N mc1], .func (.func 60) #[] #[.pointer (some ⟨ab2, 0, none⟩), .pointer (some ⟨hb, 0, none⟩)]] w fun e y => e = .returned (.tuple #[]) ∧ I y T 0 := by
  have HR : Hid (∀ X, P.grownBy X none → RaAt B X nb nn S (.slice sa N sc) (.slice xa T xc) (.slice l1 N lc1) (.slice m1 N mc1) ks es kv ev tl F lb mb) := fun X hX => hR.kept hX
  have HPR : Hid (∀ X, P.grownBy X none → ProdsAt X pa n L R ra rc V) := fun X hX => hPr.kept hX
  have HK := show Hid _ from hK
  have HROW := show Hid _ from hrow
  have HKP := show Hid _ from hKeep
  have HGR := show Hid _ from hGr
  have HHAND := show Hid _ from hHand
  have HSKIP := show Hid _ from hSkip
  have HNEXT := show Hid _ from hNext
  have HX0 : Hid ((w.alloc (.cells #[.slice ta tn tc, .slice na nn nc, .slice la ln lc, .int .i64 st, .slice pa n pc, .slice (some ⟨nb, 0, none⟩) nn nn, .slice sa N sc, .slice xa T xc, .slice l1 N lc1, .slice m1 N mc1] 81)).heap[w.heap.size]? = some (.cells #[.slice ta tn tc, .slice na nn nc, .slice la ln lc, .int .i64 st, .slice pa n pc, .slice (some ⟨nb, 0, none⟩) nn nn, .slice sa N sc, .slice xa T xc, .slice l1 N lc1, .slice m1 N mc1] 81 (0, 0))) := heap_alloc_last w _
  have HI0 : Hid (I (w.alloc (.cells #[.slice ta tn tc, .slice na nn nc, .slice la ln lc, .int .i64 st, .slice pa n pc, .slice (some ⟨nb, 0, none⟩) nn nn, .slice sa N sc, .slice xa T xc, .slice l1 N lc1, .slice m1 N mc1] 81)) 0 0) := hKeep _ _ _ _ hI (World.grownBy_alloc _ _ none)
  have c7 : (w.alloc (.cells #[.slice ta tn tc, .slice na nn nc, .slice la ln lc, .int .i64 st, .slice pa n pc, .slice (some ⟨nb, 0, none⟩) nn nn, .slice sa N sc, .slice xa T xc, .slice l1 N lc1, .slice m1 N mc1] 81)).cell? ⟨w.heap.size, 7, none⟩ = some (.slice xa T xc) := by rw [cell_of_row _ _ _ _ _ _ HX0.out]; rfl
  have ht40 := hK.t40
  have hn256 := hK.n256
  clear hR hK hPr hrow hKeep hGr hHand hSkip hNext hI
  go_enter Tryz.func59, Tryz.ntmps59
  go_wp2_with fail
  clear c7
  generalize w.alloc (.cells #[.slice ta tn tc, .slice na nn nc, .slice la ln lc, .int .i64 st, .slice pa n pc, .slice (some ⟨nb, 0, none⟩) nn nn, .slice sa N sc, .slice xa T xc, .slice l1 N lc1, .slice m1 N mc1] 81) = W0 at HX0 HI0 ⊢
  obtain ⟨ab, hab⟩ : ∃ b, b = w.heap.size := ⟨_, rfl⟩
  rw [← hab] at HX0 ⊢
  obtain ⟨cs, hcs⟩ : ∃ cs : Array Value, cs = #[.slice ta tn tc, .slice na nn nc, .slice la ln lc, .int .i64 st, .slice pa n pc, .slice (some ⟨nb, 0, none⟩) nn nn, .slice sa N sc, .slice xa T xc, .slice l1 N lc1, .slice m1 N mc1] := ⟨_, rfl⟩
  have HCS := show Hid _ from hcs
  rw [← hcs] at HX0
  clear hab hcs
  go_loopg [11] T (fun gk v11 wr => ∃ (j : Nat), j ≤ T ∧ gk = T - j ∧ v11 = .int .i64 j ∧ wr.heap[ab]? = some (.cells cs 81 (0, 0)) ∧ I wr j 0)
  case atStart => exact ⟨0, Nat.zero_le _, rfl, rfl, HX0.out, HI0.out⟩
  case round =>
    obtain ⟨j, hj, hgj, rfl, hb, hl⟩ := hrel
    have HGJ : Hid (gk = T - j) := hgj
    have HB : Hid (wr.heap[ab]? = some (.cells cs 81 (0, 0))) := hb
    have HI : Hid (I wr j 0) := hl
    clear hgj hb hl HX0 HI0
    generalize wr = Y at *
    by_cases hlt : j < T
    · have hjd : decide (j < T) = true := decide_eq_true hlt
      have hj0 : (0 : Int) ≤ (j : Int) := by omega
      have hj1 : (j : Int) < (T : Int) := by omega
      have HPY : Hid (P.grownBy Y none) := HGR.out _ _ _ HI.out
      obtain ⟨q, s, hqs, hqN, hsS⟩ := HK.out.at hlt
      obtain ⟨xg, rfl, x0, x1⟩ := (HR.out Y HPY.out).tr HK.out hlt hqs
      have hba := HB.out
      rw [HCS.out] at hba
      obtain ⟨Z, hZ⟩ : ∃ Z, Z = Y.alloc (.cells #[.int .i64 (q : Int), .int .i64 (s : Int)] 53) := ⟨_, rfl⟩
      have hgZ : Y.grownBy Z none := by rw [hZ]; exact World.grownBy_alloc _ _ none
      have HTZ : Hid (Z.heap[Y.heap.size]? = some (.cells #[.int .i64 (q : Int), .int .i64 (s : Int)] 53 (0, 0))) := by rw [hZ]; exact heap_alloc_last Y _
      have b4 : Z.cell? ⟨ab, 4, none⟩ = some (.slice pa n pc) := (av_cells (box_kept hba hgZ)).2.2.2.2.1
      have HBZ : Hid (Z.heap[ab]? = some (.cells cs 81 (0, 0))) := box_kept HB.out hgZ
      have HIZ : Hid (I Z j 0) := HKP.out _ _ _ _ HI.out hgZ
      have HQS := show Hid _ from hqs
      have HZE := show Hid _ from hZ
      rw [hZ] at b4
      clear hqs hba hZ hgZ
      go_wp2_with fail
      rw [← HZE.out]
      clear b4 x0 x1 HZE HB HI HPY
      obtain ⟨tx, htx⟩ : ∃ b, b = Y.heap.size := ⟨_, rfl⟩
      rw [← htx] at HTZ ⊢
      clear htx
      go_loopg [20] n (fun gk v20 wr => ∃ (i : Nat), i ≤ n ∧ gk = n - i ∧ v20 = .int .i64 i ∧ wr.heap[ab]? = some (.cells cs 81 (0, 0)) ∧ wr.heap[tx]? = some (.cells #[.int .i64 (q : Int), .int .i64 (s : Int)] 53 (0, 0)) ∧ I wr j i)
      case atStart => exact ⟨0, Nat.zero_le _, rfl, rfl, HBZ.out, HTZ.out, HIZ.out⟩
      case round =>
        obtain ⟨i, hi, hgi, rfl, hb2, ht2, hl2⟩ := hrel
        have HGI : Hid (gk = n - i) := hgi
        have HB2 : Hid (wr.heap[ab]? = some (.cells cs 81 (0, 0))) := hb2
        have HT2 : Hid (wr.heap[tx]? = some (.cells #[.int .i64 (q : Int), .int .i64 (s : Int)] 53 (0, 0))) := ht2
        have HI2 : Hid (I wr j i) := hl2
        clear hgi hb2 ht2 hl2 HBZ HTZ HIZ
        generalize wr = X at *
        by_cases hlt2 : i < n
        · have hid : decide (i < n) = true := decide_eq_true hlt2
          have hi0 : (0 : Int) ≤ (i : Int) := by omega
          have hi1 : (i : Int) < (n : Int) := by omega
          have HPX : Hid (P.grownBy X none) := HGR.out _ _ _ HI2.out
          obtain ⟨pb, po, rfl, hps⟩ := prods_at (HPR.out X HPX.out) (by omega)
          obtain ⟨p0, p1, p2, pI⟩ := hps i hlt2
          have hba := HB2.out
          rw [HCS.out] at hba
          obtain ⟨rap, hrap⟩ : ∃ x, x = ra i := ⟨_, rfl⟩
          obtain ⟨rcp, hrcp⟩ : ∃ x, x = rc i := ⟨_, rfl⟩
          obtain ⟨lf, hlf⟩ : ∃ x, x = L i := ⟨_, rfl⟩
          obtain ⟨vi, hvi⟩ : ∃ x, x = V i := ⟨_, rfl⟩
          obtain ⟨m, hm⟩ : ∃ x, x = (R i).length := ⟨_, rfl⟩
          rw [← hlf] at p0
          rw [← hrap, ← hrcp, ← hm] at p1
          rw [← hvi] at p2
          rw [← hrap] at pI
          obtain ⟨U, hU⟩ : ∃ U, U = X.alloc (.cells #[.int .i64 lf, .slice rap m rcp, .int .i64 vi] 71) := ⟨_, rfl⟩
          have hgU : X.grownBy U none := by rw [hU]; exact World.grownBy_alloc _ _ none
          have hhU : U.heap[X.heap.size]? = some (.cells #[.int .i64 lf, .slice rap m rcp, .int .i64 vi] 71 (0, 0)) := by rw [hU]; exact heap_alloc_last X _
          obtain ⟨a0, a1, a2, a3, a4, a5, a6, a7, a8, a9⟩ := av_cells (box_kept hba hgU)
          have k0 : U.cell? ⟨X.heap.size, 0, none⟩ = some (.int .i64 lf) := by rw [cell_of_row _ _ _ _ _ _ hhU]; rfl
          have k1 : U.cell? ⟨X.heap.size, 1, none⟩ = some (.slice rap m rcp) := by rw [cell_of_row _ _ _ _ _ _ hhU]; rfl
          have t0 : U.cell? ⟨tx, 0, none⟩ = some (.int .i64 (q : Int)) := by rw [cell_of_row _ _ _ _ _ _ (box_kept HT2.out hgU)]; rfl
          have t1 : U.cell? ⟨tx, 1, none⟩ = some (.int .i64 (s : Int)) := by rw [cell_of_row _ _ _ _ _ _ (box_kept HT2.out hgU)]; rfl
          have HBU : Hid (U.heap[ab]? = some (.cells cs 81 (0, 0))) := box_kept HB2.out hgU
          have HTU : Hid (U.heap[tx]? = some (.cells #[.int .i64 (q : Int), .int .i64 (s : Int)] 53 (0, 0))) := box_kept HT2.out hgU
          have HIU : Hid (I U j i) := HKP.out _ _ _ _ HI2.out hgU
          have HRI : Hid (IntsAt U rap (R i)) := pI.kept hgU
          have HPU : Hid (P.grownBy U none) := grown_trans HPX.out hgU
          have HM := show Hid _ from hm
          have HLF := show Hid _ from hlf
          have HUE := show Hid _ from hU
          have hiw : IntKind.i64.wrap ((i : Int) + 1) = (i : Int) + 1 := by rw [IntKind.wrap_i64]; omega
          rw [hU] at a0 a1 a2 a3 a4 a5 a6 a7 a8 a9 k0 k1 t0 t1
          clear hps pI hba hrap hrcp hlf hvi hm hU hgU hhU HB2 HT2 HI2 HPX
          by_cases hls : lf = (s : Int)
          · have hlb : (lf == (s : Int)) = true := by rw [hls]; exact beq_self_eq_true _
            have HLS := show Hid _ from hls
            clear hls
            go_wp2_with fail
            rw [← HUE.out]
            have HTH : Hid (Calls Tryz.prog 89 #[.agg #[.slice ta tn tc, .slice na nn nc, .slice la ln lc, .int .i64 st, .slice (some ⟨pb, po, none⟩) n pc, .slice (some ⟨nb, 0, none⟩) nn nn, .slice sa N sc, .slice (some ⟨xg, 0, none⟩) T xc, .slice l1 N lc1, .slice m1 N mc1], .int .i64 (q : Int), .slice rap m rcp] U fun e y => ∃ k, e = .returned (.slice (some ⟨k, 0, none⟩) (m + 1) (m + 1)) ∧ U.heap.size ≤ k ∧ ValAt y k (m + 1) 3 (fun i' => .int .i64 (stF es q (R i) i' : Int)) ∧ U.grownBy y none) := by
              have hTb := (HR.out U HPU.out).l
              rw [← HK.out.hN] at hTb
              rw [HM.out]
              exact uthr_any ta na la (some ⟨pb, po, none⟩) sa (some ⟨xg, 0, none⟩) l1 m1 tc nc lc pc sc xc lc1 mc1 n N T nb st U tn nn ln B S es lb hTb (fun r hr x hx => by rw [HK.out.hN]; exact ((HK.out.eok.each r (by rw [← HK.out.hN]; exact hr)).2.2 x hx).2) q hqN hn256 rap rcp (R i) HRI.out (by have := (HROW.out i hlt2).1 j hlt (by rw [HQS.out, ← HLF.out, HLS.out]); omega) (HROW.out i hlt2).2
            refine Calls.mono HTH.out ?_
            rintro e w3 ⟨tb, rfl, htb, hv3, hg3⟩
            have HB3 : Hid (w3.heap[ab]? = some (.cells cs 81 (0, 0))) := box_kept HBU.out hg3
            have HT3 : Hid (w3.heap[tx]? = some (.cells #[.int .i64 (q : Int), .int .i64 (s : Int)] 53 (0, 0))) := box_kept HTU.out hg3
            have HHD : Hid (Calls Tryz.prog 60 #[.int .i64 (j : Int), .int .i64 (i : Int), .slice (some ⟨tb, 0, none⟩) (m + 1) (m + 1), .pointer (some ⟨ab2, 0, none⟩), .pointer (some ⟨hb, 0, none⟩)] w3 fun e y => e = .returned (.tuple #[]) ∧ KeepH w3 y ∧ I y j (i + 1)) := by
              have h := HHAND.out U w3 j i q tb hlt hlt2 hqN (by rw [HQS.out, ← HLF.out, HLS.out]) HIU.out hg3 htb (by rw [← HM.out]; exact hv3)
              rw [← HM.out] at h
              exact h
            clear htb hv3 hg3 a0 a1 a2 a3 a4 a5 a6 a7 a8 a9 k0 k1 t0 t1 HBU HTU HIU HRI HPU HUE HTH p0 p1 p2
            go_wp2_with fail
            refine Calls.mono HHD.out ?_
            rintro e w4 ⟨rfl, hk4, hi4⟩
            have HB4 : Hid (w4.heap[ab]? = some (.cells cs 81 (0, 0))) := hk4.at HB3.out (by decide) (by decide)
            have HT4 : Hid (w4.heap[tx]? = some (.cells #[.int .i64 (q : Int), .int .i64 (s : Int)] 53 (0, 0))) := hk4.at HT3.out (by decide) (by decide)
            have HI4 : Hid (I w4 j (i + 1)) := hi4
            clear hk4 hi4 HB3 HT3 HHD
            go_wp2_with fail
            go_roundg (n - (i + 1))
            all_goals first
              | exact (show ∃ (i' : Nat), _ from ⟨i + 1, by omega, rfl, by go_num, HB4.out, HT4.out, HI4.out⟩)
              | (have := HGI.out; omega)
          · have hlb : (lf == (s : Int)) = false := beq_eq_false_iff_ne.2 hls
            have HIS : Hid (I U j (i + 1)) := HSKIP.out U j i q (s : Int) hlt hlt2 HQS.out (by rw [← HLF.out]; exact hls) HIU.out
            clear hls
            go_wp2_with fail
            rw [← HUE.out]
            go_roundg (n - (i + 1))
            all_goals first
              | exact (show ∃ (i' : Nat), _ from ⟨i + 1, by omega, rfl, by go_num, HBU.out, HTU.out, HIS.out⟩)
              | (have := HGI.out; omega)
        · have him : n = i := by omega
          have hid : decide (i < n) = false := decide_eq_false hlt2
          have hjw : IntKind.i64.wrap ((j : Int) + 1) = (j : Int) + 1 := by rw [IntKind.wrap_i64]; omega
          have HIN : Hid (I X (j + 1) 0) := HNEXT.out X j (by rw [him]; exact HI2.out)
          clear him
          go_wp2_with fail
          go_roundg (T - (j + 1))
          all_goals first
            | exact (show ∃ (j' : Nat), _ from ⟨j + 1, by omega, rfl, by go_num, HB2.out, HIN.out⟩)
            | (have := HGJ.out; omega)
    · have hjm : T = j := by omega
      subst hjm
      have hjd : decide (T < T) = false := decide_eq_false (by omega)
      go_wp2_with fail
      refine bodyPost_end (v := .tuple #[]) (by simp [results, Tryz.results59]) rfl ?_
      exact ⟨rfl, HI.out⟩

set_option maxRecDepth 100000 in
set_option maxHeartbeats 4000000 in
theorem ways_lb (P : World) (B S : Nat) (ks : List (List It)) (es : List (List (Nat × Nat))) (kv ev : Nat → Value) (tl : List It) (F : Nat → Bool) (lb mb : Nat → Nat) (L : Nat → Int) (R : Nat → List Int) (ra : Nat → Option Addr) (rc : Nat → Nat) (V : Nat → Int) (hK : RlOK N T S tn nn ks es tl)
    (hR : RaAt B P nb nn S (.slice sa N sc) (.slice xa T xc) (.slice l1 N lc1) (.slice m1 N mc1) ks es kv ev tl F lb mb) (hPr : ProdsAt P pa n L R ra rc V) (hn : n ≤ 1000) (hrow : RowsOK n T S tl L R)
    (hb : Nat) (I : World → Nat → Nat → Prop) (hKeep : ∀ X Y k p, I X k p → X.grownBy Y none → I Y k p) (hGr : ∀ X k p, I X k p → P.grownBy X none)
    (hHand : ∀ (X0 X : World) (k p q tb : Nat), k < T → p < n → q < N → tl.getD k (0, 0) = ((q : Int), L p) → I X0 k p → X0.grownBy X none → X0.heap.size ≤ tb → ValAt X tb ((R p).length + 1) 3 (fun i => .int .i64 (stF es q (R p) i : Int)) → Calls Tryz.prog 90 #[.int .i64 (k : Int), .int .i64 (p : Int), .slice (some ⟨tb, 0, none⟩) ((R p).length + 1) ((R p).length + 1), .pointer (some ⟨hb, 0, none⟩)] X fun e y => e = .returned (.tuple #[]) ∧ KeepH X y ∧ I y k (p + 1))
    (hSkip : ∀ (X : World) (k p q : Nat) (s : Int), k < T → p < n → tl.getD k (0, 0) = ((q : Int), s) → L p ≠ s → I X k p → I X k (p + 1)) (hNext : ∀ X k, I X k n → I X (k + 1) 0) (hI : I w 0 0) :
    Calls Tryz.prog 59 #[.agg #[.slice ta tn tc, .slice na nn nc, .slice la ln lc, .int .i64 st, .slice pa n pc, .slice (some ⟨nb, 0, none⟩) nn nn, .slice sa N sc, .slice xa T xc, .slice l1 N lc1, .slice m1 N mc1], .func (.func 90) #[] #[.pointer (some ⟨hb, 0, none⟩)]] w fun e y => e = .returned (.tuple #[]) ∧ I y T 0 := by
  have HR : Hid (∀ X, P.grownBy X none → RaAt B X nb nn S (.slice sa N sc) (.slice xa T xc) (.slice l1 N lc1) (.slice m1 N mc1) ks es kv ev tl F lb mb) := fun X hX => hR.kept hX
  have HPR : Hid (∀ X, P.grownBy X none → ProdsAt X pa n L R ra rc V) := fun X hX => hPr.kept hX
  have HK := show Hid _ from hK
  have HROW := show Hid _ from hrow
  have HKP := show Hid _ from hKeep
  have HGR := show Hid _ from hGr
  have HHAND := show Hid _ from hHand
  have HSKIP := show Hid _ from hSkip
  have HNEXT := show Hid _ from hNext
  have HX0 : Hid ((w.alloc (.cells #[.slice ta tn tc, .slice na nn nc, .slice la ln lc, .int .i64 st, .slice pa n pc, .slice (some ⟨nb, 0, none⟩) nn nn, .slice sa N sc, .slice xa T xc, .slice l1 N lc1, .slice m1 N mc1] 81)).heap[w.heap.size]? = some (.cells #[.slice ta tn tc, .slice na nn nc, .slice la ln lc, .int .i64 st, .slice pa n pc, .slice (some ⟨nb, 0, none⟩) nn nn, .slice sa N sc, .slice xa T xc, .slice l1 N lc1, .slice m1 N mc1] 81 (0, 0))) := heap_alloc_last w _
  have HI0 : Hid (I (w.alloc (.cells #[.slice ta tn tc, .slice na nn nc, .slice la ln lc, .int .i64 st, .slice pa n pc, .slice (some ⟨nb, 0, none⟩) nn nn, .slice sa N sc, .slice xa T xc, .slice l1 N lc1, .slice m1 N mc1] 81)) 0 0) := hKeep _ _ _ _ hI (World.grownBy_alloc _ _ none)
  have c7 : (w.alloc (.cells #[.slice ta tn tc, .slice na nn nc, .slice la ln lc, .int .i64 st, .slice pa n pc, .slice (some ⟨nb, 0, none⟩) nn nn, .slice sa N sc, .slice xa T xc, .slice l1 N lc1, .slice m1 N mc1] 81)).cell? ⟨w.heap.size, 7, none⟩ = some (.slice xa T xc) := by rw [cell_of_row _ _ _ _ _ _ HX0.out]; rfl
  have ht40 := hK.t40
  have hn256 := hK.n256
  clear hR hK hPr hrow hKeep hGr hHand hSkip hNext hI
  go_enter Tryz.func59, Tryz.ntmps59
  go_wp2_with fail
  clear c7
  generalize w.alloc (.cells #[.slice ta tn tc, .slice na nn nc, .slice la ln lc, .int .i64 st, .slice pa n pc, .slice (some ⟨nb, 0, none⟩) nn nn, .slice sa N sc, .slice xa T xc, .slice l1 N lc1, .slice m1 N mc1] 81) = W0 at HX0 HI0 ⊢
  obtain ⟨ab, hab⟩ : ∃ b, b = w.heap.size := ⟨_, rfl⟩
  rw [← hab] at HX0 ⊢
  obtain ⟨cs, hcs⟩ : ∃ cs : Array Value, cs = #[.slice ta tn tc, .slice na nn nc, .slice la ln lc, .int .i64 st, .slice pa n pc, .slice (some ⟨nb, 0, none⟩) nn nn, .slice sa N sc, .slice xa T xc, .slice l1 N lc1, .slice m1 N mc1] := ⟨_, rfl⟩
  have HCS := show Hid _ from hcs
  rw [← hcs] at HX0
  clear hab hcs
  go_loopg [11] T (fun gk v11 wr => ∃ (j : Nat), j ≤ T ∧ gk = T - j ∧ v11 = .int .i64 j ∧ wr.heap[ab]? = some (.cells cs 81 (0, 0)) ∧ I wr j 0)
  case atStart => exact ⟨0, Nat.zero_le _, rfl, rfl, HX0.out, HI0.out⟩
  case round =>
    obtain ⟨j, hj, hgj, rfl, hb, hl⟩ := hrel
    have HGJ : Hid (gk = T - j) := hgj
    have HB : Hid (wr.heap[ab]? = some (.cells cs 81 (0, 0))) := hb
    have HI : Hid (I wr j 0) := hl
    clear hgj hb hl HX0 HI0
    generalize wr = Y at *
    by_cases hlt : j < T
    · have hjd : decide (j < T) = true := decide_eq_true hlt
      have hj0 : (0 : Int) ≤ (j : Int) := by omega
      have hj1 : (j : Int) < (T : Int) := by omega
      have HPY : Hid (P.grownBy Y none) := HGR.out _ _ _ HI.out
      obtain ⟨q, s, hqs, hqN, hsS⟩ := HK.out.at hlt
      obtain ⟨xg, rfl, x0, x1⟩ := (HR.out Y HPY.out).tr HK.out hlt hqs
      have hba := HB.out
      rw [HCS.out] at hba
      obtain ⟨Z, hZ⟩ : ∃ Z, Z = Y.alloc (.cells #[.int .i64 (q : Int), .int .i64 (s : Int)] 53) := ⟨_, rfl⟩
      have hgZ : Y.grownBy Z none := by rw [hZ]; exact World.grownBy_alloc _ _ none
      have HTZ : Hid (Z.heap[Y.heap.size]? = some (.cells #[.int .i64 (q : Int), .int .i64 (s : Int)] 53 (0, 0))) := by rw [hZ]; exact heap_alloc_last Y _
      have b4 : Z.cell? ⟨ab, 4, none⟩ = some (.slice pa n pc) := (av_cells (box_kept hba hgZ)).2.2.2.2.1
      have HBZ : Hid (Z.heap[ab]? = some (.cells cs 81 (0, 0))) := box_kept HB.out hgZ
      have HIZ : Hid (I Z j 0) := HKP.out _ _ _ _ HI.out hgZ
      have HQS := show Hid _ from hqs
      have HZE := show Hid _ from hZ
      rw [hZ] at b4
      clear hqs hba hZ hgZ
      go_wp2_with fail
      rw [← HZE.out]
      clear b4 x0 x1 HZE HB HI HPY
      obtain ⟨tx, htx⟩ : ∃ b, b = Y.heap.size := ⟨_, rfl⟩
      rw [← htx] at HTZ ⊢
      clear htx
      go_loopg [20] n (fun gk v20 wr => ∃ (i : Nat), i ≤ n ∧ gk = n - i ∧ v20 = .int .i64 i ∧ wr.heap[ab]? = some (.cells cs 81 (0, 0)) ∧ wr.heap[tx]? = some (.cells #[.int .i64 (q : Int), .int .i64 (s : Int)] 53 (0, 0)) ∧ I wr j i)
      case atStart => exact ⟨0, Nat.zero_le _, rfl, rfl, HBZ.out, HTZ.out, HIZ.out⟩
      case round =>
        obtain ⟨i, hi, hgi, rfl, hb2, ht2, hl2⟩ := hrel
        have HGI : Hid (gk = n - i) := hgi
        have HB2 : Hid (wr.heap[ab]? = some (.cells cs 81 (0, 0))) := hb2
        have HT2 : Hid (wr.heap[tx]? = some (.cells #[.int .i64 (q : Int), .int .i64 (s : Int)] 53 (0, 0))) := ht2
        have HI2 : Hid (I wr j i) := hl2
        clear hgi hb2 ht2 hl2 HBZ HTZ HIZ
        generalize wr = X at *
        by_cases hlt2 : i < n
        · have hid : decide (i < n) = true := decide_eq_true hlt2
          have hi0 : (0 : Int) ≤ (i : Int) := by omega
          have hi1 : (i : Int) < (n : Int) := by omega
          have HPX : Hid (P.grownBy X none) := HGR.out _ _ _ HI2.out
          obtain ⟨pb, po, rfl, hps⟩ := prods_at (HPR.out X HPX.out) (by omega)
          obtain ⟨p0, p1, p2, pI⟩ := hps i hlt2
          have hba := HB2.out
          rw [HCS.out] at hba
          obtain ⟨rap, hrap⟩ : ∃ x, x = ra i := ⟨_, rfl⟩
          obtain ⟨rcp, hrcp⟩ : ∃ x, x = rc i := ⟨_, rfl⟩
          obtain ⟨lf, hlf⟩ : ∃ x, x = L i := ⟨_, rfl⟩
          obtain ⟨vi, hvi⟩ : ∃ x, x = V i := ⟨_, rfl⟩
          obtain ⟨m, hm⟩ : ∃ x, x = (R i).length := ⟨_, rfl⟩
          rw [← hlf] at p0
          rw [← hrap, ← hrcp, ← hm] at p1
          rw [← hvi] at p2
          rw [← hrap] at pI
          obtain ⟨U, hU⟩ : ∃ U, U = X.alloc (.cells #[.int .i64 lf, .slice rap m rcp, .int .i64 vi] 71) := ⟨_, rfl⟩
          have hgU : X.grownBy U none := by rw [hU]; exact World.grownBy_alloc _ _ none
          have hhU : U.heap[X.heap.size]? = some (.cells #[.int .i64 lf, .slice rap m rcp, .int .i64 vi] 71 (0, 0)) := by rw [hU]; exact heap_alloc_last X _
          obtain ⟨a0, a1, a2, a3, a4, a5, a6, a7, a8, a9⟩ := av_cells (box_kept hba hgU)
          have k0 : U.cell? ⟨X.heap.size, 0, none⟩ = some (.int .i64 lf) := by rw [cell_of_row _ _ _ _ _ _ hhU]; rfl
          have k1 : U.cell? ⟨X.heap.size, 1, none⟩ = some (.slice rap m rcp) := by rw [cell_of_row _ _ _ _ _ _ hhU]; rfl
          have t0 : U.cell? ⟨tx, 0, none⟩ = some (.int .i64 (q : Int)) := by rw [cell_of_row _ _ _ _ _ _ (box_kept HT2.out hgU)]; rfl
          have t1 : U.cell? ⟨tx, 1, none⟩ = some (.int .i64 (s : Int)) := by rw [cell_of_row _ _ _ _ _ _ (box_kept HT2.out hgU)]; rfl
          have HBU : Hid (U.heap[ab]? = some (.cells cs 81 (0, 0))) := box_kept HB2.out hgU
          have HTU : Hid (U.heap[tx]? = some (.cells #[.int .i64 (q : Int), .int .i64 (s : Int)] 53 (0, 0))) := box_kept HT2.out hgU
          have HIU : Hid (I U j i) := HKP.out _ _ _ _ HI2.out hgU
          have HRI : Hid (IntsAt U rap (R i)) := pI.kept hgU
          have HPU : Hid (P.grownBy U none) := grown_trans HPX.out hgU
          have HM := show Hid _ from hm
          have HLF := show Hid _ from hlf
          have HUE := show Hid _ from hU
          have hiw : IntKind.i64.wrap ((i : Int) + 1) = (i : Int) + 1 := by rw [IntKind.wrap_i64]; omega
          rw [hU] at a0 a1 a2 a3 a4 a5 a6 a7 a8 a9 k0 k1 t0 t1
          clear hps pI hba hrap hrcp hlf hvi hm hU hgU hhU HB2 HT2 HI2 HPX
          by_cases hls : lf = (s : Int)
          · have hlb : (lf == (s : Int)) = true := by rw [hls]; exact beq_self_eq_true _
            have HLS := show Hid _ from hls
            clear hls
            go_wp2_with fail
            rw [← HUE.out]
            have HTH : Hid (Calls Tryz.prog 89 #[.agg #[.slice ta tn tc, .slice na nn nc, .slice la ln lc, .int .i64 st, .slice (some ⟨pb, po, none⟩) n pc, .slice (some ⟨nb, 0, none⟩) nn nn, .slice sa N sc, .slice (some ⟨xg, 0, none⟩) T xc, .slice l1 N lc1, .slice m1 N mc1], .int .i64 (q : Int), .slice rap m rcp] U fun e y => ∃ k, e = .returned (.slice (some ⟨k, 0, none⟩) (m + 1) (m + 1)) ∧ U.heap.size ≤ k ∧ ValAt y k (m + 1) 3 (fun i' => .int .i64 (stF es q (R i) i' : Int)) ∧ U.grownBy y none) := by
              have hTb := (HR.out U HPU.out).l
              rw [← HK.out.hN] at hTb
              rw [HM.out]
              exact uthr_any ta na la (some ⟨pb, po, none⟩) sa (some ⟨xg, 0, none⟩) l1 m1 tc nc lc pc sc xc lc1 mc1 n N T nb st U tn nn ln B S es lb hTb (fun r hr x hx => by rw [HK.out.hN]; exact ((HK.out.eok.each r (by rw [← HK.out.hN]; exact hr)).2.2 x hx).2) q hqN hn256 rap rcp (R i) HRI.out (by have := (HROW.out i hlt2).1 j hlt (by rw [HQS.out, ← HLF.out, HLS.out]); omega) (HROW.out i hlt2).2
            refine Calls.mono HTH.out ?_
            rintro e w3 ⟨tb, rfl, htb, hv3, hg3⟩
            have HB3 : Hid (w3.heap[ab]? = some (.cells cs 81 (0, 0))) := box_kept HBU.out hg3
            have HT3 : Hid (w3.heap[tx]? = some (.cells #[.int .i64 (q : Int), .int .i64 (s : Int)] 53 (0, 0))) := box_kept HTU.out hg3
            have HHD : Hid (Calls Tryz.prog 90 #[.int .i64 (j : Int), .int .i64 (i : Int), .slice (some ⟨tb, 0, none⟩) (m + 1) (m + 1), .pointer (some ⟨hb, 0, none⟩)] w3 fun e y => e = .returned (.tuple #[]) ∧ KeepH w3 y ∧ I y j (i + 1)) := by
              have h := HHAND.out U w3 j i q tb hlt hlt2 hqN (by rw [HQS.out, ← HLF.out, HLS.out]) HIU.out hg3 htb (by rw [← HM.out]; exact hv3)
              rw [← HM.out] at h
              exact h
            clear htb hv3 hg3 a0 a1 a2 a3 a4 a5 a6 a7 a8 a9 k0 k1 t0 t1 HBU HTU HIU HRI HPU HUE HTH p0 p1 p2
            go_wp2_with fail
            refine Calls.mono HHD.out ?_
            rintro e w4 ⟨rfl, hk4, hi4⟩
            have HB4 : Hid (w4.heap[ab]? = some (.cells cs 81 (0, 0))) := hk4.at HB3.out (by decide) (by decide)
            have HT4 : Hid (w4.heap[tx]? = some (.cells #[.int .i64 (q : Int), .int .i64 (s : Int)] 53 (0, 0))) := hk4.at HT3.out (by decide) (by decide)
            have HI4 : Hid (I w4 j (i + 1)) := hi4
            clear hk4 hi4 HB3 HT3 HHD
            go_wp2_with fail
            go_roundg (n - (i + 1))
            all_goals first
              | exact (show ∃ (i' : Nat), _ from ⟨i + 1, by omega, rfl, by go_num, HB4.out, HT4.out, HI4.out⟩)
              | (have := HGI.out; omega)
          · have hlb : (lf == (s : Int)) = false := beq_eq_false_iff_ne.2 hls
            have HIS : Hid (I U j (i + 1)) := HSKIP.out U j i q (s : Int) hlt hlt2 HQS.out (by rw [← HLF.out]; exact hls) HIU.out
            clear hls
            go_wp2_with fail
            rw [← HUE.out]
            go_roundg (n - (i + 1))
            all_goals first
              | exact (show ∃ (i' : Nat), _ from ⟨i + 1, by omega, rfl, by go_num, HBU.out, HTU.out, HIS.out⟩)
              | (have := HGI.out; omega)
        · have him : n = i := by omega
          have hid : decide (i < n) = false := decide_eq_false hlt2
          have hjw : IntKind.i64.wrap ((j : Int) + 1) = (j : Int) + 1 := by rw [IntKind.wrap_i64]; omega
          have HIN : Hid (I X (j + 1) 0) := HNEXT.out X j (by rw [him]; exact HI2.out)
          clear him
          go_wp2_with fail
          go_roundg (T - (j + 1))
          all_goals first
            | exact (show ∃ (j' : Nat), _ from ⟨j + 1, by omega, rfl, by go_num, HB2.out, HIN.out⟩)
            | (have := HGJ.out; omega)
    · have hjm : T = j := by omega
      subst hjm
      have hjd : decide (T < T) = false := decide_eq_false (by omega)
      go_wp2_with fail
      refine bodyPost_end (v := .tuple #[]) (by simp [results, Tryz.results59]) rfl ?_
      exact ⟨rfl, HI.out⟩
end

end Go.Proofs.YtkbjbijoekmooaaGreat.J

/-
  relate: includes.
-/
namespace Go.Proofs.YtkbjbijoekmooaaGreat.J
open Go.RowKit Go.Maps Go.Shelf

attribute [local go_sem] Oper.semAt_some

theorem foldQ_append (Q : Nat → List Int) (l m : List (Nat × Int)) : foldQ Q (l ++ m) = foldQ (foldQ Q l) m := by
  unfold foldQ
  rw [List.foldl_append]
theorem asc_len_from {hi : Int} : ∀ (l : List Int) (lo : Int), l.Pairwise (· < ·) → (∀ x ∈ l, lo ≤ x ∧ x < hi) → l.length ≤ (hi - lo).toNat
  | [], _, _, _ => Nat.zero_le _
  | a :: l, lo, h, hr => by
    rw [List.pairwise_cons] at h
    have h1 := asc_len_from l (a + 1) h.2 fun x hx => ⟨by have := h.1 x hx; omega, (hr x (List.mem_cons_of_mem _ hx)).2⟩
    have h2 := hr a (List.mem_cons_self ..)
    rw [List.length_cons]
    omega
theorem asc_len {l : List Int} {T : Nat} (h : l.Pairwise (· < ·)) (hr : ∀ x ∈ l, 0 ≤ x ∧ x < (T : Int)) : l.length ≤ T := by
  have := asc_len_from l 0 h hr
  omega
theorem inK_prefix {es : List (List (Nat × Nat))} {tl : List It} {tn : Nat} {F : Nat → Bool} {L : Nat → Int} {R : Nat → List Int} {k p : Nat} : ∀ d, inK es tl tn F L R k p <+: inK es tl tn F L R k (p + d)
  | 0 => List.prefix_refl _
  | d + 1 => (inK_prefix d).trans (by
    show _ <+: inK es tl tn F L R k ((p + d) + 1)
    rw [inK]
    exact List.prefix_append _ _)
theorem inI_len {es : List (List (Nat × Nat))} {tl : List It} {tn : Nat} {F : Nat → Bool} {n : Nat} {L : Nat → Int} {R : Nat → List Int} {k p T : Nat} (hk : k < T) (hp : p ≤ n) (f : Nat) : (foldQ (fun _ => []) (inT es tl tn F n L R k ++ inK es tl tn F L R k p) f).length ≤ T := by
  obtain ⟨d, rfl⟩ : ∃ d, n = p + d := ⟨n - p, by omega⟩
  have h0 : (inT es tl tn F (p + d) L R k ++ inK es tl tn F L R k p).Sublist (inT es tl tn F (p + d) L R (k + 1)) := by
    rw [inT]
    exact List.Sublist.append_left (inK_prefix d).sublist _
  obtain ⟨h1, h2⟩ := foldQ_spec _ ((inT_asc (es := es) (tl := tl) (tn := tn) (F := F) (n := p + d) (L := L) (R := R) (k + 1)).sublist h0) f
  refine asc_len h2 fun x hx => ?_
  obtain ⟨k', h3, h4, _⟩ := mem_inT.1 (h0.subset ((h1 x).1 hx))
  simp only at h4
  omega

section
variable (ta na la pa sa xa l1 m1 : Option Addr) (tc nc lc pc sc xc lc1 mc1 : Nat) (n N T nb : Nat) (st : Int) (w : World) (tn nn ln : Nat)

set_option maxRecDepth 100000 in
set_option maxHeartbeats 2000000 in
theorem uinc_any (P : World) (B S bx kb : Nat) (ks : List (List It)) (es : List (List (Nat × Nat))) (kv ev : Nat → Value) (tl : List It) (F : Nat → Bool) (lb mb : Nat → Nat) (L : Nat → Int) (R : Nat → List Int) (ra : Nat → Option Addr) (rc : Nat → Nat) (V : Nat → Int) (hK : RlOK N T S tn nn ks es tl)
    (hR : RaAt B P nb nn S (.slice sa N sc) (.slice xa T xc) (.slice l1 N lc1) (.slice m1 N mc1) ks es kv ev tl F lb mb) (hPr : ProdsAt P pa n L R ra rc V) (hn : n ≤ 1000) (hrow : RowsOK n T S tl L R)
    (hL : ∃ ua uc, LqP P w bx kb T (fun _ => []) ua uc) :
    Calls Tryz.prog 33 #[.agg #[.slice ta tn tc, .slice na nn nc, .slice la ln lc, .int .i64 st, .slice pa n pc, .slice (some ⟨nb, 0, none⟩) nn nn, .slice sa N sc, .slice xa T xc, .slice l1 N lc1, .slice m1 N mc1], .func (.func 57) #[] #[.pointer (some ⟨bx, 0, none⟩)]] w fun e y => e = .returned (.tuple #[]) ∧ ∃ ua uc, LqP P y bx kb T (foldQ (fun _ => []) (inT es tl tn F n L R T)) ua uc := by
  obtain ⟨X0, hX0⟩ : ∃ X, X = w.alloc (.cells #[.slice ta tn tc, .slice na nn nc, .slice la ln lc, .int .i64 st, .slice pa n pc, .slice (some ⟨nb, 0, none⟩) nn nn, .slice sa N sc, .slice xa T xc, .slice l1 N lc1, .slice m1 N mc1] 81) := ⟨_, rfl⟩
  obtain ⟨X1, hX1⟩ : ∃ X, X = X0.alloc (.cells #[.func (.func 57) #[] #[.pointer (some ⟨bx, 0, none⟩)]] 116) := ⟨_, rfl⟩
  have hg0 : w.grownBy X0 none := by rw [hX0]; exact World.grownBy_alloc _ _ none
  have hg1 : X0.grownBy X1 none := by rw [hX1]; exact World.grownBy_alloc _ _ none
  have hb0 : X0.heap[w.heap.size]? = some (.cells #[.slice ta tn tc, .slice na nn nc, .slice la ln lc, .int .i64 st, .slice pa n pc, .slice (some ⟨nb, 0, none⟩) nn nn, .slice sa N sc, .slice xa T xc, .slice l1 N lc1, .slice m1 N mc1] 81 (0, 0)) := by rw [hX0]; exact heap_alloc_last w _
  have hb1 : X1.heap[w.heap.size]? = some (.cells #[.slice ta tn tc, .slice na nn nc, .slice la ln lc, .int .i64 st, .slice pa n pc, .slice (some ⟨nb, 0, none⟩) nn nn, .slice sa N sc, .slice xa T xc, .slice l1 N lc1, .slice m1 N mc1] 81 (0, 0)) := box_kept hb0 hg1
  have hs0 : X0.heap.size = w.heap.size + 1 := by rw [hX0, World.size_alloc]
  have hb2 : X1.heap[w.heap.size + 1]? = some (.cells #[.func (.func 57) #[] #[.pointer (some ⟨bx, 0, none⟩)]] 116 (0, 0)) := by rw [hX1, ← hs0]; exact heap_alloc_last X0 _
  have HWY : Hid (Calls Tryz.prog 59 #[.agg #[.slice ta tn tc, .slice na nn nc, .slice la ln lc, .int .i64 st, .slice pa n pc, .slice (some ⟨nb, 0, none⟩) nn nn, .slice sa N sc, .slice xa T xc, .slice l1 N lc1, .slice m1 N mc1], .func (.func 60) #[] #[.pointer (some ⟨w.heap.size, 0, none⟩), .pointer (some ⟨w.heap.size + 1, 0, none⟩)]] X1 fun e y => e = .returned (.tuple #[]) ∧ (y.heap[w.heap.size]? = some (.cells #[.slice ta tn tc, .slice na nn nc, .slice la ln lc, .int .i64 st, .slice pa n pc, .slice (some ⟨nb, 0, none⟩) nn nn, .slice sa N sc, .slice xa T xc, .slice l1 N lc1, .slice m1 N mc1] 81 (0, 0)) ∧ y.heap[w.heap.size + 1]? = some (.cells #[.func (.func 57) #[] #[.pointer (some ⟨bx, 0, none⟩)]] 116 (0, 0)) ∧ ∃ ua uc, LqP P y bx kb T (foldQ (fun _ => []) (inT es tl tn F n L R T ++ inK es tl tn F L R T 0)) ua uc)) :=
    ways_inc ta na la pa sa xa l1 m1 tc nc lc pc sc xc lc1 mc1 n N T nb st X1 tn nn ln P B S ks es kv ev tl F lb mb L R ra rc V hK hR hPr hn hrow w.heap.size (w.heap.size + 1)
      (fun X k p => X.heap[w.heap.size]? = some (.cells #[.slice ta tn tc, .slice na nn nc, .slice la ln lc, .int .i64 st, .slice pa n pc, .slice (some ⟨nb, 0, none⟩) nn nn, .slice sa N sc, .slice xa T xc, .slice l1 N lc1, .slice m1 N mc1] 81 (0, 0)) ∧ X.heap[w.heap.size + 1]? = some (.cells #[.func (.func 57) #[] #[.pointer (some ⟨bx, 0, none⟩)]] 116 (0, 0)) ∧ ∃ ua uc, LqP P X bx kb T (foldQ (fun _ => []) (inT es tl tn F n L R k ++ inK es tl tn F L R k p)) ua uc)
      (fun X Y k p h hg => ⟨box_kept h.1 hg, box_kept h.2.1 hg, by obtain ⟨ua, uc, h1⟩ := h.2.2; exact ⟨ua, uc, h1.kept hg⟩⟩)
      (fun X k p h => by obtain ⟨ua, uc, h1⟩ := h.2.2; exact h1.grown)
      (fun Y0 Y k p q tb hk hp hq e h hg htb hv => by
        obtain ⟨h1, h2, ua, uc, h3⟩ := h
        refine (uincf_any ta na la pa sa xa l1 m1 tc nc lc pc sc xc lc1 mc1 n N T nb st Y tn nn ln P B S bx kb w.heap.size (w.heap.size + 1) tb ks es kv ev tl F lb mb L R ra rc V hK hR hPr k p q (R p).length hk hp hn rfl ((hrow p hp).1 k hk (by rw [e])) (hrow p hp).2 (stF_lt hq fun r hr x hx => by rw [hK.hN]; exact ((hK.eok.each r (by rw [← hK.hN]; exact hr)).2.2 x hx).2) (box_kept h1 hg) (box_kept h2 hg) (foldQ (fun _ => []) (inT es tl tn F n L R k ++ inK es tl tn F L R k p)) (fun f => by have a1 := inI_len (es := es) (tl := tl) (tn := tn) (F := F) (n := n) (L := L) (R := R) hk (Nat.le_of_lt hp) f; have a2 := hK.t40; have a3 := ((hrow p hp).1 k hk (by rw [e])); omega) (LqT.new h3 hg hv htb)).mono ?_
        rintro e' y ⟨rfl, hk2, hl2⟩
        refine ⟨rfl, hk2, hk2.at (box_kept h1 hg) (by decide) (by decide), hk2.at (box_kept h2 hg) (by decide) (by decide), ?_⟩
        obtain ⟨ua', uc', h4⟩ := hl2.lq
        refine ⟨ua', uc', ?_⟩
        have e2 : foldQ (fun _ => []) (inT es tl tn F n L R k ++ inK es tl tn F L R k (p + 1)) = foldQ (foldQ (fun _ => []) (inT es tl tn F n L R k ++ inK es tl tn F L R k p)) (inW tl tn F (stF es q (R p)) (R p) (k : Int) (R p).length) := by
          rw [inK, e, if_pos rfl, ← List.append_assoc, foldQ_append _ (inT es tl tn F n L R k ++ inK es tl tn F L R k p)]
          rfl
        rw [e2]
        exact h4)
      (fun X k p q s _ _ e hne h => by
        refine ⟨h.1, h.2.1, ?_⟩
        rw [inK, e, if_neg hne, List.append_nil]
        exact h.2.2)
      (fun X k h => by
        refine ⟨h.1, h.2.1, ?_⟩
        rw [inT, inK, List.append_nil]
        exact h.2.2)
      ⟨hb1, hb2, by obtain ⟨ua, uc, h⟩ := hL; exact ⟨ua, uc, (h.kept hg0).kept hg1⟩⟩
  obtain ⟨a0, a1, a2, a3, a4, a5, a6, a7, a8, a9⟩ := av_cells hb1
  rw [hX1, hX0] at a0 a1 a2 a3 a4 a5 a6 a7 a8 a9
  have HXE : Hid (X1 = (w.alloc (.cells #[.slice ta tn tc, .slice na nn nc, .slice la ln lc, .int .i64 st, .slice pa n pc, .slice (some ⟨nb, 0, none⟩) nn nn, .slice sa N sc, .slice xa T xc, .slice l1 N lc1, .slice m1 N mc1] 81)).alloc (.cells #[.func (.func 57) #[] #[.pointer (some ⟨bx, 0, none⟩)]] 116)) := by show _ = _; rw [hX1, hX0]
  clear hK hR hPr hrow hL hX0 hX1 hg0 hg1 hb0 hb1 hs0 hb2
  go_enter Tryz.func33, Tryz.ntmps33
  go_wp2_with fail
  rw [← HXE.out]
  refine Calls.mono HWY.out ?_
  rintro e y ⟨rfl, _, _, hl⟩
  have HL := show Hid _ from hl
  clear hl a0 a1 a2 a3 a4 a5 a6 a7 a8 a9
  go_wp2_with fail
  refine bodyPost_end (v := .tuple #[]) (by simp [results, Tryz.results33]) rfl ?_
  refine ⟨rfl, ?_⟩
  have h := HL.out
  rw [inK, List.append_nil] at h
  exact h
end

end Go.Proofs.YtkbjbijoekmooaaGreat.J

/-
  relate: what lookback hands out, in memory.
-/
namespace Go.Proofs.YtkbjbijoekmooaaGreat.J
open Go.RowKit Go.Maps Go.Shelf

attribute [local go_sem] Oper.semAt_some

theorem idx_inj {n s p s' p' : Nat} (h1 : p < n) (h2 : p' < n) (e : s * n + p = s' * n + p') : s = s' ∧ p = p' := by
  have a1 : (s * n + p) % n = p := by rw [Nat.mul_comm, Nat.mul_add_mod]; exact Nat.mod_eq_of_lt h1
  have a2 : (s' * n + p') % n = p' := by rw [Nat.mul_comm, Nat.mul_add_mod]; exact Nat.mod_eq_of_lt h2
  have e2 : p = p' := by rw [← a1, e, a2]
  refine ⟨?_, e2⟩
  have e3 : s * n = s' * n := by omega
  exact Nat.eq_of_mul_eq_mul_right (by omega) e3
theorem idx_lt {n N s p : Nat} (hs : s < N) (hp : p < n) : s * n + p < N * n := by
  have h : (s + 1) * n ≤ N * n := Nat.mul_le_mul_right n hs
  rw [Nat.succ_mul] at h
  omega

/-- Lists under way, by state and production. -/
structure LbP (P X : World) (bx kb N n : Nat) (Q : Nat → List Int) (rb : Nat → Nat) (ua : Nat → Option Addr) (uc : Nat → Nat) : Prop where
  grown : P.grownBy X none
  box : X.heap[bx]? = some (.cells #[.slice (some ⟨kb, 0, none⟩) N N] 119 (0, 0))
  out : ValAt X kb N 30 (fun s => .slice (some ⟨rb s, 0, none⟩) n n)
  val : ∀ s, s < N → ValAt X (rb s) n 24 (fun p => .slice (ua (s * n + p)) (Q (s * n + p)).length (uc (s * n + p)))
  own : ∀ k, k < N * n → X.ownsRow P.heap.size 3 1 (.slice (ua k) (Q k).length (uc k)) (Q k).length (intV (Q k))
  sep : ∀ k l, k < N * n → l < N * n → k ≠ l → (Value.slice (ua k) (Q k).length (uc k)).ownBlock = none ∨ (Value.slice (ua k) (Q k).length (uc k)).ownBlock ≠ (Value.slice (ua l) (Q l).length (uc l)).ownBlock
  inj : ∀ s s', s < N → s' < N → rb s = rb s' → s = s'
  lo : P.heap.size ≤ bx ∧ P.heap.size ≤ kb ∧ ∀ s, s < N → P.heap.size ≤ rb s
section
variable {P X Y : World} {bx kb N n : Nat} {Q : Nat → List Int} {rb : Nat → Nat} {ua : Nat → Option Addr} {uc : Nat → Nat}
theorem LbP.kept (h : LbP P X bx kb N n Q rb ua uc) (hg : X.grownBy Y none) : LbP P Y bx kb N n Q rb ua uc :=
  ⟨grown_trans h.grown hg, box_kept h.box hg, h.out.kept hg, fun s hs => (h.val s hs).kept hg, fun k hk => keep0 (h.own k hk) hg, h.sep, h.inj, h.lo⟩
theorem LbP.add (h : LbP P X bx kb N n Q rb ua uc) {s p g c : Nat} {x : Int} (hs : s < N) (hp : p < n) (hg : X.grownBy Y (Value.slice (ua (s * n + p)) (Q (s * n + p)).length (uc (s * n + p))).ownBlock) (ho : Y.ownsRow P.heap.size 3 1 (.slice (some ⟨g, 0, none⟩) ((Q (s * n + p)).length + 1) c) ((Q (s * n + p)).length + 1) (intV (Q (s * n + p)) ++ [.int .i64 x])) (hat : (Value.slice (ua (s * n + p)) (Q (s * n + p)).length (uc (s * n + p))).ownBlock = some g ∨ g = X.heap.size) : LbP P (Y.setCell ⟨rb s, p, none⟩ (.slice (some ⟨g, 0, none⟩) ((Q (s * n + p)).length + 1) c)) bx kb N n (updL Q (s * n + p) (Q (s * n + p) ++ [x])) rb (updL ua (s * n + p) (some ⟨g, 0, none⟩)) (updL uc (s * n + p) c) := by
  obtain ⟨f, hf⟩ : ∃ f, f = s * n + p := ⟨_, rfl⟩
  have hfN : f < N * n := by rw [hf]; exact idx_lt hs hp
  rw [← hf] at hg ho hat ⊢
  have hss : Y.grownBy (Y.setCell ⟨rb s, p, none⟩ (.slice (some ⟨g, 0, none⟩) ((Q f).length + 1) c)) (some (rb s)) := grown_setCell _ _ _
  have hv : ∀ s', s' < N → ValAt Y (rb s') n 24 (fun p => .slice (ua (s' * n + p)) (Q (s' * n + p)).length (uc (s' * n + p))) := fun s' hs' => box_row (h.val s' hs') (h.own f hfN) (by decide) hg
  have hb : Y.heap[bx]? = some (.cells #[.slice (some ⟨kb, 0, none⟩) N N] 119 (0, 0)) := box_row h.box (h.own f hfN) (by decide) hg
  have hout : ValAt Y kb N 30 (fun s => .slice (some ⟨rb s, 0, none⟩) n n) := box_row h.out (h.own f hfN) (by decide) hg
  have hlen : (Q f ++ [x]).length = (Q f).length + 1 := by simp
  have hiv : intV (Q f ++ [x]) = intV (Q f) ++ [.int .i64 x] := by unfold intV; rw [List.map_append]; rfl
  have key : ∀ k, k < N * n → k ≠ f → (Value.slice (ua k) (Q k).length (uc k)).ownBlock = none ∨ (Value.slice (ua k) (Q k).length (uc k)).ownBlock ≠ some g := fun k hk e => by
    rcases hat with h1 | h1
    · rw [← h1]; exact h.sep k f hk hfN e
    · cases hb : (Value.slice (ua k) (Q k).length (uc k)).ownBlock with
      | none => exact .inl rfl
      | some b =>
        right
        intro h2
        have h3 := ((h.own k hk).lt b hb).2
        have h4 : b = g := by simpa using h2
        omega
  have ne : ∀ {b' : Nat} {cs : Array Value} {t : TypeId}, Y.heap[b']? = some (.cells cs t (0, 0)) → t ≠ 24 → (Y.setCell ⟨rb s, p, none⟩ (.slice (some ⟨g, 0, none⟩) ((Q f).length + 1) c)).heap[b']? = some (.cells cs t (0, 0)) := fun {b' cs t} h1 h2 => by
    refine (hss.block b' (Array.getElem?_eq_some_iff.1 h1).1 ?_).trans h1
    intro e
    have e2 : b' = rb s := by simpa using e
    have h3 := hv s hs
    unfold ValAt at h3
    rw [e2, h3] at h1
    simp only [Option.some.injEq, Obj.cells.injEq] at h1
    exact h2 h1.2.1.symm
  refine ⟨grown_new (grown_owned h.grown (h.own f hfN) (Nat.le_refl _) hg) hss (h.lo.2.2 s hs), ne hb (by decide), ne hout (by decide), fun s' hs' => ?_, fun k hk => ?_, fun k l hk hl e => ?_, h.inj, h.lo⟩
  · by_cases e : s' = s
    · subst e
      refine ((hv s' hs').set p _).ext fun i hi => ?_
      unfold put
      by_cases e2 : i = p
      · subst e2
        rw [if_pos rfl, ← hf, updL_same, updL_same, updL_same, hlen]
      · have e3 : s' * n + i ≠ f := by rw [hf]; omega
        rw [if_neg e2, updL_other _ _ e3, updL_other _ _ e3, updL_other _ _ e3]
    · have h2 : rb s' ≠ rb s := fun h3 => e (h.inj s' s hs' hs h3)
      refine ((hv s' hs').at hss h2).ext fun i hi => ?_
      have e3 : s' * n + i ≠ f := fun h3 => e (idx_inj hi hp (by rw [h3, hf])).1
      rw [updL_other _ _ e3, updL_other _ _ e3, updL_other _ _ e3]
  · by_cases e : k = f
    · subst e
      rw [updL_same, updL_same, updL_same, hlen, hiv]
      exact ho.kept hss (owns_nebox ho (hv s hs) (by decide))
    · rw [updL_other _ _ e, updL_other _ _ e, updL_other _ _ e]
      have h1 := (h.own k hk).kept hg (h.sep k f hk hfN e)
      exact h1.kept hss (owns_nebox h1 (hv s hs) (by decide))
  · by_cases e1 : k = f
    · subst e1
      have e2 : l ≠ k := fun h => e h.symm
      rw [updL_same, updL_same, updL_same, updL_other _ _ e2, updL_other _ _ e2, updL_other _ _ e2]
      right
      rcases key l hl e2 with h1 | h1
      · rw [h1]; simp [Value.ownBlock]
      · exact fun h2 => h1 h2.symm
    · rw [updL_other _ _ e1, updL_other _ _ e1, updL_other _ _ e1]
      by_cases e2 : l = f
      · subst e2
        rw [updL_same, updL_same, updL_same]
        exact key k hk e1
      · rw [updL_other _ _ e2, updL_other _ _ e2, updL_other _ _ e2]
        exact h.sep k l hk hl e
end
/-- Lists under way, and a row of numbers beside them. -/
def LbT (P X : World) (bx kb N n : Nat) (Q : Nat → List Int) (rb : Nat → Nat) (tb tm : Nat) (tf : Nat → Value) : Prop := ∃ ua uc, LbP P X bx kb N n Q rb ua uc ∧ ValAt X tb tm 3 tf ∧ ∀ k, k < N * n → (Value.slice (ua k) (Q k).length (uc k)).ownBlock ≠ some tb
section
variable {P X Y : World} {bx kb N n : Nat} {Q : Nat → List Int} {rb : Nat → Nat} {tb tm : Nat} {tf : Nat → Value}
theorem LbT.kept (h : LbT P X bx kb N n Q rb tb tm tf) (hg : X.grownBy Y none) : LbT P Y bx kb N n Q rb tb tm tf := by
  obtain ⟨ua, uc, h1, h2, h3⟩ := h
  exact ⟨ua, uc, h1.kept hg, h2.kept hg, h3⟩
theorem LbT.new {ua : Nat → Option Addr} {uc : Nat → Nat} (h : LbP P X bx kb N n Q rb ua uc) (hg : X.grownBy Y none) (hv : ValAt Y tb tm 3 tf) (hn : X.heap.size ≤ tb) : LbT P Y bx kb N n Q rb tb tm tf :=
  ⟨ua, uc, h.kept hg, hv, fun k hk e => by have := ((h.own k hk).lt tb e).2; omega⟩
theorem LbT.val (h : LbT P X bx kb N n Q rb tb tm tf) : ValAt X tb tm 3 tf := by
  obtain ⟨ua, uc, _, h1, _⟩ := h
  exact h1
end

set_option maxRecDepth 100000 in
set_option maxHeartbeats 2000000 in
theorem handB_any (P w : World) (bx kb N n tb tm : Nat) (tf : Nat → Value) (Q : Nat → List Int) (rb : Nat → Nat) (hLT : LbT P w bx kb N n Q rb tb tm tf) (s p : Nat) (x : Int) (hs : s < N) (hp : p < n) (hQ : (Q (s * n + p)).length ≤ 10000000) :
    Calls Tryz.prog 63 #[.int .i64 (s : Int), .int .i64 (p : Int), .int .i64 x, .pointer (some ⟨bx, 0, none⟩)] w fun e y => e = .returned (.tuple #[]) ∧ KeepH w y ∧ LbT P y bx kb N n (updL Q (s * n + p) (Q (s * n + p) ++ [x])) rb tb tm tf := by
  obtain ⟨ua, uc, h, htv, hap⟩ := hLT
  have hfN : s * n + p < N * n := idx_lt hs hp
  have c0 : w.cell? ⟨bx, 0, none⟩ = some (.slice (some ⟨kb, 0, none⟩) N N) := by rw [cell_of_row _ _ _ _ _ _ h.box]; rfl
  have cO := h.out.cell s hs
  have c1 := (h.val s hs).cell p hp
  obtain ⟨fa, hfa⟩ : ∃ a, a = ua (s * n + p) := ⟨_, rfl⟩
  obtain ⟨fc, hfc⟩ : ∃ a, a = uc (s * n + p) := ⟨_, rfl⟩
  obtain ⟨m, hm⟩ : ∃ m, m = (Q (s * n + p)).length := ⟨_, rfl⟩
  rw [← hfa, ← hfc, ← hm] at c1
  rw [← hm] at hQ
  have hs0 : (0 : Int) ≤ (s : Int) := by omega
  have hs1 : (s : Int) < (N : Int) := by omega
  have hp0 : (0 : Int) ≤ (p : Int) := by omega
  have hp1 : (p : Int) < (n : Int) := by omega
  have HOW : Hid (∀ Y, w.grownBy Y none → Y.ownsRow P.heap.size 3 1 (.slice fa m fc) m (intV (Q (s * n + p)))) := fun Y hY => by
    have h1 := keep0 (h.own _ hfN) hY
    rw [← hfa, ← hfc, ← hm] at h1
    exact h1
  have HPS : Hid (∀ Y, w.grownBy Y none → P.heap.size ≤ Y.heap.size) := fun Y hY => Nat.le_trans h.grown.size hY.size
  have HFIN : Hid (∀ (Y V : World) (g c : Nat), w.grownBy Y none → Y.grownBy V (Value.slice fa m fc).ownBlock → V.ownsRow P.heap.size 3 1 (.slice (some ⟨g, 0, none⟩) (m + 1) c) (m + 1) (intV (Q (s * n + p)) ++ [.int .i64 x]) → ((Value.slice fa m fc).ownBlock = some g ∨ g = Y.heap.size) → V.cell? ⟨rb s, p, none⟩ = some (.slice fa m fc) ∧ V.frozen? ⟨rb s, p, none⟩ = false ∧ V.cell? ⟨bx, 0, none⟩ = some (.slice (some ⟨kb, 0, none⟩) N N) ∧ V.cell? ⟨kb, s, none⟩ = some (.slice (some ⟨rb s, 0, none⟩) n n) ∧ KeepH w (V.setCell ⟨rb s, p, none⟩ (.slice (some ⟨g, 0, none⟩) (m + 1) c)) ∧ LbT P (V.setCell ⟨rb s, p, none⟩ (.slice (some ⟨g, 0, none⟩) (m + 1) c)) bx kb N n (updL Q (s * n + p) (Q (s * n + p) ++ [x])) rb tb tm tf) := fun Y V g c hY hg ho hat => by
    rw [hfa, hfc, hm] at hg hat
    rw [hm] at ho
    have h1 := h.kept hY
    have hv : ValAt V (rb s) n 24 (fun p => .slice (ua (s * n + p)) (Q (s * n + p)).length (uc (s * n + p))) := box_row (h1.val s hs) (h1.own _ hfN) (by decide) hg
    have hb : V.heap[bx]? = some (.cells #[.slice (some ⟨kb, 0, none⟩) N N] 119 (0, 0)) := box_row h1.box (h1.own _ hfN) (by decide) hg
    have hout : ValAt V kb N 30 (fun s => .slice (some ⟨rb s, 0, none⟩) n n) := box_row h1.out (h1.own _ hfN) (by decide) hg
    refine ⟨by rw [hfa, hfc, hm]; exact hv.cell p hp, hv.free p, by rw [cell_of_row _ _ _ _ _ _ hb]; rfl, hout.cell s hs, ?_⟩
    rw [hm]
    have hne : some tb ≠ (Value.slice (ua (s * n + p)) (Q (s * n + p)).length (uc (s * n + p))).ownBlock := fun e => hap _ hfN e.symm
    have htY := htv.kept hY
    have ht1 : ValAt V tb tm 3 tf := by
      unfold ValAt at htY ⊢
      exact (hg.block tb (Array.getElem?_eq_some_iff.1 htY).1 hne).trans htY
    have ht2 : ValAt (V.setCell ⟨rb s, p, none⟩ (.slice (some ⟨g, 0, none⟩) ((Q (s * n + p)).length + 1) c)) tb tm 3 tf := ht1.at (grown_setCell (rb s) p _) fun e => by
      have e2 : tb = rb s := by simpa using e
      unfold ValAt at ht1 hv
      rw [e2, hv] at ht1
      simp only [Option.some.injEq, Obj.cells.injEq] at ht1
      exact absurd ht1.2.1 (by decide)
    refine ⟨((KeepH.none_ hY).trans (.row (h1.own _ hfN) hg)).trans (.set hv), _, _, h1.add hs hp hg ho hat, ht2, fun k hk => ?_⟩
    by_cases e : k = s * n + p
    · subst e
      rw [updL_same, updL_same, updL_same]
      show some g ≠ some tb
      intro e2
      have e3 : g = tb := by simpa using e2
      rcases hat with h2 | h2
      · rw [e3] at h2; exact hap _ hfN h2
      · have := htv.lt
        have := hY.size
        omega
    · rw [updL_other _ _ e, updL_other _ _ e, updL_other _ _ e]
      exact hap k hk
  obtain ⟨xs, hxs⟩ : ∃ xs, xs = intV (Q (s * n + p)) := ⟨_, rfl⟩
  rw [← hxs] at HOW HFIN
  obtain ⟨i0, hi0, hz0, hz1, hz2⟩ := info_parts infoInt
  have c2 : ∀ o, (w.alloc o).cell? ⟨bx, 0, none⟩ = some (.slice (some ⟨kb, 0, none⟩) N N) := fun o => (World.grownBy_alloc _ o none).cell c0 (by simp)
  have c3 : ∀ o, (w.alloc o).cell? ⟨kb, s, none⟩ = some (.slice (some ⟨rb s, 0, none⟩) n n) := fun o => (World.grownBy_alloc _ o none).cell cO (by simp)
  have c4 : ∀ o, (w.alloc o).cell? ⟨rb s, p, none⟩ = some (.slice fa m fc) := fun o => (World.grownBy_alloc _ o none).cell c1 (by simp)
  obtain ⟨rs, hrs⟩ : ∃ b, b = rb s := ⟨_, rfl⟩
  rw [← hrs] at HFIN c1 c3 c4 cO
  clear h hfa hfc hm hxs htv hap hrs hfN
  go_enter Tryz.func63, Tryz.ntmps63
  go_wp2_with fail
  go_region_law (first
    | (refine step_append_liesW _ rfl (.tmp 18) (.tmp 20) 24 rfl P.heap.size 3 i0 (.int .i64 0) 1 8 Tryz.underlying24 hi0 hz0 hz1 hz2 rfl (by decide) (.slice fa m fc) m xs (by first | rfl | (simp [Act.eval]; done) | fail) (HOW.out _ (grown_trans (World.grownBy_alloc _ _ none) (grown_drewN _ _))) ⟨w.heap.size, 0, none⟩ 1 1 [.int .i64 x] (by first | rfl | (simp [Act.eval]; done) | fail) rfl (World.news_of_block (heap_alloc_last w _)) (by simp [Value.oneCell']) (by decide) (by unfold maxLen; omega) (by omega) (HPS.out _ (grown_trans (World.grownBy_alloc _ _ none) (grown_drewN _ _))) ?_; intro g9 c9 wB hoB hgB hat; obtain ⟨q1, q2, q3, q4, q5⟩ := HFIN.out _ wB g9 c9 (grown_trans (World.grownBy_alloc _ _ none) (grown_drewN _ _)) hgB hoB hat; have HQ1 := show Hid _ from q5; clear q5 hoB hgB hat)
    | fail)
  all_goals go_wp2_with fail
  all_goals refine bodyPost_end (v := .tuple #[]) (by simp [results, Tryz.results63]) rfl ?_
  all_goals exact ⟨rfl, HQ1.out⟩

end Go.Proofs.YtkbjbijoekmooaaGreat.J

/-
  relate: lookback.
-/
namespace Go.Proofs.YtkbjbijoekmooaaGreat.J
open Go.RowKit Go.Maps Go.Shelf

attribute [local go_sem] Oper.semAt_some

set_option maxRecDepth 100000 in
set_option maxHeartbeats 2000000 in
theorem ulbf_any (P w : World) (bx kb hb N n tb m : Nat) (sf : Nat → Nat) (Q : Nat → List Int) (rb : Nat → Nat) (k p : Nat) (hp : p < n) (hm4 : m ≤ 10000) (hst : sf m < N) (hhb : w.heap[hb]? = some (.cells #[.func (.func 63) #[] #[.pointer (some ⟨bx, 0, none⟩)]] 121 (0, 0)))
    (hQ : ∀ f, (Q f).length ≤ 10000000) (hL : LbT P w bx kb N n Q rb tb (m + 1) (fun i => .int .i64 (sf i : Int))) :
    Calls Tryz.prog 90 #[.int .i64 (k : Int), .int .i64 (p : Int), .slice (some ⟨tb, 0, none⟩) (m + 1) (m + 1), .pointer (some ⟨hb, 0, none⟩)] w fun e y => e = .returned (.tuple #[]) ∧ KeepH w y ∧ LbT P y bx kb N n (updL Q (sf m * n + p) (Q (sf m * n + p) ++ [(k : Int)])) rb tb (m + 1) (fun i => .int .i64 (sf i : Int)) := by
  obtain ⟨su, hsu⟩ : ∃ x, x = sf m := ⟨_, rfl⟩
  rw [← hsu] at hst ⊢
  have HHA : Hid (Calls Tryz.prog 63 #[.int .i64 (su : Int), .int .i64 (p : Int), .int .i64 (k : Int), .pointer (some ⟨bx, 0, none⟩)] w.drew fun e y => e = .returned (.tuple #[]) ∧ KeepH w.drew y ∧ LbT P y bx kb N n (updL Q (su * n + p) (Q (su * n + p) ++ [(k : Int)])) rb tb (m + 1) (fun i => .int .i64 (sf i : Int))) := handB_any P w.drew bx kb N n tb (m + 1) _ Q rb (hL.kept (grown_drewN w 1)) su p (k : Int) hst hp (hQ _)
  have HSX : Hid (∀ X : World, X.heap[hb]? = some (.cells #[.func (.func 63) #[] #[.pointer (some ⟨bx, 0, none⟩)]] 121 (0, 0)) → ValAt X tb (m + 1) 3 (fun i => .int .i64 (sf i : Int)) → X.cell? ⟨hb, 0, none⟩ = some (.func (.func 63) #[] #[.pointer (some ⟨bx, 0, none⟩)]) ∧ X.cell? ⟨tb, m, none⟩ = some (.int .i64 (su : Int))) := fun X h1 h2 => by
    refine ⟨by rw [cell_of_row _ _ _ _ _ _ h1]; rfl, ?_⟩
    rw [hsu]
    exact h2.cell m (by omega)
  have HKS := show Hid _ from HSX.out w hhb hL.val
  have HHB : Hid (w.drew.heap[hb]? = some (.cells #[.func (.func 63) #[] #[.pointer (some ⟨bx, 0, none⟩)]] 121 (0, 0))) := box_kept hhb (grown_drewN w 1)
  have HK0 : Hid (KeepH w w.drew) := .none_ (grown_drewN w 1)
  have hmw : IntKind.i64.wrap ((m : Int) + 1 - 1) = (m : Int) := by rw [IntKind.wrap_i64]; omega
  have hmw2 : IntKind.i64.wrap (m : Int) = (m : Int) := by rw [IntKind.wrap_i64]; omega
  have hmw3 : IntKind.i64.wrap (((m + 1 : Nat) : Int) - 1) = (m : Int) := by rw [IntKind.wrap_i64]; omega
  have hmw4 : (m : Int) + 1 - 1 = (m : Int) := by omega
  have hm0 : (0 : Int) ≤ (m : Int) := by omega
  have hm1 : (m : Int) < (m : Int) + 1 := by omega
  have hm2 : (m : Int) < ((m + 1 : Nat) : Int) := by omega
  clear hsu hL hhb hQ
  go_enter Tryz.func90, Tryz.ntmps90
  go_wp2_with fail
  go_region_held3 (fun X => X.cell? ⟨hb, 0, none⟩ = some (.func (.func 63) #[] #[.pointer (some ⟨bx, 0, none⟩)]) ∧ X.cell? ⟨tb, m, none⟩ = some (.int .i64 (su : Int))) (first | exact HKS.out | exact HKT.out | go_keep)
    ((first
      | (go_at_call 63; refine calls_at w.drew (by with_reducible rfl) ?_; refine Calls.mono HHA.out ?_; rintro e w4 ⟨rfl, hk4, hl4⟩; have HKT := show Hid _ from HSX.out w4 (hk4.at HHB.out (by decide) (by decide)) hl4.val; have HK4 : Hid (KeepH w w4) := HK0.out.trans hk4; have HL4 := show Hid _ from hl4; clear hk4 hl4)
      | fail))
  all_goals go_wp2_with fail
  all_goals refine bodyPost_end (v := .tuple #[]) (by simp [results, Tryz.results90]) rfl ?_
  all_goals exact ⟨rfl, HK4.out, HL4.out⟩

/-- What lookback hands out of a transition, by the productions below p. -/
def lbK (es : List (List (Nat × Nat))) (tl : List It) (n : Nat) (L : Nat → Int) (R : Nat → List Int) (k : Nat) : Nat → List (Nat × Int)
  | 0 => []
  | p + 1 => lbK es tl n L R k p ++ (if L p = (tl.getD k (0, 0)).2 then [(stF es (tl.getD k (0, 0)).1.toNat (R p) (R p).length * n + p, (k : Int))] else [])
/-- .. of the transitions below k, by n productions. -/
def lbT (es : List (List (Nat × Nat))) (tl : List It) (n : Nat) (L : Nat → Int) (R : Nat → List Int) : Nat → List (Nat × Int)
  | 0 => []
  | k + 1 => lbT es tl n L R k ++ lbK es tl n L R k n
/-- Lists, once all this has been handed to them. -/
def foldA (l : List (Nat × Int)) (f : Nat) : List Int := (l.filter fun x => decide (x.1 = f)).map Prod.snd
theorem foldA_snoc (l : List (Nat × Int)) (f : Nat) (x : Int) : foldA (l ++ [(f, x)]) = updL (foldA l) f (foldA l f ++ [x]) := funext fun i => by
  unfold foldA
  rw [List.filter_append, List.map_append]
  by_cases e : i = f
  · subst e
    rw [updL_same]
    simp
  · rw [updL_other _ _ e]
    have : ¬ f = i := fun h => e h.symm
    simp [this]
theorem mem_foldA {l : List (Nat × Int)} {f : Nat} {x : Int} : x ∈ foldA l f ↔ (f, x) ∈ l := by
  unfold foldA
  rw [List.mem_map]
  constructor
  · rintro ⟨y, hy, rfl⟩
    obtain ⟨h1, h2⟩ := List.mem_filter.1 hy
    simp only [decide_eq_true_eq] at h2
    rw [← h2]
    exact h1
  · intro h
    exact ⟨(f, x), List.mem_filter.2 ⟨h, by simp⟩, rfl⟩
section
variable {es : List (List (Nat × Nat))} {tl : List It} {n : Nat} {L : Nat → Int} {R : Nat → List Int}
theorem mem_lbK {k : Nat} {x : Nat × Int} : ∀ {p : Nat}, x ∈ lbK es tl n L R k p ↔ ∃ p', p' < p ∧ L p' = (tl.getD k (0, 0)).2 ∧ x = (stF es (tl.getD k (0, 0)).1.toNat (R p') (R p').length * n + p', (k : Int))
  | 0 => by simp [lbK]
  | p + 1 => by
    rw [lbK, List.mem_append, mem_lbK]
    constructor
    · rintro (⟨p', h1, h2⟩ | h)
      · exact ⟨p', by omega, h2⟩
      · by_cases e : L p = (tl.getD k (0, 0)).2
        · rw [if_pos e, List.mem_singleton] at h; exact ⟨p, Nat.lt_succ_self _, e, h⟩
        · rw [if_neg e] at h; cases h
    · rintro ⟨p', h1, h2, h3⟩
      by_cases e : p' = p
      · subst e; right; rw [if_pos h2, List.mem_singleton]; exact h3
      · exact .inl ⟨p', by omega, h2, h3⟩
theorem mem_lbT {x : Nat × Int} : ∀ {k : Nat}, x ∈ lbT es tl n L R k ↔ ∃ k', k' < k ∧ x ∈ lbK es tl n L R k' n
  | 0 => by simp [lbT]
  | k + 1 => by
    rw [lbT, List.mem_append, mem_lbT]
    constructor
    · rintro (⟨k', h1, h2⟩ | h)
      · exact ⟨k', by omega, h2⟩
      · exact ⟨k, Nat.lt_succ_self _, h⟩
    · rintro ⟨k', h1, h3⟩
      by_cases e : k' = k
      · subst e; exact .inr h3
      · exact .inl ⟨k', by omega, h3⟩
theorem lbK_asc {k : Nat} : ∀ p, p ≤ n → (lbK es tl n L R k p).Pairwise fun x y => x.1 ≠ y.1
  | 0, _ => List.Pairwise.nil
  | p + 1, hp => by
    rw [lbK, List.pairwise_append]
    refine ⟨lbK_asc p (by omega), ?_, fun x hx y hy e => ?_⟩
    · split
      · exact List.pairwise_singleton _ _
      · exact List.Pairwise.nil
    · obtain ⟨p', h1, _, rfl⟩ := mem_lbK.1 hx
      by_cases e2 : L p = (tl.getD k (0, 0)).2
      · rw [if_pos e2, List.mem_singleton] at hy
        subst hy
        have := (idx_inj (n := n) (by omega) (by omega) e).2
        omega
      · rw [if_neg e2] at hy; cases hy
theorem lbK_snd {k p : Nat} {x : Nat × Int} (h : x ∈ lbK es tl n L R k p) : x.2 = (k : Int) := by
  obtain ⟨_, _, _, rfl⟩ := mem_lbK.1 h
  rfl
theorem lbT_asc : ∀ k, (lbT es tl n L R k).Pairwise fun x y => x.1 = y.1 → x.2 < y.2
  | 0 => List.Pairwise.nil
  | k + 1 => by
    rw [lbT, List.pairwise_append]
    refine ⟨lbT_asc k, (lbK_asc n (Nat.le_refl _)).imp fun h e => absurd e h, fun x hx y hy _ => ?_⟩
    obtain ⟨k', h1, h2⟩ := mem_lbT.1 hx
    rw [lbK_snd h2, lbK_snd hy]
    omega
theorem foldA_asc {l : List (Nat × Int)} (h : l.Pairwise fun x y => x.1 = y.1 → x.2 < y.2) (f : Nat) : (foldA l f).Pairwise (· < ·) := by
  unfold foldA
  rw [List.pairwise_map]
  refine (h.sublist List.filter_sublist).imp_of_mem fun {x y} hx hy h1 => ?_
  have h2 := (List.mem_filter.1 hx).2
  have h3 := (List.mem_filter.1 hy).2
  simp only [decide_eq_true_eq] at h2 h3
  exact h1 (by rw [h2, h3])
theorem lbK_prefix {k p : Nat} : ∀ d, lbK es tl n L R k p <+: lbK es tl n L R k (p + d)
  | 0 => List.prefix_refl _
  | d + 1 => (lbK_prefix d).trans (by
    show _ <+: lbK es tl n L R k ((p + d) + 1)
    rw [lbK]
    exact List.prefix_append _ _)
theorem lbI_len {k p T : Nat} (hk : k < T) (hp : p ≤ n) (f : Nat) : (foldA (lbT es tl n L R k ++ lbK es tl n L R k p) f).length ≤ T := by
  obtain ⟨d, hd⟩ : ∃ d, n = p + d := ⟨n - p, by omega⟩
  have h0 : (lbT es tl n L R k ++ lbK es tl n L R k p).Sublist (lbT es tl n L R (k + 1)) := by
    rw [lbT]
    refine List.Sublist.append_left ?_ _
    have h := (lbK_prefix (es := es) (tl := tl) (n := n) (L := L) (R := R) (k := k) (p := p) d).sublist
    rw [← hd] at h
    exact h
  refine asc_len (foldA_asc ((lbT_asc (k + 1)).sublist h0) f) fun x hx => ?_
  obtain ⟨k', h1, h2⟩ := mem_lbT.1 (h0.subset (mem_foldA.1 hx))
  have h3 := lbK_snd h2
  simp only at h3
  omega
end

section
variable (ta na la pa sa xa l1 m1 : Option Addr) (tc nc lc pc sc xc lc1 mc1 : Nat) (n N T nb : Nat) (st : Int) (w : World) (tn nn ln : Nat)

set_option maxRecDepth 100000 in
set_option maxHeartbeats 2000000 in
theorem ulb_any (P : World) (B S bx kb : Nat) (ks : List (List It)) (es : List (List (Nat × Nat))) (kv ev : Nat → Value) (tl : List It) (F : Nat → Bool) (lb mb : Nat → Nat) (L : Nat → Int) (R : Nat → List Int) (ra : Nat → Option Addr) (rc : Nat → Nat) (V : Nat → Int) (hK : RlOK N T S tn nn ks es tl)
    (hR : RaAt B P nb nn S (.slice sa N sc) (.slice xa T xc) (.slice l1 N lc1) (.slice m1 N mc1) ks es kv ev tl F lb mb) (hPr : ProdsAt P pa n L R ra rc V) (hn : n ≤ 1000) (hrow : RowsOK n T S tl L R)
    (rb : Nat → Nat) (hL : ∃ ua uc, LbP P w bx kb N n (fun _ => []) rb ua uc) :
    Calls Tryz.prog 62 #[.agg #[.slice ta tn tc, .slice na nn nc, .slice la ln lc, .int .i64 st, .slice pa n pc, .slice (some ⟨nb, 0, none⟩) nn nn, .slice sa N sc, .slice xa T xc, .slice l1 N lc1, .slice m1 N mc1], .func (.func 63) #[] #[.pointer (some ⟨bx, 0, none⟩)]] w fun e y => e = .returned (.tuple #[]) ∧ ∃ ua uc, LbP P y bx kb N n (foldA (lbT es tl n L R T)) rb ua uc := by
  obtain ⟨X0, hX0⟩ : ∃ X, X = w.alloc (.cells #[.slice ta tn tc, .slice na nn nc, .slice la ln lc, .int .i64 st, .slice pa n pc, .slice (some ⟨nb, 0, none⟩) nn nn, .slice sa N sc, .slice xa T xc, .slice l1 N lc1, .slice m1 N mc1] 81) := ⟨_, rfl⟩
  obtain ⟨X1, hX1⟩ : ∃ X, X = X0.alloc (.cells #[.func (.func 63) #[] #[.pointer (some ⟨bx, 0, none⟩)]] 121) := ⟨_, rfl⟩
  have hg0 : w.grownBy X0 none := by rw [hX0]; exact World.grownBy_alloc _ _ none
  have hg1 : X0.grownBy X1 none := by rw [hX1]; exact World.grownBy_alloc _ _ none
  have hb0 : X0.heap[w.heap.size]? = some (.cells #[.slice ta tn tc, .slice na nn nc, .slice la ln lc, .int .i64 st, .slice pa n pc, .slice (some ⟨nb, 0, none⟩) nn nn, .slice sa N sc, .slice xa T xc, .slice l1 N lc1, .slice m1 N mc1] 81 (0, 0)) := by rw [hX0]; exact heap_alloc_last w _
  have hb1 : X1.heap[w.heap.size]? = some (.cells #[.slice ta tn tc, .slice na nn nc, .slice la ln lc, .int .i64 st, .slice pa n pc, .slice (some ⟨nb, 0, none⟩) nn nn, .slice sa N sc, .slice xa T xc, .slice l1 N lc1, .slice m1 N mc1] 81 (0, 0)) := box_kept hb0 hg1
  have hs0 : X0.heap.size = w.heap.size + 1 := by rw [hX0, World.size_alloc]
  have hb2 : X1.heap[w.heap.size + 1]? = some (.cells #[.func (.func 63) #[] #[.pointer (some ⟨bx, 0, none⟩)]] 121 (0, 0)) := by rw [hX1, ← hs0]; exact heap_alloc_last X0 _
  have HWY : Hid (Calls Tryz.prog 59 #[.agg #[.slice ta tn tc, .slice na nn nc, .slice la ln lc, .int .i64 st, .slice pa n pc, .slice (some ⟨nb, 0, none⟩) nn nn, .slice sa N sc, .slice xa T xc, .slice l1 N lc1, .slice m1 N mc1], .func (.func 90) #[] #[.pointer (some ⟨w.heap.size + 1, 0, none⟩)]] X1 fun e y => e = .returned (.tuple #[]) ∧ (y.heap[w.heap.size + 1]? = some (.cells #[.func (.func 63) #[] #[.pointer (some ⟨bx, 0, none⟩)]] 121 (0, 0)) ∧ ∃ ua uc, LbP P y bx kb N n (foldA (lbT es tl n L R T ++ lbK es tl n L R T 0)) rb ua uc)) :=
    ways_lb ta na la pa sa xa l1 m1 tc nc lc pc sc xc lc1 mc1 n N T nb st X1 tn nn ln P B S ks es kv ev tl F lb mb L R ra rc V hK hR hPr hn hrow (w.heap.size + 1)
      (fun X k p => X.heap[w.heap.size + 1]? = some (.cells #[.func (.func 63) #[] #[.pointer (some ⟨bx, 0, none⟩)]] 121 (0, 0)) ∧ ∃ ua uc, LbP P X bx kb N n (foldA (lbT es tl n L R k ++ lbK es tl n L R k p)) rb ua uc)
      (fun X Y k p h hg => ⟨box_kept h.1 hg, by obtain ⟨ua, uc, h1⟩ := h.2; exact ⟨ua, uc, h1.kept hg⟩⟩)
      (fun X k p h => by obtain ⟨ua, uc, h1⟩ := h.2; exact h1.grown)
      (fun Y0 Y k p q tb hk hp hq e h hg htb hv => by
        obtain ⟨h1, ua, uc, h3⟩ := h
        refine (ulbf_any P Y bx kb (w.heap.size + 1) N n tb (R p).length (stF es q (R p)) (foldA (lbT es tl n L R k ++ lbK es tl n L R k p)) rb k p hp ((hrow p hp).1 k hk (by rw [e])) (stF_lt hq (fun r hr x hx => by rw [hK.hN]; exact ((hK.eok.each r (by rw [← hK.hN]; exact hr)).2.2 x hx).2) _) (box_kept h1 hg) (fun f => by have a1 := lbI_len (es := es) (tl := tl) (n := n) (L := L) (R := R) hk (Nat.le_of_lt hp) f; have a2 := hK.t40; omega) (LbT.new h3 hg hv htb)).mono ?_
        rintro e' y ⟨rfl, hk2, ua', uc', h4, _⟩
        refine ⟨rfl, hk2, hk2.at (box_kept h1 hg) (by decide) (by decide), ua', uc', ?_⟩
        rw [lbK, e, if_pos rfl, ← List.append_assoc, foldA_snoc]
        exact h4)
      (fun X k p q s _ _ e hne h => by
        refine ⟨h.1, ?_⟩
        rw [lbK, e, if_neg hne, List.append_nil]
        exact h.2)
      (fun X k h => by
        refine ⟨h.1, ?_⟩
        rw [lbT, lbK, List.append_nil]
        exact h.2)
      ⟨hb2, by obtain ⟨ua, uc, h⟩ := hL; exact ⟨ua, uc, (h.kept hg0).kept hg1⟩⟩
  obtain ⟨a0, a1, a2, a3, a4, a5, a6, a7, a8, a9⟩ := av_cells hb1
  rw [hX1, hX0] at a0 a1 a2 a3 a4 a5 a6 a7 a8 a9
  have HXE : Hid (X1 = (w.alloc (.cells #[.slice ta tn tc, .slice na nn nc, .slice la ln lc, .int .i64 st, .slice pa n pc, .slice (some ⟨nb, 0, none⟩) nn nn, .slice sa N sc, .slice xa T xc, .slice l1 N lc1, .slice m1 N mc1] 81)).alloc (.cells #[.func (.func 63) #[] #[.pointer (some ⟨bx, 0, none⟩)]] 121)) := by show _ = _; rw [hX1, hX0]
  clear hK hR hPr hrow hL hX0 hX1 hg0 hg1 hb0 hb1 hs0 hb2
  go_enter Tryz.func62, Tryz.ntmps62
  go_wp2_with fail
  rw [← HXE.out]
  refine Calls.mono HWY.out ?_
  rintro e y ⟨rfl, _, hl⟩
  have HL := show Hid _ from hl
  clear hl a0 a1 a2 a3 a4 a5 a6 a7 a8 a9
  go_wp2_with fail
  refine bodyPost_end (v := .tuple #[]) (by simp [results, Tryz.results62]) rfl ?_
  refine ⟨rfl, ?_⟩
  have h := HL.out
  rw [lbK, List.append_nil] at h
  exact h
end

end Go.Proofs.YtkbjbijoekmooaaGreat.J

/-
  relate: backs.
-/
namespace Go.Proofs.YtkbjbijoekmooaaGreat.J
open Go.RowKit Go.Maps Go.Shelf

attribute [local go_sem] Oper.semAt_some

theorem infoIntss : (Tryz.prog.info? 30).map (fun i => (i.zero, i.size, i.bytes)) = some (some (.slice none 0 0), 1, 24) := by kernel_rfl
theorem infoBack : (Tryz.prog.info? 40).map (fun i => (i.zero, i.size, i.bytes)) = some (some (.agg #[.int .i64 0, .int .i64 0, .slice none 0 0]), 3, 40) := by kernel_rfl
theorem mk_rows (u : World) {i0 : TypeInfo} (hi0 : Tryz.prog.info? 24 = some i0) (hz0 : i0.zero = some (.slice none 0 0)) (hz1 : i0.size = 1) (hz2 : i0.bytes = 24) {S : Nat} (hS : S ≤ 1000) : (Instr.makeSlice 30 (.int .i64 (S : Int)) (.int .i64 (S : Int))).run Tryz.prog u = .ok (.slice (some ⟨u.heap.size, 0, none⟩) S S) (u.alloc (.cells (madeCells #[.slice none 0 0] S) 24)) := by
  have h := run_make (P := Tryz.prog) u 30 24 i0 (.slice none 0 0) Tryz.underlying30 hi0 hz0 .i64 .i64 (S : Int) (S : Int) (by omega) (Int.le_refl _) (by rw [hz2]; omega) (by omega)
  rw [h]
  simp [hz1, Value.cells]
theorem mk_valR {Y : World} {b S : Nat} (h : Y.heap[b]? = some (.cells (madeCells #[.slice none 0 0] S) 24 (0, 0))) : ValAt Y b S 24 (fun _ => .slice none 0 0) := by
  unfold ValAt
  rw [h]
  congr 2
  apply Array.ext'
  rw [toList_madeCells_one, List.map_const', List.length_range]

/-- The rows of lists, i of them made. -/
structure LmP (P X : World) (bx kb N n i : Nat) (rb : Nat → Nat) : Prop where
  grown : P.grownBy X none
  box : X.heap[bx]? = some (.cells #[.slice (some ⟨kb, 0, none⟩) N N] 119 (0, 0))
  out : ValAt X kb N 30 (fun s => if s < i then .slice (some ⟨rb s, 0, none⟩) n n else .slice none 0 0)
  val : ∀ s, s < i → ValAt X (rb s) n 24 (fun _ => .slice none 0 0)
  inj : ∀ s s', s < i → s' < i → rb s = rb s' → s = s'
  lo : P.heap.size ≤ bx ∧ P.heap.size ≤ kb ∧ ∀ s, s < i → P.heap.size ≤ rb s
section
variable {P X Y : World} {bx kb N n i : Nat} {rb : Nat → Nat}
theorem LmP.kept (h : LmP P X bx kb N n i rb) (hg : X.grownBy Y none) : LmP P Y bx kb N n i rb :=
  ⟨grown_trans h.grown hg, box_kept h.box hg, h.out.kept hg, fun s hs => (h.val s hs).kept hg, h.inj, h.lo⟩
theorem LmP.step (h : LmP P X bx kb N n i rb) (hg : X.grownBy Y none) {g : Nat} (hn : X.heap.size ≤ g) (hv : ValAt Y g n 24 (fun _ => .slice none 0 0)) : LmP P (Y.setCell ⟨kb, i, none⟩ (.slice (some ⟨g, 0, none⟩) n n)) bx kb N n (i + 1) (updL rb i g) := by
  have h1 := h.kept hg
  have hss : Y.grownBy (Y.setCell ⟨kb, i, none⟩ (.slice (some ⟨g, 0, none⟩) n n)) (some kb) := grown_setCell _ _ _
  have hne : ∀ {b : Nat} {cs : Array Value} {t : TypeId}, Y.heap[b]? = some (.cells cs t (0, 0)) → t ≠ 30 → b ≠ kb := fun {b cs t} h2 h3 e => by
    have h4 := h1.out
    unfold ValAt at h4
    rw [e, h4] at h2
    simp only [Option.some.injEq, Obj.cells.injEq] at h2
    exact h3 h2.2.1.symm
  have hgp : P.heap.size ≤ g := Nat.le_trans h.grown.size hn
  refine ⟨grown_new h1.grown hss h1.lo.2.1, (hss.block bx (Array.getElem?_eq_some_iff.1 h1.box).1 (by have := hne h1.box (by decide); simpa using this)).trans h1.box, ?_, fun s hs => ?_, fun s s' hs hs' e => ?_, h1.lo.1, h1.lo.2.1, fun s hs => ?_⟩
  · refine (h1.out.set i _).ext fun s _ => ?_
    unfold put
    by_cases e : s = i
    · subst e
      rw [if_pos rfl, if_pos (Nat.lt_succ_self _), updL_same]
    · rw [if_neg e, updL_other _ _ e]
      show (if s < i then Value.slice (some ⟨rb s, 0, none⟩) n n else Value.slice none 0 0) = _
      by_cases e2 : s < i
      · rw [if_pos e2, if_pos (by omega)]
      · rw [if_neg e2, if_neg (by omega)]
  · by_cases e : s = i
    · subst e
      rw [updL_same]
      exact hv.at hss (hne hv (by decide))
    · rw [updL_other _ _ e]
      exact (h1.val s (by omega)).at hss (hne (h1.val s (by omega)) (by decide))
  · by_cases e1 : s = i
    · by_cases e2 : s' = i
      · rw [e1, e2]
      · rw [e1, updL_same, updL_other _ _ e2] at e
        have := (h.val s' (by omega)).lt
        omega
    · by_cases e2 : s' = i
      · rw [e2, updL_same, updL_other _ _ e1] at e
        have := (h.val s (by omega)).lt
        omega
      · rw [updL_other _ _ e1, updL_other _ _ e2] at e
        exact h.inj s s' (by omega) (by omega) e
  · by_cases e : s = i
    · subst e; rw [updL_same]; exact hgp
    · rw [updL_other _ _ e]; exact h.lo.2.2 s (by omega)
theorem LmP.done (h : LmP P X bx kb N n N rb) : LbP P X bx kb N n (fun _ => []) rb (fun _ => none) (fun _ => 0) :=
  ⟨h.grown, h.box, h.out.ext fun s hs => by rw [if_pos hs], fun s hs => h.val s hs, fun _ _ => World.ownsRow_nil _ _ _ _, fun _ _ _ _ _ => .inl rfl, h.inj, h.lo⟩
end
/-- A row of another type grows. -/
theorem LbP.row {P X Y : World} {bx kb N n : Nat} {Q : Nat → List Int} {rb : Nat → Nat} {ua : Nat → Option Addr} {uc : Nat → Nat} (h : LbP P X bx kb N n Q rb ua uc) {B m : Nat} {v : Value} {xs : List Value} (ho : X.ownsRow B 40 3 v m xs) (hB : P.heap.size ≤ B) (hg : X.grownBy Y v.ownBlock) : LbP P Y bx kb N n Q rb ua uc :=
  ⟨grown_owned h.grown ho hB hg, box_row h.box ho (by decide) hg, box_row h.out ho (by decide) hg, fun s hs => box_row (h.val s hs) ho (by decide) hg, fun k hk => (h.own k hk).kept hg (owns_ne (h.own k hk) ho (by decide)), h.sep, h.inj, h.lo⟩

/-- The completed productions of a state, those below j. -/
def bkJ (Q : Nat → List Int) (n s : Nat) : Nat → List (Nat × Nat)
  | 0 => []
  | j + 1 => bkJ Q n s j ++ (if Q (s * n + j) = [] then [] else [(s, j)])
/-- .. of the states below i. -/
def bkI (Q : Nat → List Int) (n : Nat) : Nat → List (Nat × Nat)
  | 0 => []
  | i + 1 => bkI Q n i ++ bkJ Q n i n
/-- Their cells. -/
def bkV (n : Nat) (Q : Nat → List Int) (ua : Nat → Option Addr) (uc : Nat → Nat) (l : List (Nat × Nat)) : List Value := l.flatMap fun x => [.int .i64 (x.1 : Int), .int .i64 (x.2 : Int), .slice (ua (x.1 * n + x.2)) (Q (x.1 * n + x.2)).length (uc (x.1 * n + x.2))]
theorem bkV_snoc (n : Nat) (Q : Nat → List Int) (ua : Nat → Option Addr) (uc : Nat → Nat) (l : List (Nat × Nat)) (s j : Nat) : bkV n Q ua uc (l ++ [(s, j)]) = bkV n Q ua uc l ++ [.int .i64 (s : Int), .int .i64 (j : Int), .slice (ua (s * n + j)) (Q (s * n + j)).length (uc (s * n + j))] := by
  unfold bkV
  rw [List.flatMap_append]
  rfl
theorem bkJ_len (Q : Nat → List Int) (n s : Nat) : ∀ j, (bkJ Q n s j).length ≤ j
  | 0 => Nat.le_refl _
  | j + 1 => by
    have := bkJ_len Q n s j
    rw [bkJ, List.length_append]
    split
    · simp; omega
    · simp; omega
theorem bkI_len (Q : Nat → List Int) (n : Nat) : ∀ i, (bkI Q n i).length ≤ i * n
  | 0 => Nat.zero_le _
  | i + 1 => by
    have h1 := bkI_len Q n i
    have h2 := bkJ_len Q n i n
    rw [bkI, List.length_append, Nat.succ_mul]
    omega
/-- What backs tells. -/
def BacksTold (N n : Nat) (Q : Nat → List Int) (w : World) (e : Ending) (y : World) : Prop := ∃ a c bx kb rb ua uc, e = .returned (.slice a (bkI Q n N).length c) ∧ LbP w y bx kb N n Q rb ua uc ∧ y.ownsRow w.heap.size 40 3 (.slice a (bkI Q n N).length c) (bkI Q n N).length (bkV n Q ua uc (bkI Q n N))

section
variable (ta na la pa sa xa l1 m1 : Option Addr) (tc nc lc pc sc xc lc1 mc1 : Nat) (n N T nb : Nat) (st : Int) (w : World) (tn nn ln : Nat)

set_option maxRecDepth 100000 in
set_option maxHeartbeats 4000000 in
theorem ubacks_any (Q : Nat → List Int) (hN : N ≤ 256) (hn : n ≤ 1000)
    (hLB : ∀ X bx kb rb, LbP w X bx kb N n (fun _ => []) rb (fun _ => none) (fun _ => 0) → Calls Tryz.prog 62 #[.agg #[.slice ta tn tc, .slice na nn nc, .slice la ln lc, .int .i64 st, .slice pa n pc, .slice (some ⟨nb, 0, none⟩) nn nn, .slice sa N sc, .slice xa T xc, .slice l1 N lc1, .slice m1 N mc1], .func (.func 63) #[] #[.pointer (some ⟨bx, 0, none⟩)]] X fun e y => e = .returned (.tuple #[]) ∧ ∃ ua uc, LbP w y bx kb N n Q rb ua uc) :
    Calls Tryz.prog 34 #[.agg #[.slice ta tn tc, .slice na nn nc, .slice la ln lc, .int .i64 st, .slice pa n pc, .slice (some ⟨nb, 0, none⟩) nn nn, .slice sa N sc, .slice xa T xc, .slice l1 N lc1, .slice m1 N mc1]] w fun e y => BacksTold N n Q w e y := by
  have HLB := show Hid _ from hLB
  have HX0 : Hid ((w.alloc (.cells #[.slice ta tn tc, .slice na nn nc, .slice la ln lc, .int .i64 st, .slice pa n pc, .slice (some ⟨nb, 0, none⟩) nn nn, .slice sa N sc, .slice xa T xc, .slice l1 N lc1, .slice m1 N mc1] 81)).heap[w.heap.size]? = some (.cells #[.slice ta tn tc, .slice na nn nc, .slice la ln lc, .int .i64 st, .slice pa n pc, .slice (some ⟨nb, 0, none⟩) nn nn, .slice sa N sc, .slice xa T xc, .slice l1 N lc1, .slice m1 N mc1] 81 (0, 0))) := heap_alloc_last w _
  have c6 : (w.alloc (.cells #[.slice ta tn tc, .slice na nn nc, .slice la ln lc, .int .i64 st, .slice pa n pc, .slice (some ⟨nb, 0, none⟩) nn nn, .slice sa N sc, .slice xa T xc, .slice l1 N lc1, .slice m1 N mc1] 81)).cell? ⟨w.heap.size, 6, none⟩ = some (.slice sa N sc) := by rw [cell_of_row _ _ _ _ _ _ HX0.out]; rfl
  obtain ⟨i1, hq1, hu0, hu1, hu2⟩ := info_parts infoIntss
  obtain ⟨i2, hp1, hv0, hv1, hv2⟩ := info_parts infoInts
  obtain ⟨i3, hr1, hw0, hw1, hw2⟩ := info_parts infoBack
  clear hLB
  go_enter Tryz.func34, Tryz.ntmps34
  go_wp2_with (at_make; refine wpList_make_full _ rfl _ _ 119 rfl w.heap.size 30 i1 (.slice none 0 0) 1 Tryz.underlying119 hq1 hu0 hu1 .i64 .i64 _ _ N rfl rfl (by omega) (by omega) (by rw [hu2]; omega) (by unfold maxLen; omega) (by simp) ?_)
  intro W1 hown hgrow
  have hval : ValAt W1 (w.heap.size + 1) N 30 (fun _ => .slice none 0 0) := made_rowK (B := w.heap.size) rfl (by simpa [Value.cells] using hown)
  have hg1 : w.grownBy W1 none := grown_trans (World.grownBy_alloc _ _ none) hgrow
  have hgb : W1.grownBy (W1.alloc (.cells #[.slice (some ⟨w.heap.size + 1, 0, none⟩) N N] 119)) none := World.grownBy_alloc _ _ none
  have HB1 : Hid ((W1.alloc (.cells #[.slice (some ⟨w.heap.size + 1, 0, none⟩) N N] 119)).heap[w.heap.size]? = some (.cells #[.slice ta tn tc, .slice na nn nc, .slice la ln lc, .int .i64 st, .slice pa n pc, .slice (some ⟨nb, 0, none⟩) nn nn, .slice sa N sc, .slice xa T xc, .slice l1 N lc1, .slice m1 N mc1] 81 (0, 0))) := box_kept (box_kept HX0.out hgrow) hgb
  have HLM : Hid (LmP w (W1.alloc (.cells #[.slice (some ⟨w.heap.size + 1, 0, none⟩) N N] 119)) W1.heap.size (w.heap.size + 1) N n 0 (fun _ => 0)) :=
    ⟨grown_trans hg1 hgb, heap_alloc_last W1 _, (hval.kept hgb).ext fun s _ => by rw [if_neg (Nat.not_lt_zero _)], fun s hs => absurd hs (Nat.not_lt_zero _), fun s _ hs => absurd hs (Nat.not_lt_zero _), hg1.size, by omega, fun s hs => absurd hs (Nat.not_lt_zero _)⟩
  clear hown hgrow hval HX0 c6 hg1 hgb
  go_wp2_with fail
  generalize W1.alloc (.cells #[.slice (some ⟨w.heap.size + 1, 0, none⟩) N N] 119) = W2 at HB1 HLM ⊢
  obtain ⟨bx, hbx⟩ : ∃ b, b = W1.heap.size := ⟨_, rfl⟩
  rw [← hbx] at HLM ⊢
  obtain ⟨kb, hkb⟩ : ∃ b, b = w.heap.size + 1 := ⟨_, rfl⟩
  rw [← hkb] at HLM ⊢
  obtain ⟨ab, hab⟩ : ∃ b, b = w.heap.size := ⟨_, rfl⟩
  rw [← hab] at HB1 ⊢
  clear hbx hkb hab
  go_loopg [16] N (fun gk v16 wr => ∃ (i : Nat) (rb : Nat → Nat), i ≤ N ∧ gk = N - i ∧ v16 = .int .i64 i ∧ wr.heap[ab]? = some (.cells #[.slice ta tn tc, .slice na nn nc, .slice la ln lc, .int .i64 st, .slice pa n pc, .slice (some ⟨nb, 0, none⟩) nn nn, .slice sa N sc, .slice xa T xc, .slice l1 N lc1, .slice m1 N mc1] 81 (0, 0)) ∧ LmP w wr bx kb N n i rb)
  case atStart => exact ⟨0, _, Nat.zero_le _, rfl, rfl, HB1.out, HLM.out⟩
  case round =>
    obtain ⟨i, rb, hi, hgi, rfl, hb, hl⟩ := hrel
    have HGI : Hid (gk = N - i) := hgi
    have HB : Hid (wr.heap[ab]? = some (.cells #[.slice ta tn tc, .slice na nn nc, .slice la ln lc, .int .i64 st, .slice pa n pc, .slice (some ⟨nb, 0, none⟩) nn nn, .slice sa N sc, .slice xa T xc, .slice l1 N lc1, .slice m1 N mc1] 81 (0, 0))) := hb
    have HL : Hid (LmP w wr bx kb N n i rb) := hl
    clear hgi hb hl HB1 HLM
    generalize wr = Y at *
    by_cases hlt : i < N
    · have hid : decide (i < N) = true := decide_eq_true hlt
      have hi0 : (0 : Int) ≤ (i : Int) := by omega
      have hi1 : (i : Int) < (N : Int) := by omega
      have b0 : Y.cell? ⟨bx, 0, none⟩ = some (.slice (some ⟨kb, 0, none⟩) N N) := by rw [cell_of_row _ _ _ _ _ _ HL.out.box]; rfl
      have b1 : Y.cell? ⟨ab, 4, none⟩ = some (.slice pa n pc) := (av_cells HB.out).2.2.2.2.1
      have b2 := HL.out.out.cell i hlt
      rw [if_neg (Nat.lt_irrefl _)] at b2
      have b3 := HL.out.out.free i
      have m0 : ∀ o, (Y.alloc o).cell? ⟨bx, 0, none⟩ = some (.slice (some ⟨kb, 0, none⟩) N N) := fun o => (World.grownBy_alloc _ o none).cell b0 (by simp)
      have m1' : ∀ o, (Y.alloc o).cell? ⟨ab, 4, none⟩ = some (.slice pa n pc) := fun o => (World.grownBy_alloc _ o none).cell b1 (by simp)
      have m2 : ∀ o, (Y.alloc o).cell? ⟨kb, i, none⟩ = some (.slice none 0 0) := fun o => (World.grownBy_alloc _ o none).cell b2 (by simp)
      have m3 : ∀ o, (Y.alloc o).frozen? ⟨kb, i, none⟩ = false := fun o => (HL.out.kept (World.grownBy_alloc _ o none)).out.free i
      have hmk : ∀ u : World, (Instr.makeSlice 30 (.int .i64 (n : Int)) (.int .i64 (n : Int))).run Tryz.prog u = .ok (.slice (some ⟨u.heap.size, 0, none⟩) n n) (u.alloc (.cells (madeCells #[.slice none 0 0] n) 24)) := fun u => mk_rows u hp1 hv0 hv1 hv2 hn
      have HST : Hid (LmP w ((Y.alloc (.cells (madeCells #[.slice none 0 0] n) 24)).setCell ⟨kb, i, none⟩ (.slice (some ⟨Y.heap.size, 0, none⟩) n n)) bx kb N n (i + 1) (updL rb i Y.heap.size)) := HL.out.step (World.grownBy_alloc _ _ none) (Nat.le_refl _) (mk_valR (heap_alloc_last Y _))
      have HBS : Hid (((Y.alloc (.cells (madeCells #[.slice none 0 0] n) 24)).setCell ⟨kb, i, none⟩ (.slice (some ⟨Y.heap.size, 0, none⟩) n n)).heap[ab]? = some (.cells #[.slice ta tn tc, .slice na nn nc, .slice la ln lc, .int .i64 st, .slice pa n pc, .slice (some ⟨nb, 0, none⟩) nn nn, .slice sa N sc, .slice xa T xc, .slice l1 N lc1, .slice m1 N mc1] 81 (0, 0))) := by
        have h1 := box_kept HB.out (World.grownBy_alloc Y (.cells (madeCells #[.slice none 0 0] n) 24) none)
        refine ((grown_setCell kb i _).block ab (Array.getElem?_eq_some_iff.1 h1).1 ?_).trans h1
        intro e
        have e2 : ab = kb := by simpa using e
        have h2 := (HL.out.kept (World.grownBy_alloc Y (.cells (madeCells #[.slice none 0 0] n) 24) none)).out
        unfold ValAt at h2
        rw [e2, h2] at h1
        simp only [Option.some.injEq, Obj.cells.injEq] at h1
        exact absurd h1.2.1 (by decide)
      have hiw : IntKind.i64.wrap ((i : Int) + 1) = (i : Int) + 1 := by rw [IntKind.wrap_i64]; omega
      clear HB HL
      go_wp2_with fail
      go_region_law (fail)
      all_goals go_wp2_with fail
      all_goals go_roundg (N - (i + 1))
      all_goals first
        | exact (show ∃ (i' : Nat) (rb' : Nat → Nat), _ from ⟨i + 1, updL rb i Y.heap.size, by omega, rfl, by go_num, box_kept HBS.out (grown_drewN _ _), HST.out.kept (grown_drewN _ _)⟩)
        | (have := HGI.out; omega)
    · have hiN : N = i := by omega
      subst hiN
      have hid : decide (N < N) = false := decide_eq_false (by omega)
      have HLQ : Hid (LbP w Y bx kb N n (fun _ => []) rb (fun _ => none) (fun _ => 0)) := HL.out.done
      obtain ⟨a0, a1, a2, a3, a4, a5, a6, a7, a8, a9⟩ := av_cells HB.out
      clear HB HL
      go_wp2_with fail
      refine Calls.mono (HLB.out _ _ _ _ HLQ.out) ?_
      rintro e w3 ⟨rfl, ua, uc, hl3⟩
      have HL3 : Hid (LbP w w3 bx kb N n Q rb ua uc) := hl3
      have b0 : w3.cell? ⟨bx, 0, none⟩ = some (.slice (some ⟨kb, 0, none⟩) N N) := by rw [cell_of_row _ _ _ _ _ _ hl3.box]; rfl
      clear hl3 HLQ a0 a1 a2 a3 a4 a5 a6 a7 a8 a9 HLB
      go_wp2_with fail
      clear b0
      have hNn : N * n ≤ 256000 := Nat.mul_le_mul hN hn
      go_loopg [5, 33] N (fun gk v5 v33 wr => ∃ (i M : Nat) (a : Option Addr) (c : Nat), i ≤ N ∧ gk = N - i ∧ v33 = .int .i64 i ∧ v5 = .slice a M c ∧ M = (bkI Q n i).length ∧ LbP w wr bx kb N n Q rb ua uc ∧ wr.ownsRow w.heap.size 40 3 (.slice a M c) M (bkV n Q ua uc (bkI Q n i)))
      case atStart => exact ⟨0, 0, none, 0, Nat.zero_le _, rfl, rfl, rfl, rfl, HL3.out, World.ownsRow_nil _ _ _ _⟩
      case round =>
        obtain ⟨i, M, a, c, hi, hgi, rfl, rfl, hM, hl, ho⟩ := hrel
        have HGI : Hid (gk = N - i) := hgi
        have HM := show Hid _ from hM
        have HL : Hid (LbP w wr bx kb N n Q rb ua uc) := hl
        have HO : Hid (wr.ownsRow w.heap.size 40 3 (.slice a M c) M (bkV n Q ua uc (bkI Q n i))) := ho
        clear hgi hM hl ho HL3
        generalize wr = Y at *
        by_cases hlt : i < N
        · have hid : decide (i < N) = true := decide_eq_true hlt
          have hi0 : (0 : Int) ≤ (i : Int) := by omega
          have hi1 : (i : Int) < (N : Int) := by omega
          have d0 := HL.out.out.cell i hlt
          go_wp2_with fail
          clear d0
          go_loopg [5, 40] n (fun gk v5 v40 wr => ∃ (j M : Nat) (a : Option Addr) (c : Nat), j ≤ n ∧ gk = n - j ∧ v40 = .int .i64 j ∧ v5 = .slice a M c ∧ M = (bkI Q n i ++ bkJ Q n i j).length ∧ LbP w wr bx kb N n Q rb ua uc ∧ wr.ownsRow w.heap.size 40 3 (.slice a M c) M (bkV n Q ua uc (bkI Q n i ++ bkJ Q n i j)))
          case atStart => exact ⟨0, M, a, c, Nat.zero_le _, rfl, rfl, rfl, by rw [bkJ, List.append_nil]; exact HM.out, HL.out, by rw [bkJ, List.append_nil]; exact HO.out⟩
          case round =>
            obtain ⟨j, M2, a2, c2, hj, hgj, rfl, rfl, hM2, hl2, ho2⟩ := hrel
            have HGJ : Hid (gk = n - j) := hgj
            have HM2 := show Hid _ from hM2
            have HL2 : Hid (LbP w wr bx kb N n Q rb ua uc) := hl2
            have HO2 : Hid (wr.ownsRow w.heap.size 40 3 (.slice a2 M2 c2) M2 (bkV n Q ua uc (bkI Q n i ++ bkJ Q n i j))) := ho2
            have hMB : M2 ≤ 300000 := by
              have h1 := bkI_len Q n i
              have h2 := bkJ_len Q n i j
              have h3 : i * n ≤ N * n := Nat.mul_le_mul_right n hi
              rw [hM2, List.length_append]
              omega
            clear hgj hM2 hl2 ho2 HL HO
            generalize wr = X at *
            by_cases hltj : j < n
            · have hjd : decide (j < n) = true := decide_eq_true hltj
              have hj0 : (0 : Int) ≤ (j : Int) := by omega
              have hj1 : (j : Int) < (n : Int) := by omega
              have d1 := (HL2.out.val i hlt).cell j hltj
              obtain ⟨f, hf⟩ : ∃ f, f = i * n + j := ⟨_, rfl⟩
              rw [← hf] at d1
              obtain ⟨fa, hfa⟩ : ∃ x, x = ua f := ⟨_, rfl⟩
              obtain ⟨fc, hfc⟩ : ∃ x, x = uc f := ⟨_, rfl⟩
              obtain ⟨qn, hqn⟩ : ∃ x, x = (Q f).length := ⟨_, rfl⟩
              rw [← hfa, ← hfc, ← hqn] at d1
              have hjw : IntKind.i64.wrap ((j : Int) + 1) = (j : Int) + 1 := by rw [IntKind.wrap_i64]; omega
              by_cases hq0 : qn = 0
              · have hQE : Q f = [] := List.length_eq_zero_iff.1 (by rw [← hqn]; exact hq0)
                have HJ : Hid (bkJ Q n i (j + 1) = bkJ Q n i j) := by
                  show _ = _
                  rw [bkJ, ← hf, if_pos hQE, List.append_nil]
                have hqd : decide (0 < qn) = false := decide_eq_false (by omega)
                clear hf hfa hfc hqn hq0 hQE
                go_wp2_with fail
                go_roundg (n - (j + 1))
                all_goals first
                  | exact (show ∃ (j' M' : Nat) (a' : Option Addr) (c' : Nat), _ from ⟨j + 1, M2, a2, c2, by omega, rfl, by go_num, rfl, by rw [HJ.out]; exact HM2.out, HL2.out, by rw [HJ.out]; exact HO2.out⟩)
                  | (have := HGJ.out; omega)
              · have hQE : Q f ≠ [] := fun h => hq0 (by rw [hqn, h]; rfl)
                have HJ : Hid (bkJ Q n i (j + 1) = bkJ Q n i j ++ [(i, j)]) := by
                  show _ = _
                  rw [bkJ, ← hf, if_neg hQE]
                have HV : Hid (bkV n Q ua uc (bkI Q n i ++ bkJ Q n i (j + 1)) = bkV n Q ua uc (bkI Q n i ++ bkJ Q n i j) ++ [.int .i64 (i : Int), .int .i64 (j : Int), .slice fa qn fc]) := by
                  show _ = _
                  rw [HJ.out, ← List.append_assoc, bkV_snoc, ← hf, ← hfa, ← hfc, ← hqn]
                have hqd : decide (0 < qn) = true := decide_eq_true (by omega)
                have HOA : Hid (∀ o, (X.alloc o).ownsRow w.heap.size 40 3 (.slice a2 M2 c2) M2 (bkV n Q ua uc (bkI Q n i ++ bkJ Q n i j))) := fun o => HO2.out.alloc _
                have HLA : Hid (∀ o, LbP w (X.alloc o) bx kb N n Q rb ua uc) := fun o => HL2.out.kept (World.grownBy_alloc _ _ none)
                have hsz := HL2.out.grown.size
                clear hf hfa hfc hqn hq0 hQE
                obtain ⟨xs, hxs⟩ : ∃ xs, xs = bkV n Q ua uc (bkI Q n i ++ bkJ Q n i j) := ⟨_, rfl⟩
                have HXS := show Hid _ from hxs
                rw [← hxs] at HOA HV
                clear hxs
                go_wp2_with (at_builtin; refine wpList_append_lies _ rfl (.tmp 48) (.tmp 53) 34 rfl w.heap.size 40 i3 (.agg #[.int .i64 0, .int .i64 0, .slice none 0 0]) 3 40 Tryz.underlying34 hr1 hw0 hw1 hw2 rfl (by decide) (.slice a2 M2 c2) M2 xs rfl (HOA.out _) ⟨X.heap.size, 0, none⟩ 1 1 [.int .i64 (i : Int), .int .i64 (j : Int), .slice fa qn fc] rfl rfl (World.news_of_block (heap_alloc_last X _)) (by simp [Value.oneCell']) (by decide) (by unfold maxLen; omega) (by omega) (by simp; omega) _ rfl ?_)
                intro g7 c7 V hoV hgV _ _
                have HOV : Hid (V.ownsRow w.heap.size 40 3 (.slice (some ⟨g7, 0, none⟩) (M2 + 1) c7) (M2 + 1) (bkV n Q ua uc (bkI Q n i ++ bkJ Q n i (j + 1)))) := by
                  rw [HV.out]; exact hoV
                have HLV : Hid (LbP w V bx kb N n Q rb ua uc) := (HLA.out _).row (HOA.out _) (Nat.le_refl _) hgV
                have HMV : Hid (M2 + 1 = (bkI Q n i ++ bkJ Q n i (j + 1)).length) := by
                  show _ = _
                  rw [HJ.out, ← List.append_assoc, List.length_append, ← HM2.out]; rfl
                clear hoV hgV d1
                go_wp2_with fail
                go_roundg (n - (j + 1))
                all_goals first
                  | exact (show ∃ (j' M' : Nat) (a' : Option Addr) (c' : Nat), _ from ⟨j + 1, M2 + 1, some ⟨g7, 0, none⟩, c7, by omega, rfl, by go_num, rfl, HMV.out, HLV.out, HOV.out⟩)
                  | (have := HGJ.out; omega)
            · have hjn : n = j := by omega
              have hjd : decide (j < n) = false := decide_eq_false hltj
              have hiw : IntKind.i64.wrap ((i : Int) + 1) = (i : Int) + 1 := by rw [IntKind.wrap_i64]; omega
              have HJ : Hid (bkI Q n (i + 1) = bkI Q n i ++ bkJ Q n i j) := by
                show _ = _
                rw [bkI, ← hjn]
              clear hjn
              go_wp2_with fail
              go_roundg (N - (i + 1))
              all_goals first
                | exact (show ∃ (i' M' : Nat) (a' : Option Addr) (c' : Nat), _ from ⟨i + 1, M2, a2, c2, by omega, rfl, by go_num, rfl, by rw [HJ.out]; exact HM2.out, HL2.out, by rw [HJ.out]; exact HO2.out⟩)
                | (have := HGI.out; omega)
        · have hiN : N = i := by omega
          subst hiN
          have hid : decide (N < N) = false := decide_eq_false (by omega)
          go_wp2_with fail
          go_ret
          exact ⟨a, c, bx, kb, rb, ua, uc, by rw [← HM.out]; rfl, HL.out, by rw [← HM.out]; exact HO.out⟩
end

end Go.Proofs.YtkbjbijoekmooaaGreat.J

/-
  relate: Reads, Includes, Lookback, whatever automatonOf tells.
-/
namespace Go.Proofs.YtkbjbijoekmooaaGreat.J
open Go.RowKit Go.Maps Go.Shelf

attribute [local go_sem] Oper.semAt_some

/-- What Reads and Includes tell. -/
def RelTold (T : Nat) (Q : Nat → List Int) (w : World) (e : Ending) (y : World) : Prop := ∃ P kb bx ua uc, w.grownBy P none ∧ e = .returned (.tuple #[.slice (some ⟨kb, 0, none⟩) T T, .int .i64 0]) ∧ LqP P y bx kb T Q ua uc
/-- What Lookback tells. -/
def BkTold (N n : Nat) (Q : Nat → List Int) (w : World) (e : Ending) (y : World) : Prop := ∃ P a c bx kb rb ua uc, w.grownBy P none ∧ e = .returned (.tuple #[.slice a (bkI Q n N).length c, .int .i64 0]) ∧ LbP P y bx kb N n Q rb ua uc ∧ y.ownsRow P.heap.size 40 3 (.slice a (bkI Q n N).length c) (bkI Q n N).length (bkV n Q ua uc (bkI Q n N))

section
variable (ta na la pa : Option Addr) (tc nc lc pc : Nat) (n : Nat) (st : Int) (w : World) (tn nn ln : Nat)

set_option maxRecDepth 100000 in
set_option maxHeartbeats 1000000 in
theorem ureads_bad (err : Int) (herr : err = 1 ∨ err = 11) (hOf : ∀ X, w.grownBy X none → Calls Tryz.prog 30 #[.agg #[.slice ta tn tc, .slice na nn nc, .slice la ln lc, .int .i64 st, .slice pa n pc]] X fun e y => e = .returned (.tuple #[.agg #[.slice none 0 0, .slice none 0 0, .slice none 0 0, .int .i64 0, .slice none 0 0, .slice none 0 0, .slice none 0 0, .slice none 0 0, .slice none 0 0, .slice none 0 0], .int .i64 err]) ∧ X.grownBy y none) : Calls Tryz.prog 12 #[.agg #[.slice ta tn tc, .slice na nn nc, .slice la ln lc, .int .i64 st, .slice pa n pc]] w fun e y => e = .returned (.tuple #[.slice none 0 0, .int .i64 err]) ∧ w.grownBy y none := by
  have HOF := show Hid _ from hOf
  have HG0 : Hid (w.grownBy (w.alloc (.cells #[.slice ta tn tc, .slice na nn nc, .slice la ln lc, .int .i64 st, .slice pa n pc] 27)) none) := World.grownBy_alloc _ _ none
  have hex : (err != 0) = true := by rcases herr with h | h <;> rw [h] <;> decide
  clear hOf herr
  go_enter Tryz.func12, Tryz.ntmps12
  go_wp2_with fail
  refine Calls.mono (HOF.out _ HG0.out) ?_
  rintro e w1 ⟨rfl, hg1⟩
  have HG1 : Hid (∀ o, w.grownBy (w1.alloc o) none) := fun o => grown_trans HG0.out (grown_trans hg1 (World.grownBy_alloc _ _ none))
  clear hg1
  go_wp2_with fail
  go_ret2
  exact ⟨rfl, HG1.out _⟩

set_option maxRecDepth 100000 in
set_option maxHeartbeats 1000000 in
theorem ureads_ok (ks : List (List It)) (es : List (List (Nat × Nat))) (tl : List It) (F : Nat → Bool) (hK : RlOK ks.length tl.length (tn + nn) tn nn ks es tl)
    (hOf : ∀ X, w.grownBy X none → Calls Tryz.prog 30 #[.agg #[.slice ta tn tc, .slice na nn nc, .slice la ln lc, .int .i64 st, .slice pa n pc]] X fun e y => UofTold ta na la pa tc nc lc pc n st tn nn ln ks es tl F X e y) : Calls Tryz.prog 12 #[.agg #[.slice ta tn tc, .slice na nn nc, .slice la ln lc, .int .i64 st, .slice pa n pc]] w fun e y => RelTold tl.length (foldQ (fun _ => []) (rdT es tl tn F tl.length)) w e y := by
  have HOF := show Hid _ from hOf
  have HG0 : Hid (w.grownBy (w.alloc (.cells #[.slice ta tn tc, .slice na nn nc, .slice la ln lc, .int .i64 st, .slice pa n pc] 27)) none) := World.grownBy_alloc _ _ none
  have HK := show Hid _ from hK
  clear hOf hK
  go_enter Tryz.func12, Tryz.ntmps12
  go_wp2_with fail
  refine Calls.mono (HOF.out _ HG0.out) ?_
  rintro e w1 ⟨nb, sa, xa, l1, m1, sc, xc, lc1, mc1, kv, ev, lb, mb, rfl, hR, hg1⟩
  obtain ⟨N, hN⟩ : ∃ N, N = ks.length := ⟨_, rfl⟩
  obtain ⟨T, hT⟩ : ∃ T, T = tl.length := ⟨_, rfl⟩
  rw [← hN, ← hT] at hR HK ⊢
  have HN := show Hid _ from hN
  have HT := show Hid _ from hT
  clear hN hT
  obtain ⟨W, hW⟩ : ∃ W, W = w1.alloc (.cells #[.slice ta tn tc, .slice na nn nc, .slice la ln lc, .int .i64 st, .slice pa n pc, .slice (some ⟨nb, 0, none⟩) nn nn, .slice sa N sc, .slice xa T xc, .slice l1 N lc1, .slice m1 N mc1] 81) := ⟨_, rfl⟩
  have hgW : w1.grownBy W none := by rw [hW]; exact World.grownBy_alloc _ _ none
  have hbW : W.heap[w1.heap.size]? = some (.cells #[.slice ta tn tc, .slice na nn nc, .slice la ln lc, .int .i64 st, .slice pa n pc, .slice (some ⟨nb, 0, none⟩) nn nn, .slice sa N sc, .slice xa T xc, .slice l1 N lc1, .slice m1 N mc1] 81 (0, 0)) := by rw [hW]; exact heap_alloc_last w1 _
  have HGW : Hid (w.grownBy W none) := grown_trans HG0.out (grown_trans hg1 hgW)
  have HRW : Hid (RaAt (w.alloc (.cells #[.slice ta tn tc, .slice na nn nc, .slice la ln lc, .int .i64 st, .slice pa n pc] 27)).heap.size W nb nn (tn + nn) (.slice sa N sc) (.slice xa T xc) (.slice l1 N lc1) (.slice m1 N mc1) ks es kv ev tl F lb mb) := hR.kept hgW
  have HCL : Hid (Calls Tryz.prog 31 #[.agg #[.slice ta tn tc, .slice na nn nc, .slice la ln lc, .int .i64 st, .slice pa n pc, .slice (some ⟨nb, 0, none⟩) nn nn, .slice sa N sc, .slice xa T xc, .slice l1 N lc1, .slice m1 N mc1], .func (.func 32) #[.agg #[.slice ta tn tc, .slice na nn nc, .slice la ln lc, .int .i64 st, .slice pa n pc, .slice (some ⟨nb, 0, none⟩) nn nn, .slice sa N sc, .slice xa T xc, .slice l1 N lc1, .slice m1 N mc1]] #[]] W fun e y => ListsTold T (foldQ (fun _ => []) (rdT es tl tn F T)) W e y) :=
    ulists_rd ta na la pa sa xa l1 m1 tc nc lc pc sc xc lc1 mc1 n N T nb st W tn nn ln _ HK.out.t40 fun X bx kb hl => uread_any ta na la pa sa xa l1 m1 tc nc lc pc sc xc lc1 mc1 n N T nb st X tn nn ln W _ (tn + nn) bx kb ks es kv ev tl F lb mb HK.out HRW.out (fun _ => []) (fun _ => Nat.zero_le _) ⟨_, _, hl⟩
  obtain ⟨a0, a1, a2, a3, a4, a5, a6, a7, a8, a9⟩ := av_cells hbW
  rw [hW] at a0 a1 a2 a3 a4 a5 a6 a7 a8 a9
  have HWE := show Hid _ from hW
  clear hR hgW hbW hg1 hW HOF HG0
  go_wp2_with fail
  rw [← HWE.out]
  refine Calls.mono HCL.out ?_
  rintro e y ⟨kb, bx, ua, uc, rfl, hL⟩
  have HL := show Hid _ from hL
  clear hL HCL HRW  a0 a1 a2 a3 a4 a5 a6 a7 a8 a9
  go_wp2_with fail
  go_ret2
  have e1 := HT.out
  subst e1
  exact ⟨W, kb, bx, ua, uc, HGW.out, rfl, HL.out⟩

set_option maxRecDepth 100000 in
set_option maxHeartbeats 1000000 in
theorem uincludes_bad (err : Int) (herr : err = 1 ∨ err = 11) (hOf : ∀ X, w.grownBy X none → Calls Tryz.prog 30 #[.agg #[.slice ta tn tc, .slice na nn nc, .slice la ln lc, .int .i64 st, .slice pa n pc]] X fun e y => e = .returned (.tuple #[.agg #[.slice none 0 0, .slice none 0 0, .slice none 0 0, .int .i64 0, .slice none 0 0, .slice none 0 0, .slice none 0 0, .slice none 0 0, .slice none 0 0, .slice none 0 0], .int .i64 err]) ∧ X.grownBy y none) : Calls Tryz.prog 13 #[.agg #[.slice ta tn tc, .slice na nn nc, .slice la ln lc, .int .i64 st, .slice pa n pc]] w fun e y => e = .returned (.tuple #[.slice none 0 0, .int .i64 err]) ∧ w.grownBy y none := by
  have HOF := show Hid _ from hOf
  have HG0 : Hid (w.grownBy (w.alloc (.cells #[.slice ta tn tc, .slice na nn nc, .slice la ln lc, .int .i64 st, .slice pa n pc] 27)) none) := World.grownBy_alloc _ _ none
  have hex : (err != 0) = true := by rcases herr with h | h <;> rw [h] <;> decide
  clear hOf herr
  go_enter Tryz.func13, Tryz.ntmps13
  go_wp2_with fail
  refine Calls.mono (HOF.out _ HG0.out) ?_
  rintro e w1 ⟨rfl, hg1⟩
  have HG1 : Hid (∀ o, w.grownBy (w1.alloc o) none) := fun o => grown_trans HG0.out (grown_trans hg1 (World.grownBy_alloc _ _ none))
  clear hg1
  go_wp2_with fail
  go_ret2
  exact ⟨rfl, HG1.out _⟩

set_option maxRecDepth 100000 in
set_option maxHeartbeats 1000000 in
theorem uincludes_ok (ks : List (List It)) (es : List (List (Nat × Nat))) (tl : List It) (F : Nat → Bool) (L : Nat → Int) (R : Nat → List Int) (ra : Nat → Option Addr) (rc : Nat → Nat) (V : Nat → Int) (hK : RlOK ks.length tl.length (tn + nn) tn nn ks es tl) (hPr : ProdsAt w pa n L R ra rc V) (hn : n ≤ 1000) (hrow : RowsOK n tl.length (tn + nn) tl L R)
    (hOf : ∀ X, w.grownBy X none → Calls Tryz.prog 30 #[.agg #[.slice ta tn tc, .slice na nn nc, .slice la ln lc, .int .i64 st, .slice pa n pc]] X fun e y => UofTold ta na la pa tc nc lc pc n st tn nn ln ks es tl F X e y) : Calls Tryz.prog 13 #[.agg #[.slice ta tn tc, .slice na nn nc, .slice la ln lc, .int .i64 st, .slice pa n pc]] w fun e y => RelTold tl.length (foldQ (fun _ => []) (inT es tl tn F n L R tl.length)) w e y := by
  have HOF := show Hid _ from hOf
  have HG0 : Hid (w.grownBy (w.alloc (.cells #[.slice ta tn tc, .slice na nn nc, .slice la ln lc, .int .i64 st, .slice pa n pc] 27)) none) := World.grownBy_alloc _ _ none
  have HPR : Hid (∀ X, w.grownBy X none → ProdsAt X pa n L R ra rc V) := fun X hX => hPr.kept hX
  have HK := show Hid _ from hK
  have HROW := show Hid _ from hrow
  clear hOf hPr hK hrow
  go_enter Tryz.func13, Tryz.ntmps13
  go_wp2_with fail
  refine Calls.mono (HOF.out _ HG0.out) ?_
  rintro e w1 ⟨nb, sa, xa, l1, m1, sc, xc, lc1, mc1, kv, ev, lb, mb, rfl, hR, hg1⟩
  obtain ⟨N, hN⟩ : ∃ N, N = ks.length := ⟨_, rfl⟩
  obtain ⟨T, hT⟩ : ∃ T, T = tl.length := ⟨_, rfl⟩
  rw [← hN, ← hT] at hR HK ⊢
  rw [← hT] at HROW
  have HN := show Hid _ from hN
  have HT := show Hid _ from hT
  clear hN hT
  obtain ⟨W, hW⟩ : ∃ W, W = w1.alloc (.cells #[.slice ta tn tc, .slice na nn nc, .slice la ln lc, .int .i64 st, .slice pa n pc, .slice (some ⟨nb, 0, none⟩) nn nn, .slice sa N sc, .slice xa T xc, .slice l1 N lc1, .slice m1 N mc1] 81) := ⟨_, rfl⟩
  have hgW : w1.grownBy W none := by rw [hW]; exact World.grownBy_alloc _ _ none
  have hbW : W.heap[w1.heap.size]? = some (.cells #[.slice ta tn tc, .slice na nn nc, .slice la ln lc, .int .i64 st, .slice pa n pc, .slice (some ⟨nb, 0, none⟩) nn nn, .slice sa N sc, .slice xa T xc, .slice l1 N lc1, .slice m1 N mc1] 81 (0, 0)) := by rw [hW]; exact heap_alloc_last w1 _
  have HGW : Hid (w.grownBy W none) := grown_trans HG0.out (grown_trans hg1 hgW)
  have HRW : Hid (RaAt (w.alloc (.cells #[.slice ta tn tc, .slice na nn nc, .slice la ln lc, .int .i64 st, .slice pa n pc] 27)).heap.size W nb nn (tn + nn) (.slice sa N sc) (.slice xa T xc) (.slice l1 N lc1) (.slice m1 N mc1) ks es kv ev tl F lb mb) := hR.kept hgW
  have HPW : Hid (ProdsAt W pa n L R ra rc V) := HPR.out W HGW.out
  have HCL : Hid (Calls Tryz.prog 31 #[.agg #[.slice ta tn tc, .slice na nn nc, .slice la ln lc, .int .i64 st, .slice pa n pc, .slice (some ⟨nb, 0, none⟩) nn nn, .slice sa N sc, .slice xa T xc, .slice l1 N lc1, .slice m1 N mc1], .func (.func 33) #[.agg #[.slice ta tn tc, .slice na nn nc, .slice la ln lc, .int .i64 st, .slice pa n pc, .slice (some ⟨nb, 0, none⟩) nn nn, .slice sa N sc, .slice xa T xc, .slice l1 N lc1, .slice m1 N mc1]] #[]] W fun e y => ListsTold T (foldQ (fun _ => []) (inT es tl tn F n L R T)) W e y) :=
    ulists_inc ta na la pa sa xa l1 m1 tc nc lc pc sc xc lc1 mc1 n N T nb st W tn nn ln _ HK.out.t40 fun X bx kb hl => uinc_any ta na la pa sa xa l1 m1 tc nc lc pc sc xc lc1 mc1 n N T nb st X tn nn ln W _ (tn + nn) bx kb ks es kv ev tl F lb mb L R ra rc V HK.out HRW.out HPW.out hn HROW.out ⟨_, _, hl⟩
  obtain ⟨a0, a1, a2, a3, a4, a5, a6, a7, a8, a9⟩ := av_cells hbW
  rw [hW] at a0 a1 a2 a3 a4 a5 a6 a7 a8 a9
  have HWE := show Hid _ from hW
  clear hR hgW hbW hg1 hW HPR HOF HG0
  go_wp2_with fail
  rw [← HWE.out]
  refine Calls.mono HCL.out ?_
  rintro e y ⟨kb, bx, ua, uc, rfl, hL⟩
  have HL := show Hid _ from hL
  clear hL HCL HRW HPW a0 a1 a2 a3 a4 a5 a6 a7 a8 a9
  go_wp2_with fail
  go_ret2
  have e1 := HT.out
  subst e1
  exact ⟨W, kb, bx, ua, uc, HGW.out, rfl, HL.out⟩

set_option maxRecDepth 100000 in
set_option maxHeartbeats 1000000 in
theorem ulookback_bad (err : Int) (herr : err = 1 ∨ err = 11) (hOf : ∀ X, w.grownBy X none → Calls Tryz.prog 30 #[.agg #[.slice ta tn tc, .slice na nn nc, .slice la ln lc, .int .i64 st, .slice pa n pc]] X fun e y => e = .returned (.tuple #[.agg #[.slice none 0 0, .slice none 0 0, .slice none 0 0, .int .i64 0, .slice none 0 0, .slice none 0 0, .slice none 0 0, .slice none 0 0, .slice none 0 0, .slice none 0 0], .int .i64 err]) ∧ X.grownBy y none) : Calls Tryz.prog 14 #[.agg #[.slice ta tn tc, .slice na nn nc, .slice la ln lc, .int .i64 st, .slice pa n pc]] w fun e y => e = .returned (.tuple #[.slice none 0 0, .int .i64 err]) ∧ w.grownBy y none := by
  have HOF := show Hid _ from hOf
  have HG0 : Hid (w.grownBy (w.alloc (.cells #[.slice ta tn tc, .slice na nn nc, .slice la ln lc, .int .i64 st, .slice pa n pc] 27)) none) := World.grownBy_alloc _ _ none
  have hex : (err != 0) = true := by rcases herr with h | h <;> rw [h] <;> decide
  clear hOf herr
  go_enter Tryz.func14, Tryz.ntmps14
  go_wp2_with fail
  refine Calls.mono (HOF.out _ HG0.out) ?_
  rintro e w1 ⟨rfl, hg1⟩
  have HG1 : Hid (∀ o, w.grownBy (w1.alloc o) none) := fun o => grown_trans HG0.out (grown_trans hg1 (World.grownBy_alloc _ _ none))
  clear hg1
  go_wp2_with fail
  go_ret2
  exact ⟨rfl, HG1.out _⟩

set_option maxRecDepth 100000 in
set_option maxHeartbeats 1000000 in
theorem ulookback_ok (ks : List (List It)) (es : List (List (Nat × Nat))) (tl : List It) (F : Nat → Bool) (L : Nat → Int) (R : Nat → List Int) (ra : Nat → Option Addr) (rc : Nat → Nat) (V : Nat → Int) (hK : RlOK ks.length tl.length (tn + nn) tn nn ks es tl) (hPr : ProdsAt w pa n L R ra rc V) (hn : n ≤ 1000) (hrow : RowsOK n tl.length (tn + nn) tl L R)
    (hOf : ∀ X, w.grownBy X none → Calls Tryz.prog 30 #[.agg #[.slice ta tn tc, .slice na nn nc, .slice la ln lc, .int .i64 st, .slice pa n pc]] X fun e y => UofTold ta na la pa tc nc lc pc n st tn nn ln ks es tl F X e y) : Calls Tryz.prog 14 #[.agg #[.slice ta tn tc, .slice na nn nc, .slice la ln lc, .int .i64 st, .slice pa n pc]] w fun e y => BkTold ks.length n (foldA (lbT es tl n L R tl.length)) w e y := by
  have HOF := show Hid _ from hOf
  have HG0 : Hid (w.grownBy (w.alloc (.cells #[.slice ta tn tc, .slice na nn nc, .slice la ln lc, .int .i64 st, .slice pa n pc] 27)) none) := World.grownBy_alloc _ _ none
  have HPR : Hid (∀ X, w.grownBy X none → ProdsAt X pa n L R ra rc V) := fun X hX => hPr.kept hX
  have HK := show Hid _ from hK
  have HROW := show Hid _ from hrow
  clear hOf hPr hK hrow
  go_enter Tryz.func14, Tryz.ntmps14
  go_wp2_with fail
  refine Calls.mono (HOF.out _ HG0.out) ?_
  rintro e w1 ⟨nb, sa, xa, l1, m1, sc, xc, lc1, mc1, kv, ev, lb, mb, rfl, hR, hg1⟩
  obtain ⟨N, hN⟩ : ∃ N, N = ks.length := ⟨_, rfl⟩
  obtain ⟨T, hT⟩ : ∃ T, T = tl.length := ⟨_, rfl⟩
  rw [← hN, ← hT] at hR HK ⊢
  rw [← hT] at HROW
  have HN := show Hid _ from hN
  have HT := show Hid _ from hT
  clear hN hT
  obtain ⟨W, hW⟩ : ∃ W, W = w1.alloc (.cells #[.slice ta tn tc, .slice na nn nc, .slice la ln lc, .int .i64 st, .slice pa n pc, .slice (some ⟨nb, 0, none⟩) nn nn, .slice sa N sc, .slice xa T xc, .slice l1 N lc1, .slice m1 N mc1] 81) := ⟨_, rfl⟩
  have hgW : w1.grownBy W none := by rw [hW]; exact World.grownBy_alloc _ _ none
  have hbW : W.heap[w1.heap.size]? = some (.cells #[.slice ta tn tc, .slice na nn nc, .slice la ln lc, .int .i64 st, .slice pa n pc, .slice (some ⟨nb, 0, none⟩) nn nn, .slice sa N sc, .slice xa T xc, .slice l1 N lc1, .slice m1 N mc1] 81 (0, 0)) := by rw [hW]; exact heap_alloc_last w1 _
  have HGW : Hid (w.grownBy W none) := grown_trans HG0.out (grown_trans hg1 hgW)
  have HRW : Hid (RaAt (w.alloc (.cells #[.slice ta tn tc, .slice na nn nc, .slice la ln lc, .int .i64 st, .slice pa n pc] 27)).heap.size W nb nn (tn + nn) (.slice sa N sc) (.slice xa T xc) (.slice l1 N lc1) (.slice m1 N mc1) ks es kv ev tl F lb mb) := hR.kept hgW
  have HPW : Hid (ProdsAt W pa n L R ra rc V) := HPR.out W HGW.out
  have HCL : Hid (Calls Tryz.prog 34 #[.agg #[.slice ta tn tc, .slice na nn nc, .slice la ln lc, .int .i64 st, .slice pa n pc, .slice (some ⟨nb, 0, none⟩) nn nn, .slice sa N sc, .slice xa T xc, .slice l1 N lc1, .slice m1 N mc1]] W fun e y => BacksTold N n (foldA (lbT es tl n L R T)) W e y) :=
    ubacks_any ta na la pa sa xa l1 m1 tc nc lc pc sc xc lc1 mc1 n N T nb st W tn nn ln _ HK.out.n256 hn fun X bx kb rb hl => ulb_any ta na la pa sa xa l1 m1 tc nc lc pc sc xc lc1 mc1 n N T nb st X tn nn ln W _ (tn + nn) bx kb ks es kv ev tl F lb mb L R ra rc V HK.out HRW.out HPW.out hn HROW.out rb ⟨_, _, hl⟩
  obtain ⟨a0, a1, a2, a3, a4, a5, a6, a7, a8, a9⟩ := av_cells hbW
  rw [hW] at a0 a1 a2 a3 a4 a5 a6 a7 a8 a9
  have HWE := show Hid _ from hW
  clear hR hgW hbW hg1 hW HPR HOF HG0
  go_wp2_with fail
  rw [← HWE.out]
  refine Calls.mono HCL.out ?_
  rintro e y ⟨a, c, bx, kb, rb, ua, uc, rfl, hL, ho⟩
  have HL := show Hid _ from hL
  have HO := show Hid _ from ho
  clear hL ho HCL HRW HPW a0 a1 a2 a3 a4 a5 a6 a7 a8 a9
  go_wp2_with fail
  go_ret2
  have e1 := HT.out
  subst e1
  have e2 := HN.out
  subst e2
  exact ⟨W, a, c, bx, kb, rb, ua, uc, HGW.out, rfl, HL.out, HO.out⟩
end

end Go.Proofs.YtkbjbijoekmooaaGreat.J

/-
  relate: the rows that are gone over are short.
-/
namespace Go.Proofs.YtkbjbijoekmooaaGreat.J
open Go.RowKit Go.Maps Go.Shelf

/-- No dot of a kernel stands further than its state's number. -/
def PD (n : Nat) (R : Nat → List Int) (j : Nat) (k : List It) : Prop := PJ n R j k ∧ ∀ x ∈ k, x.2 ≤ (j : Int)
theorem CLo_dot {tn n : Nat} {L : Nat → Int} {R : Nat → List Int} {k : List It} {j : Int} (hj : 0 ≤ j) (hk : ∀ x ∈ k, x.2 ≤ j) : ∀ x ∈ CLo tn n L R k, x.2 ≤ j := by
  unfold CLo
  by_cases hh : ∃ l, IsClo tn n L R k l ∧ l.length ≤ k.length + 13000
  · rw [dif_pos hh]
    have h1 := Classical.choose_spec hh
    exact fun x hx => ((h1.1.mem x).1 hx) (fun y => y.2 ≤ j) hk (fun y m _ _ _ _ => hj)
  · rw [dif_neg hh]
    exact fun x hx => absurd hx (by simp)
theorem PD.GG {tn n : Nat} {L : Nat → Int} {R : Nat → List Int} {i m : Nat} {k : List It} (s : Nat) (h : PD n R i k) (hm : i < m) : PD n R m (GG tn n L R k s) := by
  refine ⟨h.1.GG s hm, fun x hx => ?_⟩
  obtain ⟨y, hy, _, rfl⟩ := mem_GG.1 hx
  have := CLo_dot (by omega) h.2 y hy
  simp only
  omega
theorem dot_le {tn nn n : Nat} {L : Nat → Int} {R : Nat → List Int} (hn0 : 0 < n) {ks : List (List It)} {es : List (List (Nat × Nat))} (h : autoF (GG tn n L R) (tn + nn) 256 = some (ks, es)) {q : Nat} (hq : q < ks.length) : ∀ x ∈ ks.getD q [], x.2 ≤ (q : Int) :=
  ((autoOK (P := PD n R) ⟨⟨fun x hx => by
    rw [List.mem_singleton.1 hx]
    unfold itB
    simp only [Bool.and_eq_true, decide_eq_true_eq]
    exact ⟨⟨⟨by omega, by omega⟩, by omega⟩, by omega⟩, by simp⟩, fun x hx => by rw [List.mem_singleton.1 hx]; exact Int.le_refl _⟩ (fun _ _ _ s hp hm => hp.GG s hm) 256 h).kok.each q hq).2
/-- A production that is begun has a short row. -/
theorem row_short {tn nn n : Nat} {L : Nat → Int} {R : Nat → List Int} {ks : List (List It)} {es : List (List (Nat × Nat))} (hn0 : 0 < n) (hau : autoF (GG tn n L R) (tn + nn) 256 = some (ks, es)) (h : AutF (GG tn n L R) n R (tn + nn) ks es) (hR : ∀ k, k < n → ∀ x ∈ R k, (0 : Int) < x ∧ x < ((tn + nn : Nat) : Int)) (hCl : ∀ q, q < ks.length → IsClo tn n L R (ks.getD q []) (CLo tn n L R (ks.getD q []))) {q P : Nat} (hq : q < ks.length) (hP : P < n) (hx : ((P : Int), (0 : Int)) ∈ CLo tn n L R (ks.getD q [])) : (R P).length ≤ 256 := by
  by_cases e : (R P).length = 0
  · omega
  · obtain ⟨h1, h2, h3⟩ := right_st h hR hCl hq hP hx ((R P).length - 1) (by omega)
    obtain ⟨u, h4, h5, h6⟩ := goes_on h hR h1 hP (by omega) h3
    have h7 := dot_le hn0 hau h4 _ h6
    have h8 := h.kok.le
    simp only at h7
    omega

end Go.Proofs.YtkbjbijoekmooaaGreat.J

/-
  relate: the law's small grammar. (Printed by tools/usmallgen.py.)
-/
namespace Go.Proofs.YtkbjbijoekmooaaGreat.J
open Go.RowKit Go.Maps Go.Shelf

attribute [local go_sem] Oper.semAt_some

def vTs : List (ByteArray × Int) := [(⟨#[]⟩, 0), (⟨#[120]⟩, 0), (⟨#[121]⟩, 0)]
def vNs : List ByteArray := [⟨#[]⟩, ⟨#[115]⟩, ⟨#[97]⟩, ⟨#[98]⟩]
def vL (i : Nat) : Int := if i = 0 then 3 else if i = 1 then 4 else if i = 2 then 4 else if i = 3 then 5 else 6
def vR (i : Nat) : List Int := if i = 0 then [4] else if i = 1 then [5, 4, 6] else if i = 2 then [1] else if i = 5 then [2] else []

theorem v_gat {Z : World} {b1 b2 b3 b4 b5 b6 b7 : Nat} (h1 : Z.heap[b1]? = some (.cells #[.string ⟨#[]⟩, .int .i64 0, .string ⟨#[120]⟩, .int .i64 0, .string ⟨#[121]⟩, .int .i64 0] 88 (0, 0))) (h2 : Z.heap[b2]? = some (.cells #[.string ⟨#[]⟩, .string ⟨#[115]⟩, .string ⟨#[97]⟩, .string ⟨#[98]⟩] 9 (0, 0))) (h3 : Z.heap[b3]? = some (.cells #[.int .i64 4] 3 (0, 0))) (h4 : Z.heap[b4]? = some (.cells #[.int .i64 5, .int .i64 4, .int .i64 6] 3 (0, 0))) (h5 : Z.heap[b5]? = some (.cells #[.int .i64 1] 3 (0, 0))) (h6 : Z.heap[b6]? = some (.cells #[.int .i64 2] 3 (0, 0))) (h7 : Z.heap[b7]? = some (.cells #[.int .i64 3, .slice (some ⟨b3, 0, none⟩) 1 1, .int .i64 0, .int .i64 4, .slice (some ⟨b4, 0, none⟩) 3 3, .int .i64 0, .int .i64 4, .slice (some ⟨b5, 0, none⟩) 1 1, .int .i64 0, .int .i64 5, .slice none 0 0, .int .i64 0, .int .i64 6, .slice none 0 0, .int .i64 0, .int .i64 6, .slice (some ⟨b6, 0, none⟩) 1 1, .int .i64 0] 71 (0, 0))) :
    ∃ ra rc, GAt Z (some ⟨b1, 0, none⟩) (some ⟨b2, 0, none⟩) none (some ⟨b7, 0, none⟩) 3 4 0 6 vTs vNs [] 6 vL vR ra rc (fun _ => 0) := by
  refine ⟨fun i => if i = 0 then some ⟨b3, 0, none⟩ else if i = 1 then some ⟨b4, 0, none⟩ else if i = 2 then some ⟨b5, 0, none⟩ else if i = 5 then some ⟨b6, 0, none⟩ else none, fun i => if i = 1 then 3 else if i = 3 then 0 else if i = 4 then 0 else 1, .inr ⟨_, 0, rfl, fun i hi => ?_⟩, .inr ⟨_, 0, rfl, fun i hi => ?_⟩, .inl rfl, .inr ⟨_, 0, rfl, fun k hk => ?_⟩, by decide, by decide, by decide, (fun h => by cases h), (fun h => by cases h), by decide, by decide, by decide, by decide⟩
  · have h8 : i = 0 ∨ i = 1 ∨ i = 2 := by simp [vTs] at hi; omega
    rcases h8 with rfl | rfl | rfl <;> exact ⟨by rw [cell_of_row _ _ _ _ _ _ h1]; rfl, by rw [cell_of_row _ _ _ _ _ _ h1]; rfl⟩
  · have h8 : i = 0 ∨ i = 1 ∨ i = 2 ∨ i = 3 := by simp [vNs] at hi; omega
    rcases h8 with rfl | rfl | rfl | rfl <;> (rw [cell_of_row _ _ _ _ _ _ h2]; rfl)
  · have h8 : k = 0 ∨ k = 1 ∨ k = 2 ∨ k = 3 ∨ k = 4 ∨ k = 5 := by omega
    rcases h8 with rfl | rfl | rfl | rfl | rfl | rfl
    · refine ⟨by rw [cell_of_row _ _ _ _ _ _ h7]; rfl, by rw [cell_of_row _ _ _ _ _ _ h7]; rfl, by rw [cell_of_row _ _ _ _ _ _ h7]; rfl, .inr ⟨b3, 0, rfl, fun i hi => ?_⟩, (fun h => by cases h), by decide⟩
      have h9 : i = 0 := by simp [vR] at hi; omega
      subst h9
      rw [cell_of_row _ _ _ _ _ _ h3]; rfl
    · refine ⟨by rw [cell_of_row _ _ _ _ _ _ h7]; rfl, by rw [cell_of_row _ _ _ _ _ _ h7]; rfl, by rw [cell_of_row _ _ _ _ _ _ h7]; rfl, .inr ⟨b4, 0, rfl, fun i hi => ?_⟩, (fun h => by cases h), by decide⟩
      have h9 : i = 0 ∨ i = 1 ∨ i = 2 := by simp [vR] at hi; omega
      rcases h9 with rfl | rfl | rfl <;> (rw [cell_of_row _ _ _ _ _ _ h4]; rfl)
    · refine ⟨by rw [cell_of_row _ _ _ _ _ _ h7]; rfl, by rw [cell_of_row _ _ _ _ _ _ h7]; rfl, by rw [cell_of_row _ _ _ _ _ _ h7]; rfl, .inr ⟨b5, 0, rfl, fun i hi => ?_⟩, (fun h => by cases h), by decide⟩
      have h9 : i = 0 := by simp [vR] at hi; omega
      subst h9
      rw [cell_of_row _ _ _ _ _ _ h5]; rfl
    · exact ⟨by rw [cell_of_row _ _ _ _ _ _ h7]; rfl, by rw [cell_of_row _ _ _ _ _ _ h7]; rfl, by rw [cell_of_row _ _ _ _ _ _ h7]; rfl, .inl rfl, (fun _ => by decide), by decide⟩
    · exact ⟨by rw [cell_of_row _ _ _ _ _ _ h7]; rfl, by rw [cell_of_row _ _ _ _ _ _ h7]; rfl, by rw [cell_of_row _ _ _ _ _ _ h7]; rfl, .inl rfl, (fun _ => by decide), by decide⟩
    · refine ⟨by rw [cell_of_row _ _ _ _ _ _ h7]; rfl, by rw [cell_of_row _ _ _ _ _ _ h7]; rfl, by rw [cell_of_row _ _ _ _ _ _ h7]; rfl, .inr ⟨b6, 0, rfl, fun i hi => ?_⟩, (fun h => by cases h), by decide⟩
      have h9 : i = 0 := by simp [vR] at hi; omega
      subst h9
      rw [cell_of_row _ _ _ _ _ _ h6]; rfl

theorem v_chain (w : World) (cs : Array Value) : (((((((((w.alloc (.cells cs 27)).alloc (.cells #[.string ⟨#[]⟩, .int .i64 0, .string ⟨#[120]⟩, .int .i64 0, .string ⟨#[121]⟩, .int .i64 0] 88)).alloc (.cells #[.string ⟨#[]⟩, .string ⟨#[115]⟩, .string ⟨#[97]⟩, .string ⟨#[98]⟩] 9)).alloc (.cells #[.int .i64 4] 3)).alloc (.cells #[.int .i64 5, .int .i64 4, .int .i64 6] 3)).alloc (.cells #[.int .i64 1] 3)).alloc (.cells #[.int .i64 2] 3)).alloc (.cells #[.int .i64 3, .slice (some ⟨w.heap.size + 1 + 1 + 1, 0, none⟩) 1 1, .int .i64 0, .int .i64 4, .slice (some ⟨w.heap.size + 1 + 1 + 1 + 1, 0, none⟩) 3 3, .int .i64 0, .int .i64 4, .slice (some ⟨w.heap.size + 1 + 1 + 1 + 1 + 1, 0, none⟩) 1 1, .int .i64 0, .int .i64 5, .slice none 0 0, .int .i64 0, .int .i64 6, .slice none 0 0, .int .i64 0, .int .i64 6, .slice (some ⟨w.heap.size + 1 + 1 + 1 + 1 + 1 + 1, 0, none⟩) 1 1, .int .i64 0] 71)).heap[w.heap.size]? = some (.cells cs 27 (0, 0)) ∧ ((((((((w.alloc (.cells cs 27)).alloc (.cells #[.string ⟨#[]⟩, .int .i64 0, .string ⟨#[120]⟩, .int .i64 0, .string ⟨#[121]⟩, .int .i64 0] 88)).alloc (.cells #[.string ⟨#[]⟩, .string ⟨#[115]⟩, .string ⟨#[97]⟩, .string ⟨#[98]⟩] 9)).alloc (.cells #[.int .i64 4] 3)).alloc (.cells #[.int .i64 5, .int .i64 4, .int .i64 6] 3)).alloc (.cells #[.int .i64 1] 3)).alloc (.cells #[.int .i64 2] 3)).alloc (.cells #[.int .i64 3, .slice (some ⟨w.heap.size + 1 + 1 + 1, 0, none⟩) 1 1, .int .i64 0, .int .i64 4, .slice (some ⟨w.heap.size + 1 + 1 + 1 + 1, 0, none⟩) 3 3, .int .i64 0, .int .i64 4, .slice (some ⟨w.heap.size + 1 + 1 + 1 + 1 + 1, 0, none⟩) 1 1, .int .i64 0, .int .i64 5, .slice none 0 0, .int .i64 0, .int .i64 6, .slice none 0 0, .int .i64 0, .int .i64 6, .slice (some ⟨w.heap.size + 1 + 1 + 1 + 1 + 1 + 1, 0, none⟩) 1 1, .int .i64 0] 71)).heap[w.heap.size + 1]? = some (.cells #[.string ⟨#[]⟩, .int .i64 0, .string ⟨#[120]⟩, .int .i64 0, .string ⟨#[121]⟩, .int .i64 0] 88 (0, 0)) ∧ ((((((((w.alloc (.cells cs 27)).alloc (.cells #[.string ⟨#[]⟩, .int .i64 0, .string ⟨#[120]⟩, .int .i64 0, .string ⟨#[121]⟩, .int .i64 0] 88)).alloc (.cells #[.string ⟨#[]⟩, .string ⟨#[115]⟩, .string ⟨#[97]⟩, .string ⟨#[98]⟩] 9)).alloc (.cells #[.int .i64 4] 3)).alloc (.cells #[.int .i64 5, .int .i64 4, .int .i64 6] 3)).alloc (.cells #[.int .i64 1] 3)).alloc (.cells #[.int .i64 2] 3)).alloc (.cells #[.int .i64 3, .slice (some ⟨w.heap.size + 1 + 1 + 1, 0, none⟩) 1 1, .int .i64 0, .int .i64 4, .slice (some ⟨w.heap.size + 1 + 1 + 1 + 1, 0, none⟩) 3 3, .int .i64 0, .int .i64 4, .slice (some ⟨w.heap.size + 1 + 1 + 1 + 1 + 1, 0, none⟩) 1 1, .int .i64 0, .int .i64 5, .slice none 0 0, .int .i64 0, .int .i64 6, .slice none 0 0, .int .i64 0, .int .i64 6, .slice (some ⟨w.heap.size + 1 + 1 + 1 + 1 + 1 + 1, 0, none⟩) 1 1, .int .i64 0] 71)).heap[w.heap.size + 1 + 1]? = some (.cells #[.string ⟨#[]⟩, .string ⟨#[115]⟩, .string ⟨#[97]⟩, .string ⟨#[98]⟩] 9 (0, 0)) ∧ ((((((((w.alloc (.cells cs 27)).alloc (.cells #[.string ⟨#[]⟩, .int .i64 0, .string ⟨#[120]⟩, .int .i64 0, .string ⟨#[121]⟩, .int .i64 0] 88)).alloc (.cells #[.string ⟨#[]⟩, .string ⟨#[115]⟩, .string ⟨#[97]⟩, .string ⟨#[98]⟩] 9)).alloc (.cells #[.int .i64 4] 3)).alloc (.cells #[.int .i64 5, .int .i64 4, .int .i64 6] 3)).alloc (.cells #[.int .i64 1] 3)).alloc (.cells #[.int .i64 2] 3)).alloc (.cells #[.int .i64 3, .slice (some ⟨w.heap.size + 1 + 1 + 1, 0, none⟩) 1 1, .int .i64 0, .int .i64 4, .slice (some ⟨w.heap.size + 1 + 1 + 1 + 1, 0, none⟩) 3 3, .int .i64 0, .int .i64 4, .slice (some ⟨w.heap.size + 1 + 1 + 1 + 1 + 1, 0, none⟩) 1 1, .int .i64 0, .int .i64 5, .slice none 0 0, .int .i64 0, .int .i64 6, .slice none 0 0, .int .i64 0, .int .i64 6, .slice (some ⟨w.heap.size + 1 + 1 + 1 + 1 + 1 + 1, 0, none⟩) 1 1, .int .i64 0] 71)).heap[w.heap.size + 1 + 1 + 1]? = some (.cells #[.int .i64 4] 3 (0, 0)) ∧ ((((((((w.alloc (.cells cs 27)).alloc (.cells #[.string ⟨#[]⟩, .int .i64 0, .string ⟨#[120]⟩, .int .i64 0, .string ⟨#[121]⟩, .int .i64 0] 88)).alloc (.cells #[.string ⟨#[]⟩, .string ⟨#[115]⟩, .string ⟨#[97]⟩, .string ⟨#[98]⟩] 9)).alloc (.cells #[.int .i64 4] 3)).alloc (.cells #[.int .i64 5, .int .i64 4, .int .i64 6] 3)).alloc (.cells #[.int .i64 1] 3)).alloc (.cells #[.int .i64 2] 3)).alloc (.cells #[.int .i64 3, .slice (some ⟨w.heap.size + 1 + 1 + 1, 0, none⟩) 1 1, .int .i64 0, .int .i64 4, .slice (some ⟨w.heap.size + 1 + 1 + 1 + 1, 0, none⟩) 3 3, .int .i64 0, .int .i64 4, .slice (some ⟨w.heap.size + 1 + 1 + 1 + 1 + 1, 0, none⟩) 1 1, .int .i64 0, .int .i64 5, .slice none 0 0, .int .i64 0, .int .i64 6, .slice none 0 0, .int .i64 0, .int .i64 6, .slice (some ⟨w.heap.size + 1 + 1 + 1 + 1 + 1 + 1, 0, none⟩) 1 1, .int .i64 0] 71)).heap[w.heap.size + 1 + 1 + 1 + 1]? = some (.cells #[.int .i64 5, .int .i64 4, .int .i64 6] 3 (0, 0)) ∧ ((((((((w.alloc (.cells cs 27)).alloc (.cells #[.string ⟨#[]⟩, .int .i64 0, .string ⟨#[120]⟩, .int .i64 0, .string ⟨#[121]⟩, .int .i64 0] 88)).alloc (.cells #[.string ⟨#[]⟩, .string ⟨#[115]⟩, .string ⟨#[97]⟩, .string ⟨#[98]⟩] 9)).alloc (.cells #[.int .i64 4] 3)).alloc (.cells #[.int .i64 5, .int .i64 4, .int .i64 6] 3)).alloc (.cells #[.int .i64 1] 3)).alloc (.cells #[.int .i64 2] 3)).alloc (.cells #[.int .i64 3, .slice (some ⟨w.heap.size + 1 + 1 + 1, 0, none⟩) 1 1, .int .i64 0, .int .i64 4, .slice (some ⟨w.heap.size + 1 + 1 + 1 + 1, 0, none⟩) 3 3, .int .i64 0, .int .i64 4, .slice (some ⟨w.heap.size + 1 + 1 + 1 + 1 + 1, 0, none⟩) 1 1, .int .i64 0, .int .i64 5, .slice none 0 0, .int .i64 0, .int .i64 6, .slice none 0 0, .int .i64 0, .int .i64 6, .slice (some ⟨w.heap.size + 1 + 1 + 1 + 1 + 1 + 1, 0, none⟩) 1 1, .int .i64 0] 71)).heap[w.heap.size + 1 + 1 + 1 + 1 + 1]? = some (.cells #[.int .i64 1] 3 (0, 0)) ∧ ((((((((w.alloc (.cells cs 27)).alloc (.cells #[.string ⟨#[]⟩, .int .i64 0, .string ⟨#[120]⟩, .int .i64 0, .string ⟨#[121]⟩, .int .i64 0] 88)).alloc (.cells #[.string ⟨#[]⟩, .string ⟨#[115]⟩, .string ⟨#[97]⟩, .string ⟨#[98]⟩] 9)).alloc (.cells #[.int .i64 4] 3)).alloc (.cells #[.int .i64 5, .int .i64 4, .int .i64 6] 3)).alloc (.cells #[.int .i64 1] 3)).alloc (.cells #[.int .i64 2] 3)).alloc (.cells #[.int .i64 3, .slice (some ⟨w.heap.size + 1 + 1 + 1, 0, none⟩) 1 1, .int .i64 0, .int .i64 4, .slice (some ⟨w.heap.size + 1 + 1 + 1 + 1, 0, none⟩) 3 3, .int .i64 0, .int .i64 4, .slice (some ⟨w.heap.size + 1 + 1 + 1 + 1 + 1, 0, none⟩) 1 1, .int .i64 0, .int .i64 5, .slice none 0 0, .int .i64 0, .int .i64 6, .slice none 0 0, .int .i64 0, .int .i64 6, .slice (some ⟨w.heap.size + 1 + 1 + 1 + 1 + 1 + 1, 0, none⟩) 1 1, .int .i64 0] 71)).heap[w.heap.size + 1 + 1 + 1 + 1 + 1 + 1]? = some (.cells #[.int .i64 2] 3 (0, 0)) ∧ ((((((((w.alloc (.cells cs 27)).alloc (.cells #[.string ⟨#[]⟩, .int .i64 0, .string ⟨#[120]⟩, .int .i64 0, .string ⟨#[121]⟩, .int .i64 0] 88)).alloc (.cells #[.string ⟨#[]⟩, .string ⟨#[115]⟩, .string ⟨#[97]⟩, .string ⟨#[98]⟩] 9)).alloc (.cells #[.int .i64 4] 3)).alloc (.cells #[.int .i64 5, .int .i64 4, .int .i64 6] 3)).alloc (.cells #[.int .i64 1] 3)).alloc (.cells #[.int .i64 2] 3)).alloc (.cells #[.int .i64 3, .slice (some ⟨w.heap.size + 1 + 1 + 1, 0, none⟩) 1 1, .int .i64 0, .int .i64 4, .slice (some ⟨w.heap.size + 1 + 1 + 1 + 1, 0, none⟩) 3 3, .int .i64 0, .int .i64 4, .slice (some ⟨w.heap.size + 1 + 1 + 1 + 1 + 1, 0, none⟩) 1 1, .int .i64 0, .int .i64 5, .slice none 0 0, .int .i64 0, .int .i64 6, .slice none 0 0, .int .i64 0, .int .i64 6, .slice (some ⟨w.heap.size + 1 + 1 + 1 + 1 + 1 + 1, 0, none⟩) 1 1, .int .i64 0] 71)).heap[w.heap.size + 1 + 1 + 1 + 1 + 1 + 1 + 1]? = some (.cells #[.int .i64 3, .slice (some ⟨w.heap.size + 1 + 1 + 1, 0, none⟩) 1 1, .int .i64 0, .int .i64 4, .slice (some ⟨w.heap.size + 1 + 1 + 1 + 1, 0, none⟩) 3 3, .int .i64 0, .int .i64 4, .slice (some ⟨w.heap.size + 1 + 1 + 1 + 1 + 1, 0, none⟩) 1 1, .int .i64 0, .int .i64 5, .slice none 0 0, .int .i64 0, .int .i64 6, .slice none 0 0, .int .i64 0, .int .i64 6, .slice (some ⟨w.heap.size + 1 + 1 + 1 + 1 + 1 + 1, 0, none⟩) 1 1, .int .i64 0] 71 (0, 0))) ∧ w.grownBy ((((((((w.alloc (.cells cs 27)).alloc (.cells #[.string ⟨#[]⟩, .int .i64 0, .string ⟨#[120]⟩, .int .i64 0, .string ⟨#[121]⟩, .int .i64 0] 88)).alloc (.cells #[.string ⟨#[]⟩, .string ⟨#[115]⟩, .string ⟨#[97]⟩, .string ⟨#[98]⟩] 9)).alloc (.cells #[.int .i64 4] 3)).alloc (.cells #[.int .i64 5, .int .i64 4, .int .i64 6] 3)).alloc (.cells #[.int .i64 1] 3)).alloc (.cells #[.int .i64 2] 3)).alloc (.cells #[.int .i64 3, .slice (some ⟨w.heap.size + 1 + 1 + 1, 0, none⟩) 1 1, .int .i64 0, .int .i64 4, .slice (some ⟨w.heap.size + 1 + 1 + 1 + 1, 0, none⟩) 3 3, .int .i64 0, .int .i64 4, .slice (some ⟨w.heap.size + 1 + 1 + 1 + 1 + 1, 0, none⟩) 1 1, .int .i64 0, .int .i64 5, .slice none 0 0, .int .i64 0, .int .i64 6, .slice none 0 0, .int .i64 0, .int .i64 6, .slice (some ⟨w.heap.size + 1 + 1 + 1 + 1 + 1 + 1, 0, none⟩) 1 1, .int .i64 0] 71)) none := by
  have g0 := World.grownBy_alloc w (.cells cs 27) none
  have c0 := heap_alloc_last w (.cells cs 27)
  have g1 := World.grownBy_alloc (w.alloc (.cells cs 27)) (.cells #[.string ⟨#[]⟩, .int .i64 0, .string ⟨#[120]⟩, .int .i64 0, .string ⟨#[121]⟩, .int .i64 0] 88) none
  have c1 := heap_alloc_last (w.alloc (.cells cs 27)) (.cells #[.string ⟨#[]⟩, .int .i64 0, .string ⟨#[120]⟩, .int .i64 0, .string ⟨#[121]⟩, .int .i64 0] 88)
  rw [World.size_alloc] at c1
  have g2 := World.grownBy_alloc ((w.alloc (.cells cs 27)).alloc (.cells #[.string ⟨#[]⟩, .int .i64 0, .string ⟨#[120]⟩, .int .i64 0, .string ⟨#[121]⟩, .int .i64 0] 88)) (.cells #[.string ⟨#[]⟩, .string ⟨#[115]⟩, .string ⟨#[97]⟩, .string ⟨#[98]⟩] 9) none
  have c2 := heap_alloc_last ((w.alloc (.cells cs 27)).alloc (.cells #[.string ⟨#[]⟩, .int .i64 0, .string ⟨#[120]⟩, .int .i64 0, .string ⟨#[121]⟩, .int .i64 0] 88)) (.cells #[.string ⟨#[]⟩, .string ⟨#[115]⟩, .string ⟨#[97]⟩, .string ⟨#[98]⟩] 9)
  rw [World.size_alloc, World.size_alloc] at c2
  have g3 := World.grownBy_alloc (((w.alloc (.cells cs 27)).alloc (.cells #[.string ⟨#[]⟩, .int .i64 0, .string ⟨#[120]⟩, .int .i64 0, .string ⟨#[121]⟩, .int .i64 0] 88)).alloc (.cells #[.string ⟨#[]⟩, .string ⟨#[115]⟩, .string ⟨#[97]⟩, .string ⟨#[98]⟩] 9)) (.cells #[.int .i64 4] 3) none
  have c3 := heap_alloc_last (((w.alloc (.cells cs 27)).alloc (.cells #[.string ⟨#[]⟩, .int .i64 0, .string ⟨#[120]⟩, .int .i64 0, .string ⟨#[121]⟩, .int .i64 0] 88)).alloc (.cells #[.string ⟨#[]⟩, .string ⟨#[115]⟩, .string ⟨#[97]⟩, .string ⟨#[98]⟩] 9)) (.cells #[.int .i64 4] 3)
  rw [World.size_alloc, World.size_alloc, World.size_alloc] at c3
  have g4 := World.grownBy_alloc ((((w.alloc (.cells cs 27)).alloc (.cells #[.string ⟨#[]⟩, .int .i64 0, .string ⟨#[120]⟩, .int .i64 0, .string ⟨#[121]⟩, .int .i64 0] 88)).alloc (.cells #[.string ⟨#[]⟩, .string ⟨#[115]⟩, .string ⟨#[97]⟩, .string ⟨#[98]⟩] 9)).alloc (.cells #[.int .i64 4] 3)) (.cells #[.int .i64 5, .int .i64 4, .int .i64 6] 3) none
  have c4 := heap_alloc_last ((((w.alloc (.cells cs 27)).alloc (.cells #[.string ⟨#[]⟩, .int .i64 0, .string ⟨#[120]⟩, .int .i64 0, .string ⟨#[121]⟩, .int .i64 0] 88)).alloc (.cells #[.string ⟨#[]⟩, .string ⟨#[115]⟩, .string ⟨#[97]⟩, .string ⟨#[98]⟩] 9)).alloc (.cells #[.int .i64 4] 3)) (.cells #[.int .i64 5, .int .i64 4, .int .i64 6] 3)
  rw [World.size_alloc, World.size_alloc, World.size_alloc, World.size_alloc] at c4
  have g5 := World.grownBy_alloc (((((w.alloc (.cells cs 27)).alloc (.cells #[.string ⟨#[]⟩, .int .i64 0, .string ⟨#[120]⟩, .int .i64 0, .string ⟨#[121]⟩, .int .i64 0] 88)).alloc (.cells #[.string ⟨#[]⟩, .string ⟨#[115]⟩, .string ⟨#[97]⟩, .string ⟨#[98]⟩] 9)).alloc (.cells #[.int .i64 4] 3)).alloc (.cells #[.int .i64 5, .int .i64 4, .int .i64 6] 3)) (.cells #[.int .i64 1] 3) none
  have c5 := heap_alloc_last (((((w.alloc (.cells cs 27)).alloc (.cells #[.string ⟨#[]⟩, .int .i64 0, .string ⟨#[120]⟩, .int .i64 0, .string ⟨#[121]⟩, .int .i64 0] 88)).alloc (.cells #[.string ⟨#[]⟩, .string ⟨#[115]⟩, .string ⟨#[97]⟩, .string ⟨#[98]⟩] 9)).alloc (.cells #[.int .i64 4] 3)).alloc (.cells #[.int .i64 5, .int .i64 4, .int .i64 6] 3)) (.cells #[.int .i64 1] 3)
  rw [World.size_alloc, World.size_alloc, World.size_alloc, World.size_alloc, World.size_alloc] at c5
  have g6 := World.grownBy_alloc ((((((w.alloc (.cells cs 27)).alloc (.cells #[.string ⟨#[]⟩, .int .i64 0, .string ⟨#[120]⟩, .int .i64 0, .string ⟨#[121]⟩, .int .i64 0] 88)).alloc (.cells #[.string ⟨#[]⟩, .string ⟨#[115]⟩, .string ⟨#[97]⟩, .string ⟨#[98]⟩] 9)).alloc (.cells #[.int .i64 4] 3)).alloc (.cells #[.int .i64 5, .int .i64 4, .int .i64 6] 3)).alloc (.cells #[.int .i64 1] 3)) (.cells #[.int .i64 2] 3) none
  have c6 := heap_alloc_last ((((((w.alloc (.cells cs 27)).alloc (.cells #[.string ⟨#[]⟩, .int .i64 0, .string ⟨#[120]⟩, .int .i64 0, .string ⟨#[121]⟩, .int .i64 0] 88)).alloc (.cells #[.string ⟨#[]⟩, .string ⟨#[115]⟩, .string ⟨#[97]⟩, .string ⟨#[98]⟩] 9)).alloc (.cells #[.int .i64 4] 3)).alloc (.cells #[.int .i64 5, .int .i64 4, .int .i64 6] 3)).alloc (.cells #[.int .i64 1] 3)) (.cells #[.int .i64 2] 3)
  rw [World.size_alloc, World.size_alloc, World.size_alloc, World.size_alloc, World.size_alloc, World.size_alloc] at c6
  have g7 := World.grownBy_alloc (((((((w.alloc (.cells cs 27)).alloc (.cells #[.string ⟨#[]⟩, .int .i64 0, .string ⟨#[120]⟩, .int .i64 0, .string ⟨#[121]⟩, .int .i64 0] 88)).alloc (.cells #[.string ⟨#[]⟩, .string ⟨#[115]⟩, .string ⟨#[97]⟩, .string ⟨#[98]⟩] 9)).alloc (.cells #[.int .i64 4] 3)).alloc (.cells #[.int .i64 5, .int .i64 4, .int .i64 6] 3)).alloc (.cells #[.int .i64 1] 3)).alloc (.cells #[.int .i64 2] 3)) (.cells #[.int .i64 3, .slice (some ⟨w.heap.size + 1 + 1 + 1, 0, none⟩) 1 1, .int .i64 0, .int .i64 4, .slice (some ⟨w.heap.size + 1 + 1 + 1 + 1, 0, none⟩) 3 3, .int .i64 0, .int .i64 4, .slice (some ⟨w.heap.size + 1 + 1 + 1 + 1 + 1, 0, none⟩) 1 1, .int .i64 0, .int .i64 5, .slice none 0 0, .int .i64 0, .int .i64 6, .slice none 0 0, .int .i64 0, .int .i64 6, .slice (some ⟨w.heap.size + 1 + 1 + 1 + 1 + 1 + 1, 0, none⟩) 1 1, .int .i64 0] 71) none
  have c7 := heap_alloc_last (((((((w.alloc (.cells cs 27)).alloc (.cells #[.string ⟨#[]⟩, .int .i64 0, .string ⟨#[120]⟩, .int .i64 0, .string ⟨#[121]⟩, .int .i64 0] 88)).alloc (.cells #[.string ⟨#[]⟩, .string ⟨#[115]⟩, .string ⟨#[97]⟩, .string ⟨#[98]⟩] 9)).alloc (.cells #[.int .i64 4] 3)).alloc (.cells #[.int .i64 5, .int .i64 4, .int .i64 6] 3)).alloc (.cells #[.int .i64 1] 3)).alloc (.cells #[.int .i64 2] 3)) (.cells #[.int .i64 3, .slice (some ⟨w.heap.size + 1 + 1 + 1, 0, none⟩) 1 1, .int .i64 0, .int .i64 4, .slice (some ⟨w.heap.size + 1 + 1 + 1 + 1, 0, none⟩) 3 3, .int .i64 0, .int .i64 4, .slice (some ⟨w.heap.size + 1 + 1 + 1 + 1 + 1, 0, none⟩) 1 1, .int .i64 0, .int .i64 5, .slice none 0 0, .int .i64 0, .int .i64 6, .slice none 0 0, .int .i64 0, .int .i64 6, .slice (some ⟨w.heap.size + 1 + 1 + 1 + 1 + 1 + 1, 0, none⟩) 1 1, .int .i64 0] 71)
  rw [World.size_alloc, World.size_alloc, World.size_alloc, World.size_alloc, World.size_alloc, World.size_alloc, World.size_alloc] at c7
  have c0 := (boxKept c0 g1).out
  have c0 := (boxKept c0 g2).out
  have c0 := (boxKept c0 g3).out
  have c0 := (boxKept c0 g4).out
  have c0 := (boxKept c0 g5).out
  have c0 := (boxKept c0 g6).out
  have c0 := (boxKept c0 g7).out
  have c1 := (boxKept c1 g2).out
  have c1 := (boxKept c1 g3).out
  have c1 := (boxKept c1 g4).out
  have c1 := (boxKept c1 g5).out
  have c1 := (boxKept c1 g6).out
  have c1 := (boxKept c1 g7).out
  have c2 := (boxKept c2 g3).out
  have c2 := (boxKept c2 g4).out
  have c2 := (boxKept c2 g5).out
  have c2 := (boxKept c2 g6).out
  have c2 := (boxKept c2 g7).out
  have c3 := (boxKept c3 g4).out
  have c3 := (boxKept c3 g5).out
  have c3 := (boxKept c3 g6).out
  have c3 := (boxKept c3 g7).out
  have c4 := (boxKept c4 g5).out
  have c4 := (boxKept c4 g6).out
  have c4 := (boxKept c4 g7).out
  have c5 := (boxKept c5 g6).out
  have c5 := (boxKept c5 g7).out
  have c6 := (boxKept c6 g7).out
  exact ⟨⟨c0, c1, c2, c3, c4, c5, c6, c7⟩, (grown_trans g0 (grown_trans g1 (grown_trans g2 (grown_trans g3 (grown_trans g4 (grown_trans g5 (grown_trans g6 g7)))))))⟩

set_option maxRecDepth 100000 in
set_option maxHeartbeats 1000000 in
theorem vsmall_any (w : World) : Calls Tryz.prog 25 #[] w fun e y => ∃ b1 b2 b7 ra rc, e = .returned (.agg #[.slice (some ⟨b1, 0, none⟩) 3 3, .slice (some ⟨b2, 0, none⟩) 4 4, .slice none 0 0, .int .i64 4, .slice (some ⟨b7, 0, none⟩) 6 6]) ∧ GAt y (some ⟨b1, 0, none⟩) (some ⟨b2, 0, none⟩) none (some ⟨b7, 0, none⟩) 3 4 0 6 vTs vNs [] 6 vL vR ra rc (fun _ => 0) ∧ w.grownBy y none := by
  have HC := show Hid _ from v_chain w #[.slice (some ⟨w.heap.size + 1, 0, none⟩) 3 3, .slice (some ⟨w.heap.size + 1 + 1, 0, none⟩) 4 4, .slice none 0 0, .int .i64 4, .slice (some ⟨w.heap.size + 1 + 1 + 1 + 1 + 1 + 1 + 1, 0, none⟩) 6 6]
  go_enter Tryz.func25, Tryz.ntmps25
  go_wp2_with fail
  obtain ⟨⟨c0, c1, c2, c3, c4, c5, c6, c7⟩, hg⟩ := HC.out
  obtain ⟨ra, rc, hG⟩ := v_gat c1 c2 c3 c4 c5 c6 c7
  exact bodyPost_ret (v := .agg #[.slice (some ⟨w.heap.size + 1, 0, none⟩) 3 3, .slice (some ⟨w.heap.size + 1 + 1, 0, none⟩) 4 4, .slice none 0 0, .int .i64 4, .slice (some ⟨w.heap.size + 1 + 1 + 1 + 1 + 1 + 1 + 1, 0, none⟩) 6 6]) (results_cell_row (fr := (0, 0)) rfl _ _ w.heap.size 27 #[.slice (some ⟨w.heap.size + 1, 0, none⟩) 3 3, .slice (some ⟨w.heap.size + 1 + 1, 0, none⟩) 4 4, .slice none 0 0, .int .i64 4, .slice (some ⟨w.heap.size + 1 + 1 + 1 + 1 + 1 + 1 + 1, 0, none⟩) 6 6] _ rfl c0 Tryz.underlying27 rfl infoGramK) rfl ⟨_, _, _, ra, rc, rfl, hG, hg⟩

theorem v_closed : closedOK vTs vNs [] 4 6 vL vR (fun _ => 0) := by
  refine ⟨⟨by decide, rfl, by decide, rfl, rfl, rfl⟩, ⟨by decide, by decide, by decide, by decide, by decide, by decide, ⟨⟨by decide, rfl⟩, fun i h1 h2 => ?_⟩, fun j hj => absurd hj (Nat.not_lt_zero j), fun i h1 h2 => ?_, fun i h1 h2 => ?_, rfl, ⟨by decide, by decide⟩⟩⟩
  · have h3 : i = 1 ∨ i = 2 := by simp [vTs] at h2; omega
    rcases h3 with rfl | rfl
    · exact ⟨⟨by rfl, by decide, by decide⟩, fun k h4 h5 => absurd h5 (by omega)⟩
    · refine ⟨⟨by rfl, by decide, by decide⟩, fun k h4 h5 => ?_⟩
      have h6 : k = 1 := by omega
      subst h6
      decide
  · have h3 : i = 1 ∨ i = 2 ∨ i = 3 := by simp [vNs] at h2; omega
    rcases h3 with rfl | rfl | rfl
    · exact ⟨by rfl, fun k h4 h5 => absurd h5 (by omega)⟩
    · refine ⟨by rfl, fun k h4 h5 => ?_⟩
      have h6 : k = 1 := by omega
      subst h6
      decide
    · refine ⟨by rfl, fun k h4 h5 => ?_⟩
      have h6 : k = 1 ∨ k = 2 := by omega
      rcases h6 with rfl | rfl <;> decide
  · have h3 : i = 1 ∨ i = 2 ∨ i = 3 ∨ i = 4 ∨ i = 5 := by omega
    rcases h3 with rfl | rfl | rfl | rfl | rfl
    · refine ⟨⟨by decide, by decide⟩, ⟨by decide, by decide⟩, ?_⟩
      intro x hx
      simp [vR] at hx
      rcases hx with rfl | rfl | rfl
      · exact .inr ⟨by decide, by decide⟩
      · exact .inr ⟨by decide, by decide⟩
      · exact .inr ⟨by decide, by decide⟩
    · refine ⟨⟨by decide, by decide⟩, ⟨by decide, by decide⟩, ?_⟩
      intro x hx
      simp [vR] at hx
      subst hx
      exact .inl ⟨by decide, by decide⟩
    · exact ⟨⟨by decide, by decide⟩, ⟨by decide, by decide⟩, fun x hx => absurd hx (by simp [vR])⟩
    · exact ⟨⟨by decide, by decide⟩, ⟨by decide, by decide⟩, fun x hx => absurd hx (by simp [vR])⟩
    · refine ⟨⟨by decide, by decide⟩, ⟨by decide, by decide⟩, ?_⟩
      intro x hx
      simp [vR] at hx
      subst hx
      exact .inl ⟨by decide, by decide⟩

def vCl (k : List It) : List It := if k = [(0, 0)] then [(0, 0), (1, 0), (2, 0), (3, 0)] else if k = [(1, 1)] then [(1, 0), (1, 1), (2, 0), (3, 0)] else if k = [(1, 2)] then [(1, 2), (4, 0), (5, 0)] else k
def vKs : List (List It) := [[(0, 0)], [(2, 1)], [(0, 1)], [(1, 1)], [(1, 2)], [(5, 1)], [(1, 3)]]
def vEs : List (List (Nat × Nat)) := [[(1, 1), (4, 2), (5, 3)], [], [], [(1, 1), (4, 4), (5, 3)], [(2, 5), (6, 6)], [], []]

theorem v_six {k : Nat} (h : k < 6) : k = 0 ∨ k = 1 ∨ k = 2 ∨ k = 3 ∨ k = 4 ∨ k = 5 := by omega
theorem v_clo : ∀ k ∈ vKs, IsClo 3 6 vL vR k (vCl k) := by
  intro k hk
  simp only [vKs, List.mem_cons, List.not_mem_nil, or_false] at hk
  rcases hk with rfl | rfl | rfl | rfl | rfl | rfl | rfl
  · refine isClo_mk (by simp [vCl, Asc, ltI]) (by simp [vCl]) (fun x hx => ?_) (fun y hy k hk h1 h2 => ?_)
    · have h0 : Clo 3 6 vL vR [((0 : Int), (0 : Int))] ((0 : Int), (0 : Int)) := Clo.base (by simp)
      have h1 : Clo 3 6 vL vR [((0 : Int), (0 : Int))] ((1 : Int), (0 : Int)) := h0.step (k := 1) (by decide) (by decide) (by decide)
      simp [vCl] at hx
      rcases hx with rfl | rfl | rfl | rfl
      · exact h0
      · exact h1
      · exact h0.step (k := 2) (by decide) (by decide) (by decide)
      · exact h1.step (k := 3) (by decide) (by decide) (by decide)
    · simp [vCl] at hy
      rcases hy with rfl | rfl | rfl | rfl <;> rcases v_six hk with rfl | rfl | rfl | rfl | rfl | rfl <;> first | (simp [vCl]; done) | exact absurd h2 (by decide) | exact absurd h1 (by decide)
  · refine isClo_self (by simp [Asc, ltI]) (fun y hy => ?_)
    simp at hy
    subst hy; decide
  · refine isClo_self (by simp [Asc, ltI]) (fun y hy => ?_)
    simp at hy
    subst hy; decide
  · refine isClo_mk (by simp [vCl, Asc, ltI]) (by simp [vCl]) (fun x hx => ?_) (fun y hy k hk h1 h2 => ?_)
    · have h0 : Clo 3 6 vL vR [((1 : Int), (1 : Int))] ((1 : Int), (1 : Int)) := Clo.base (by simp)
      have h1 : Clo 3 6 vL vR [((1 : Int), (1 : Int))] ((1 : Int), (0 : Int)) := h0.step (k := 1) (by decide) (by decide) (by decide)
      simp [vCl] at hx
      rcases hx with rfl | rfl | rfl | rfl
      · exact h1
      · exact h0
      · exact h0.step (k := 2) (by decide) (by decide) (by decide)
      · exact h1.step (k := 3) (by decide) (by decide) (by decide)
    · simp [vCl] at hy
      rcases hy with rfl | rfl | rfl | rfl <;> rcases v_six hk with rfl | rfl | rfl | rfl | rfl | rfl <;> first | (simp [vCl]; done) | exact absurd h2 (by decide) | exact absurd h1 (by decide)
  · refine isClo_mk (by simp [vCl, Asc, ltI]) (by simp [vCl]) (fun x hx => ?_) (fun y hy k hk h1 h2 => ?_)
    · have h0 : Clo 3 6 vL vR [((1 : Int), (2 : Int))] ((1 : Int), (2 : Int)) := Clo.base (by simp)
      simp [vCl] at hx
      rcases hx with rfl | rfl | rfl
      · exact h0
      · exact h0.step (k := 4) (by decide) (by decide) (by decide)
      · exact h0.step (k := 5) (by decide) (by decide) (by decide)
    · simp [vCl] at hy
      rcases hy with rfl | rfl | rfl <;> rcases v_six hk with rfl | rfl | rfl | rfl | rfl | rfl <;> first | (simp [vCl]; done) | exact absurd h2 (by decide) | exact absurd h1 (by decide)
  · refine isClo_self (by simp [Asc, ltI]) (fun y hy => ?_)
    simp at hy
    subst hy; decide
  · refine isClo_self (by simp [Asc, ltI]) (fun y hy => ?_)
    simp at hy
    subst hy; decide

theorem v_auto {CL : List It → List It} (h : ∀ k ∈ vKs, IsClo 3 6 vL vR k (CL k)) : autoF (fun k (s : Nat) => kerT vR (CL k) (s : Int)) 7 256 = some (vKs, vEs) := by
  have hc : ∀ k ∈ vKs, CL k = vCl k := fun k hk => (h k hk).unique (v_clo k hk)
  have c0 := hc [(0, 0)] (by simp [vKs])
  have c1 := hc [(2, 1)] (by simp [vKs])
  have c2 := hc [(0, 1)] (by simp [vKs])
  have c3 := hc [(1, 1)] (by simp [vKs])
  have c4 := hc [(1, 2)] (by simp [vKs])
  have c5 := hc [(5, 1)] (by simp [vKs])
  have c6 := hc [(1, 3)] (by simp [vKs])
  obtain ⟨G, hG⟩ : ∃ G : List It → Nat → List It, G = fun k (s : Nat) => kerT vR (CL k) (s : Int) := ⟨_, rfl⟩
  rw [← hG]
  have g0 : G [(0, 0)] = fun (s : Nat) => kerT vR (vCl [(0, 0)]) (s : Int) := by rw [hG]; simp only; rw [c0]
  have g1 : G [(2, 1)] = fun (s : Nat) => kerT vR (vCl [(2, 1)]) (s : Int) := by rw [hG]; simp only; rw [c1]
  have g2 : G [(0, 1)] = fun (s : Nat) => kerT vR (vCl [(0, 1)]) (s : Int) := by rw [hG]; simp only; rw [c2]
  have g3 : G [(1, 1)] = fun (s : Nat) => kerT vR (vCl [(1, 1)]) (s : Int) := by rw [hG]; simp only; rw [c3]
  have g4 : G [(1, 2)] = fun (s : Nat) => kerT vR (vCl [(1, 2)]) (s : Int) := by rw [hG]; simp only; rw [c4]
  have g5 : G [(5, 1)] = fun (s : Nat) => kerT vR (vCl [(5, 1)]) (s : Int) := by rw [hG]; simp only; rw [c5]
  have g6 : G [(1, 3)] = fun (s : Nat) => kerT vR (vCl [(1, 3)]) (s : Int) := by rw [hG]; simp only; rw [c6]
  have a0 : autoF G 7 0 = some ([[(0, 0)]], []) := rfl
  have a1 : autoF G 7 1 = some ([[(0, 0)], [(2, 1)], [(0, 1)], [(1, 1)]], [[(1, 1), (4, 2), (5, 3)]]) := by
    rw [autoF_step a0 (by decide), show ([[(0, 0)]] : List (List It)).getD 0 [] = [(0, 0)] from rfl, g0]
    decide
  have a2 : autoF G 7 2 = some ([[(0, 0)], [(2, 1)], [(0, 1)], [(1, 1)]], [[(1, 1), (4, 2), (5, 3)], []]) := by
    rw [autoF_step a1 (by decide), show ([[(0, 0)], [(2, 1)], [(0, 1)], [(1, 1)]] : List (List It)).getD 1 [] = [(2, 1)] from rfl, g1]
    decide
  have a3 : autoF G 7 3 = some ([[(0, 0)], [(2, 1)], [(0, 1)], [(1, 1)]], [[(1, 1), (4, 2), (5, 3)], [], []]) := by
    rw [autoF_step a2 (by decide), show ([[(0, 0)], [(2, 1)], [(0, 1)], [(1, 1)]] : List (List It)).getD 2 [] = [(0, 1)] from rfl, g2]
    decide
  have a4 : autoF G 7 4 = some ([[(0, 0)], [(2, 1)], [(0, 1)], [(1, 1)], [(1, 2)]], [[(1, 1), (4, 2), (5, 3)], [], [], [(1, 1), (4, 4), (5, 3)]]) := by
    rw [autoF_step a3 (by decide), show ([[(0, 0)], [(2, 1)], [(0, 1)], [(1, 1)]] : List (List It)).getD 3 [] = [(1, 1)] from rfl, g3]
    decide
  have a5 : autoF G 7 5 = some ([[(0, 0)], [(2, 1)], [(0, 1)], [(1, 1)], [(1, 2)], [(5, 1)], [(1, 3)]], [[(1, 1), (4, 2), (5, 3)], [], [], [(1, 1), (4, 4), (5, 3)], [(2, 5), (6, 6)]]) := by
    rw [autoF_step a4 (by decide), show ([[(0, 0)], [(2, 1)], [(0, 1)], [(1, 1)], [(1, 2)]] : List (List It)).getD 4 [] = [(1, 2)] from rfl, g4]
    decide
  have a6 : autoF G 7 6 = some ([[(0, 0)], [(2, 1)], [(0, 1)], [(1, 1)], [(1, 2)], [(5, 1)], [(1, 3)]], [[(1, 1), (4, 2), (5, 3)], [], [], [(1, 1), (4, 4), (5, 3)], [(2, 5), (6, 6)], []]) := by
    rw [autoF_step a5 (by decide), show ([[(0, 0)], [(2, 1)], [(0, 1)], [(1, 1)], [(1, 2)], [(5, 1)], [(1, 3)]] : List (List It)).getD 5 [] = [(5, 1)] from rfl, g5]
    decide
  have a7 : autoF G 7 7 = some ([[(0, 0)], [(2, 1)], [(0, 1)], [(1, 1)], [(1, 2)], [(5, 1)], [(1, 3)]], [[(1, 1), (4, 2), (5, 3)], [], [], [(1, 1), (4, 4), (5, 3)], [(2, 5), (6, 6)], [], []]) := by
    rw [autoF_step a6 (by decide), show ([[(0, 0)], [(2, 1)], [(0, 1)], [(1, 1)], [(1, 2)], [(5, 1)], [(1, 3)]] : List (List It)).getD 6 [] = [(1, 3)] from rfl, g6]
    decide
  exact autoF_stay a7 (by decide) 249
theorem v_ggT : autoF (GG 3 6 vL vR) (3 + 4) 256 = some (vKs, vEs) := by
  have h : ∀ k ∈ vKs, IsClo 3 6 vL vR k (CLo 3 6 vL vR k) := fun k hk => by
    have h1 := v_clo k hk
    rw [CLo_eq h1 (by
      simp only [vKs, List.mem_cons, List.not_mem_nil, or_false] at hk
      rcases hk with rfl | rfl | rfl | rfl | rfl | rfl | rfl <;> decide)]
    exact h1
  exact v_auto h
theorem v_trT : trT 3 vEs vKs.length = [(0, 4), (0, 5), (3, 4), (3, 5), (4, 6)] := by decide

end Go.Proofs.YtkbjbijoekmooaaGreat.J

/-
  relate: the relations of the law's small grammar.
-/
namespace Go.Proofs.YtkbjbijoekmooaaGreat.J
open Go.RowKit Go.Maps Go.Shelf

def vTl : List It := [(0, 4), (0, 5), (3, 4), (3, 5), (4, 6)]
def vF (i : Nat) : Bool := decide (i = 2) || decide (i = 3)
theorem v_nul_only {s : Int} (h : Nul 6 vL vR s) : s = 5 ∨ s = 6 := by
  induction h with
  | prod k hk h ih =>
    rcases v_six hk with rfl | rfl | rfl | rfl | rfl | rfl
    · have := ih 4 (by decide); omega
    · have := ih 4 (by decide); omega
    · have := ih 1 (by decide); omega
    · exact .inl rfl
    · exact .inr rfl
    · exact .inr rfl
theorem v_nul : nulB 3 6 vL vR = vF := funext fun i => by
  have h5 : Nul 6 vL vR 5 := Nul.prod (L := vL) (R := vR) 3 (by decide) (fun x hx => absurd hx (by simp [vR]))
  have h6 : Nul 6 vL vR 6 := Nul.prod (L := vL) (R := vR) 4 (by decide) (fun x hx => absurd hx (by simp [vR]))
  rw [Bool.eq_iff_iff, nulB_iff]
  unfold vF
  simp only [Bool.or_eq_true, decide_eq_true_eq]
  constructor
  · intro h
    have := v_nul_only h
    omega
  · rintro (rfl | rfl)
    · exact h5
    · exact h6
theorem v_rd : foldQ (fun _ => []) (rdT vEs vTl 3 vF 5) 1 = [3] := by decide
theorem v_in : (foldQ (fun _ => []) (inT vEs vTl 3 vF 6 vL vR 5) 2).length = 2 := by decide
theorem v_lb : lbT vEs vTl 6 vL vR 5 = [(37, 0), (8, 0), (3, 1), (37, 2), (8, 2), (21, 3), (28, 4), (35, 4)] := by decide
def vQ : Nat → List Int := foldA [(37, 0), (8, 0), (3, 1), (37, 2), (8, 2), (21, 3), (28, 4), (35, 4)]
theorem v_bk : bkI vQ 6 7 = [(0, 3), (1, 2), (3, 3), (4, 4), (5, 5), (6, 1)] := by decide
theorem v_b5 : (vQ 37).length = 2 := by decide

end Go.Proofs.YtkbjbijoekmooaaGreat.J

/-
  relate: Reads, Includes, Lookback of any grammar.
-/
namespace Go.Proofs.YtkbjbijoekmooaaGreat.J
open Go.RowKit Go.Maps Go.Shelf

theorem calls_exU {P : Program} {f : FuncId} {args : Array Value} {w : World} {R : Ending → World → Prop} (h : Calls P f args w R) : ∃ e y, R e y := by
  obtain ⟨e, y, _, h1, _⟩ := h []
  exact ⟨e, y, h1⟩

/-- What is so of a closed grammar that has an automaton. -/
structure RelOK (n : Nat) (L : Nat → Int) (R : Nat → List Int) (st : Int) (tn nn : Nat) (ks : List (List It)) (es : List (List (Nat × Nat))) : Prop where
  may : MayOK tn nn n st L R true
  aut : AutF (GG tn n L R) n R (tn + nn) ks es
  clo : ∀ q, q < ks.length → IsClo tn n L R (ks.getD q []) (CLo tn n L R (ks.getD q [])) ∧ (CLo tn n L R (ks.getD q [])).length ≤ (ks.getD q []).length + 13000
  klen : ∀ q, q < ks.length → (ks.getD q []).length ≤ 3341001
  eok : EsOK ks es
  nodup : (trT tn es ks.length).Nodup
  rl : RlOK ks.length (trT tn es ks.length).length (tn + nn) tn nn ks es (trT tn es ks.length)
  rows : RowsOK n (trT tn es ks.length).length (tn + nn) (trT tn es ks.length) L R
  noadd : ∀ k, k < n → ∀ x ∈ R k, x ≠ (tn : Int)

section
variable (ta na la pa : Option Addr) (tc nc lc pc : Nat) (ts : List (ByteArray × Int)) (ns : List ByteArray) (lv : List Int) (n : Nat) (L : Nat → Int) (R : Nat → List Int) (ra : Nat → Option Addr) (rc : Nat → Nat) (V : Nat → Int) (st : Int) (w : World) (tn nn ln : Nat) (hlen : ts.length = tn ∧ ns.length = nn ∧ lv.length = ln) (hG : GAt w ta na la pa tc nc lc pc ts ns lv n L R ra rc V)
include hlen hG
theorem relOK (hc : closedOK ts ns lv st n L R V) {ks : List (List It)} {es : List (List (Nat × Nat))} (h : autoF (GG tn n L R) (tn + nn) 256 = some (ks, es)) : RelOK n L R st tn nn ks es := by
  have hM : MayOK tn nn n st L R true := by obtain ⟨rfl, rfl, rfl⟩ := hlen; exact mayOK_closed hc
  obtain ⟨_, hE, hnd, htl⟩ := uofOk ta na la pa tc nc lc pc ts ns lv n L R ra rc V st w tn nn ln hlen hG hc h
  have hA := autF hM.p0 h
  have hB := build_some ta na la pa tc nc lc pc ts ns lv n L R ra rc V st w tn nn ln hlen hG hc h
  have hkl : ∀ q, q < ks.length → (ks.getD q []).length ≤ 3341001 := fun q hq => (hA.kok.each q hq).len (by have := hA.kok.le; omega)
  have hCl : ∀ q, q < ks.length → IsClo tn n L R (ks.getD q []) (CLo tn n L R (ks.getD q [])) ∧ (CLo tn n L R (ks.getD q [])).length ≤ (ks.getD q []).length + 13000 := fun q hq => by
    obtain ⟨_, y, sa, sc, kv, ev, _, hAP, hg⟩ := calls_exU (hB w (grown_refl _ _))
    obtain ⟨a, c, _, hI, hn⟩ := hAP.kerAt hq
    obtain ⟨_, _, l, h1, h2, _⟩ := calls_exU (closureOk ta na la pa tc nc lc pc ts ns lv n L R ra rc V st y tn nn ln hlen (hG.kept hg) a c (ks.getD q []) hI (by have := hkl q hq; omega) hn hc (hA.kok.each q hq).1)
    rw [CLo_eq h1 h2]
    exact ⟨h1, h2⟩
  have htb : ∀ x ∈ trT tn es ks.length, ∃ q s : Nat, x = ((q : Int), (s : Int)) ∧ q < ks.length ∧ s < tn + nn := fun x hx => by
    obtain ⟨q, hq, e, he, h1, rfl⟩ := trT_mem hx
    exact ⟨q, e.1, rfl, hq, (hA.snd q hq e he).1⟩
  refine ⟨hM, hA, hCl, hkl, hE, hnd, ⟨rfl, rfl, rfl, hM.tmax, hM.nmax, hE.le, hE, fun q hq x hx => (hA.snd q hq x hx).1, htl, htb⟩, fun p hp => ⟨fun k hk e => ?_, fun x hx => ?_⟩, by rw [← hlen.1]; exact no_added hc⟩
  · have hin := getD_in (l := trT tn es ks.length) (i := k) (d := (0, 0)) hk
    obtain ⟨q, s, e1, h1, h2⟩ := htb _ hin
    rw [e1] at e hin
    simp only at e
    obtain ⟨b1, b2⟩ := tr_begun hA (fun q hq => (hCl q hq).1) hin hp e.symm
    have := row_short hM.p0 h hA hM.right (fun q hq => (hCl q hq).1) b1 hp b2
    omega
  · have := hM.right p hp x hx
    omega
theorem rel_reads (hc : closedOK ts ns lv st n L R V) {ks : List (List It)} {es : List (List (Nat × Nat))} (h : autoF (GG tn n L R) (tn + nn) 256 = some (ks, es)) (X : World) (hX : w.grownBy X none) : Calls Tryz.prog 12 #[.agg #[.slice ta tn tc, .slice na nn nc, .slice la ln lc, .int .i64 st, .slice pa n pc]] X fun e y => RelTold (trT tn es ks.length).length (foldQ (fun _ => []) (rdT es (trT tn es ks.length) tn (nulB tn n L R) (trT tn es ks.length).length)) X e y := by
  have hO := relOK ta na la pa tc nc lc pc ts ns lv n L R ra rc V st w tn nn ln hlen hG hc h
  exact ureads_ok ta na la pa tc nc lc pc n st X tn nn ln ks es (trT tn es ks.length) (nulB tn n L R) hO.rl fun Y hY => (uofOk ta na la pa tc nc lc pc ts ns lv n L R ra rc V st Y tn nn ln hlen (hG.kept (grown_trans hX hY)) hc h).1
theorem rel_includes (hc : closedOK ts ns lv st n L R V) {ks : List (List It)} {es : List (List (Nat × Nat))} (h : autoF (GG tn n L R) (tn + nn) 256 = some (ks, es)) (X : World) (hX : w.grownBy X none) : Calls Tryz.prog 13 #[.agg #[.slice ta tn tc, .slice na nn nc, .slice la ln lc, .int .i64 st, .slice pa n pc]] X fun e y => RelTold (trT tn es ks.length).length (foldQ (fun _ => []) (inT es (trT tn es ks.length) tn (nulB tn n L R) n L R (trT tn es ks.length).length)) X e y := by
  have hO := relOK ta na la pa tc nc lc pc ts ns lv n L R ra rc V st w tn nn ln hlen hG hc h
  exact uincludes_ok ta na la pa tc nc lc pc n st X tn nn ln ks es (trT tn es ks.length) (nulB tn n L R) L R ra rc V hO.rl (hG.kept hX).prods (by have := hO.may.pmax; omega) hO.rows fun Y hY => (uofOk ta na la pa tc nc lc pc ts ns lv n L R ra rc V st Y tn nn ln hlen (hG.kept (grown_trans hX hY)) hc h).1
theorem rel_lookback (hc : closedOK ts ns lv st n L R V) {ks : List (List It)} {es : List (List (Nat × Nat))} (h : autoF (GG tn n L R) (tn + nn) 256 = some (ks, es)) (X : World) (hX : w.grownBy X none) : Calls Tryz.prog 14 #[.agg #[.slice ta tn tc, .slice na nn nc, .slice la ln lc, .int .i64 st, .slice pa n pc]] X fun e y => BkTold ks.length n (foldA (lbT es (trT tn es ks.length) n L R (trT tn es ks.length).length)) X e y := by
  have hO := relOK ta na la pa tc nc lc pc ts ns lv n L R ra rc V st w tn nn ln hlen hG hc h
  exact ulookback_ok ta na la pa tc nc lc pc n st X tn nn ln ks es (trT tn es ks.length) (nulB tn n L R) L R ra rc V hO.rl (hG.kept hX).prods (by have := hO.may.pmax; omega) hO.rows fun Y hY => (uofOk ta na la pa tc nc lc pc ts ns lv n L R ra rc V st Y tn nn ln hlen (hG.kept (grown_trans hX hY)) hc h).1
/-- Where there is no automaton. -/
theorem rel_bad {err : Int} (he : (err = 1 ∧ ¬ closedOK ts ns lv st n L R V) ∨ (err = 11 ∧ closedOK ts ns lv st n L R V ∧ autoF (GG tn n L R) (tn + nn) 256 = none)) (X : World) (hX : w.grownBy X none) : (Calls Tryz.prog 12 #[.agg #[.slice ta tn tc, .slice na nn nc, .slice la ln lc, .int .i64 st, .slice pa n pc]] X fun e y => e = .returned (.tuple #[.slice none 0 0, .int .i64 err]) ∧ X.grownBy y none) ∧ (Calls Tryz.prog 13 #[.agg #[.slice ta tn tc, .slice na nn nc, .slice la ln lc, .int .i64 st, .slice pa n pc]] X fun e y => e = .returned (.tuple #[.slice none 0 0, .int .i64 err]) ∧ X.grownBy y none) ∧ (Calls Tryz.prog 14 #[.agg #[.slice ta tn tc, .slice na nn nc, .slice la ln lc, .int .i64 st, .slice pa n pc]] X fun e y => e = .returned (.tuple #[.slice none 0 0, .int .i64 err]) ∧ X.grownBy y none) := by
  have hOf : ∀ Y, X.grownBy Y none → Calls Tryz.prog 30 #[.agg #[.slice ta tn tc, .slice na nn nc, .slice la ln lc, .int .i64 st, .slice pa n pc]] Y fun e y => e = .returned (.tuple #[.agg #[.slice none 0 0, .slice none 0 0, .slice none 0 0, .int .i64 0, .slice none 0 0, .slice none 0 0, .slice none 0 0, .slice none 0 0, .slice none 0 0, .slice none 0 0], .int .i64 err]) ∧ Y.grownBy y none := fun Y hY => by
    rcases he with ⟨rfl, hc⟩ | ⟨rfl, hc, h⟩
    · exact uofBad1 ta na la pa tc nc lc pc ts ns lv n L R ra rc V st Y tn nn ln hlen (hG.kept (grown_trans hX hY)) hc
    · exact uofBad11 ta na la pa tc nc lc pc ts ns lv n L R ra rc V st Y tn nn ln hlen (hG.kept (grown_trans hX hY)) hc h
  have he' : err = 1 ∨ err = 11 := by
    rcases he with h | h
    · exact .inl h.1
    · exact .inr h.1
  exact ⟨ureads_bad ta na la pa tc nc lc pc n st X tn nn ln err he' hOf, uincludes_bad ta na la pa tc nc lc pc n st X tn nn ln err he' hOf, ulookback_bad ta na la pa tc nc lc pc n st X tn nn ln err he' hOf⟩
end

end Go.Proofs.YtkbjbijoekmooaaGreat.J

/-
  relate: the law's awake.
-/
namespace Go.Proofs.YtkbjbijoekmooaaGreat.J
open Go.RowKit Go.Maps Go.Shelf

attribute [local go_sem] Oper.semAt_some

set_option maxRecDepth 100000 in
set_option maxHeartbeats 2000000 in
theorem uawake_any (w : World) : Calls Tryz.prog 7 #[] w fun e w' => e = .returned (.bool true) ∧ w.grownBy w' none := by
  go_enter Tryz.func7, Tryz.ntmps7
  go_wp2_with fail
  refine Calls.mono (vsmall_any w) ?_
  rintro e w1 ⟨b1, b2, b7, ra, rc, rfl, hG1, hg1⟩
  have HRD : Hid (∀ X, w1.grownBy X none → Calls Tryz.prog 12 #[.agg #[.slice (some ⟨b1, 0, none⟩) 3 3, .slice (some ⟨b2, 0, none⟩) 4 4, .slice none 0 0, .int .i64 4, .slice (some ⟨b7, 0, none⟩) 6 6]] X fun e y => ∃ kb a c, e = .returned (.tuple #[.slice (some ⟨kb, 0, none⟩) 5 5, .int .i64 0]) ∧ y.cell? ⟨kb, 1, none⟩ = some (.slice (some ⟨a, 0, none⟩) 1 c) ∧ y.cell? ⟨a, 0, none⟩ = some (.int .i64 3) ∧ X.grownBy y none) := fun X hX => by
    refine (rel_reads (some ⟨b1, 0, none⟩) (some ⟨b2, 0, none⟩) none (some ⟨b7, 0, none⟩) 3 4 0 6 vTs vNs [] 6 vL vR ra rc (fun _ => 0) 4 w1 3 4 0 ⟨rfl, rfl, rfl⟩ hG1 v_closed v_ggT X hX).mono ?_
    rintro e y ⟨P, kb, bx, ua, uc, hP, rfl, hL⟩
    rw [v_trT] at hL ⊢
    rw [v_nul] at hL
    have h1 := hL.val.cell 1 (by decide)
    have h2 := hL.own 1 (by decide)
    have e1 : foldQ (fun _ => []) (rdT vEs [(0, 4), (0, 5), (3, 4), (3, 5), (4, 6)] 3 vF [((0 : Int), (4 : Int)), (0, 5), (3, 4), (3, 5), (4, 6)].length) 1 = [3] := v_rd
    rw [e1] at h1 h2
    obtain ⟨g, c, he, hc⟩ := owns_at h2 (by decide)
    simp only [Value.slice.injEq] at he
    rw [he.1] at h1
    exact ⟨kb, g, uc 1, rfl, h1, hc 0 _ rfl, grown_trans hP hL.grown⟩
  have HIN : Hid (∀ X, w1.grownBy X none → Calls Tryz.prog 13 #[.agg #[.slice (some ⟨b1, 0, none⟩) 3 3, .slice (some ⟨b2, 0, none⟩) 4 4, .slice none 0 0, .int .i64 4, .slice (some ⟨b7, 0, none⟩) 6 6]] X fun e y => ∃ kb a c, e = .returned (.tuple #[.slice (some ⟨kb, 0, none⟩) 5 5, .int .i64 0]) ∧ y.cell? ⟨kb, 2, none⟩ = some (.slice a 2 c) ∧ X.grownBy y none) := fun X hX => by
    refine (rel_includes (some ⟨b1, 0, none⟩) (some ⟨b2, 0, none⟩) none (some ⟨b7, 0, none⟩) 3 4 0 6 vTs vNs [] 6 vL vR ra rc (fun _ => 0) 4 w1 3 4 0 ⟨rfl, rfl, rfl⟩ hG1 v_closed v_ggT X hX).mono ?_
    rintro e y ⟨P, kb, bx, ua, uc, hP, rfl, hL⟩
    rw [v_trT] at hL ⊢
    rw [v_nul] at hL
    have h1 := hL.val.cell 2 (by decide)
    have e1 : (foldQ (fun _ => []) (inT vEs [(0, 4), (0, 5), (3, 4), (3, 5), (4, 6)] 3 vF 6 vL vR [((0 : Int), (4 : Int)), (0, 5), (3, 4), (3, 5), (4, 6)].length) 2).length = 2 := v_in
    rw [e1] at h1
    exact ⟨kb, ua 2, uc 2, rfl, h1, grown_trans hP hL.grown⟩
  have HLB : Hid (∀ X, w1.grownBy X none → Calls Tryz.prog 14 #[.agg #[.slice (some ⟨b1, 0, none⟩) 3 3, .slice (some ⟨b2, 0, none⟩) 4 4, .slice none 0 0, .int .i64 4, .slice (some ⟨b7, 0, none⟩) 6 6]] X fun e y => ∃ g a c c', e = .returned (.tuple #[.slice (some ⟨g, 0, none⟩) 6 c', .int .i64 0]) ∧ y.cell? ⟨g, 17, none⟩ = some (.slice a 2 c) ∧ X.grownBy y none) := fun X hX => by
    refine (rel_lookback (some ⟨b1, 0, none⟩) (some ⟨b2, 0, none⟩) none (some ⟨b7, 0, none⟩) 3 4 0 6 vTs vNs [] 6 vL vR ra rc (fun _ => 0) 4 w1 3 4 0 ⟨rfl, rfl, rfl⟩ hG1 v_closed v_ggT X hX).mono ?_
    rintro e y ⟨P, a, c, bx, kb, rb, ua, uc, hP, rfl, hL, ho⟩
    rw [v_trT] at hL ho ⊢
    have e0 : lbT vEs [(0, 4), (0, 5), (3, 4), (3, 5), (4, 6)] 6 vL vR [((0 : Int), (4 : Int)), (0, 5), (3, 4), (3, 5), (4, 6)].length = [(37, 0), (8, 0), (3, 1), (37, 2), (8, 2), (21, 3), (28, 4), (35, 4)] := v_lb
    rw [e0] at hL ho ⊢
    have e1 : bkI (foldA [(37, 0), (8, 0), (3, 1), (37, 2), (8, 2), (21, 3), (28, 4), (35, 4)]) 6 vKs.length = [(0, 3), (1, 2), (3, 3), (4, 4), (5, 5), (6, 1)] := v_bk
    rw [e1] at ho ⊢
    obtain ⟨g, c2, he, hc⟩ := owns_at ho (by decide)
    simp only [Value.slice.injEq] at he
    obtain ⟨rfl, _, rfl⟩ := he
    have h1 := hc 17 _ rfl
    have e2 : (foldA [(37, 0), (8, 0), (3, 1), (37, 2), (8, 2), (21, 3), (28, 4), (35, 4)] (6 * 6 + 1)).length = 2 := v_b5
    rw [e2] at h1
    exact ⟨g, _, _, c, rfl, h1, grown_trans hP hL.grown⟩
  obtain ⟨gb, hgb⟩ : ∃ gb, gb = w1.heap.size := ⟨_, rfl⟩
  obtain ⟨X1, hX1⟩ : ∃ X1, X1 = w1.alloc (.cells #[.slice (some ⟨b1, 0, none⟩) 3 3, .slice (some ⟨b2, 0, none⟩) 4 4, .slice none 0 0, .int .i64 4, .slice (some ⟨b7, 0, none⟩) 6 6] 27) := ⟨_, rfl⟩
  have HP1 : Hid (PhAt w1 X1 gb #[.slice (some ⟨b1, 0, none⟩) 3 3, .slice (some ⟨b2, 0, none⟩) 4 4, .slice none 0 0, .int .i64 4, .slice (some ⟨b7, 0, none⟩) 6 6]) := ⟨by rw [hX1]; exact World.grownBy_alloc _ _ none, by rw [hX1, hgb]; exact heap_alloc_last w1 _⟩
  have HGW : Hid (w.grownBy w1 none) := hg1
  have HXE := show Hid _ from hX1
  have HGE := show Hid _ from hgb
  clear hG1 hg1 hX1 hgb
  go_wp2_with fail
  rw [← HXE.out, ← HGE.out]
  refine Calls.mono (HRD.out X1 HP1.out.grown) ?_
  rintro e w2 ⟨k2, g2, c2, rfl, r0, r1, hg2⟩
  have HP2 : Hid (PhAt w1 w2 gb #[.slice (some ⟨b1, 0, none⟩) 3 3, .slice (some ⟨b2, 0, none⟩) 4 4, .slice none 0 0, .int .i64 4, .slice (some ⟨b7, 0, none⟩) 6 6]) := HP1.out.kept hg2
  clear hg2 HP1 HXE HGE HRD
  obtain ⟨k0, k1, k2', k3, k4⟩ := HP2.out.cells
  go_wp2_with fail
  refine Calls.mono (HIN.out w2 HP2.out.grown) ?_
  rintro e w3 ⟨kc, a3, c3, rfl, y0, hg3⟩
  have HP3 : Hid (PhAt w1 w3 gb #[.slice (some ⟨b1, 0, none⟩) 3 3, .slice (some ⟨b2, 0, none⟩) 4 4, .slice none 0 0, .int .i64 4, .slice (some ⟨b7, 0, none⟩) 6 6]) := HP2.out.kept hg3
  have q0 := hg3.cell r0 (by simp)
  have q1 := hg3.cell r1 (by simp)
  clear hg3 HP2 HIN k0 k1 k2' k3 k4 r0 r1
  obtain ⟨k0, k1, k2', k3, k4⟩ := HP3.out.cells
  go_wp2_with fail
  refine Calls.mono (HLB.out w3 HP3.out.grown) ?_
  rintro e w4 ⟨g4, a4, c4, c5, rfl, z0, hg4⟩
  have s0 := hg4.cell q0 (by simp)
  have s1 := hg4.cell q1 (by simp)
  have s2 := hg4.cell y0 (by simp)
  have HG4 : Hid (w.grownBy w4 none) := grown_trans HGW.out (grown_trans HP3.out.grown hg4)
  clear hg4 HP3 HLB k0 k1 k2' k3 k4 q0 q1 y0 HGW
  go_wp2_with fail
  go_ret
  exact ⟨rfl, HG4.out⟩

end Go.Proofs.YtkbjbijoekmooaaGreat.J

/-
  relate: the law's asked.
-/
namespace Go.Proofs.YtkbjbijoekmooaaGreat.J
open Go.RowKit Go.Maps Go.Shelf

attribute [local go_sem] Oper.semAt_some

section
variable (ta na la pa : Option Addr) (tc nc lc pc : Nat) (n : Nat) (st : Int) (w : World) (tn nn ln : Nat)

set_option maxRecDepth 100000 in
set_option maxHeartbeats 1000000 in
theorem uasked_bad1 (hBU : ∀ X, w.grownBy X none → Calls Tryz.prog 22 #[.agg #[.slice ta tn tc, .slice na nn nc, .slice la ln lc, .int .i64 st, .slice pa n pc]] X fun e y => e = .returned (.tuple #[.agg #[.slice none 0 0, .int .i64 0, .int .i64 0], .int .i64 1]) ∧ X.grownBy y none)
    (hLI : ∀ X, w.grownBy X none → Calls Tryz.prog 36 #[.agg #[.slice ta tn tc, .slice na nn nc, .slice la ln lc, .int .i64 st, .slice pa n pc]] X fun e y => e = .returned (.tuple #[.slice none 0 0, .int .i64 1]) ∧ X.grownBy y none)
    (hRE : ∀ X, w.grownBy X none → (Calls Tryz.prog 12 #[.agg #[.slice ta tn tc, .slice na nn nc, .slice la ln lc, .int .i64 st, .slice pa n pc]] X fun e y => e = .returned (.tuple #[.slice none 0 0, .int .i64 1]) ∧ X.grownBy y none) ∧ (Calls Tryz.prog 13 #[.agg #[.slice ta tn tc, .slice na nn nc, .slice la ln lc, .int .i64 st, .slice pa n pc]] X fun e y => e = .returned (.tuple #[.slice none 0 0, .int .i64 1]) ∧ X.grownBy y none) ∧ (Calls Tryz.prog 14 #[.agg #[.slice ta tn tc, .slice na nn nc, .slice la ln lc, .int .i64 st, .slice pa n pc]] X fun e y => e = .returned (.tuple #[.slice none 0 0, .int .i64 1]) ∧ X.grownBy y none))
    (hCL : ∀ X, w.grownBy X none → Calls Tryz.prog 37 #[.agg #[.slice ta tn tc, .slice na nn nc, .slice la ln lc, .int .i64 st, .slice pa n pc]] X fun e y => e = .returned (.bool false) ∧ X.grownBy y none) :
    Calls Tryz.prog 18 #[.agg #[.slice ta tn tc, .slice na nn nc, .slice la ln lc, .int .i64 st, .slice pa n pc]] w fun e y => e = .returned (.tuple #[.pointer none, .bool true]) ∧ w.grownBy y none := by
  have HBU := show Hid _ from hBU
  have HLI := show Hid _ from hLI
  have HRE := show Hid _ from hRE
  have HCL := show Hid _ from hCL
  have HP0 : Hid (PhAt w (w.alloc (.cells #[.slice ta tn tc, .slice na nn nc, .slice la ln lc, .int .i64 st, .slice pa n pc] 27)) w.heap.size #[.slice ta tn tc, .slice na nn nc, .slice la ln lc, .int .i64 st, .slice pa n pc]) := ⟨World.grownBy_alloc _ _ none, heap_alloc_last w _⟩
  clear hBU hLI hRE hCL
  go_enter Tryz.func18, Tryz.ntmps18
  go_wp2_with fail
  refine Calls.mono (HBU.out _ HP0.out.grown) ?_
  rintro e w1 ⟨rfl, hg1⟩
  have HP1 : Hid (PhAt w (w1.alloc (.cells #[.slice none 0 0, .int .i64 0, .int .i64 0] 59)) w.heap.size #[.slice ta tn tc, .slice na nn nc, .slice la ln lc, .int .i64 st, .slice pa n pc]) := HP0.out.kept (grown_trans hg1 (World.grownBy_alloc _ _ none))
  clear hg1 HP0
  obtain ⟨k0, k1, k2, k3, k4⟩ := HP1.out.cells
  go_wp2_with fail
  refine Calls.mono (HLI.out _ HP1.out.grown) ?_
  rintro e w2 ⟨rfl, hg2⟩
  have HP2 : Hid (PhAt w w2 w.heap.size #[.slice ta tn tc, .slice na nn nc, .slice la ln lc, .int .i64 st, .slice pa n pc]) := HP1.out.kept hg2
  clear hg2 HP1 k0 k1 k2 k3 k4
  obtain ⟨k0, k1, k2, k3, k4⟩ := HP2.out.cells
  go_wp2_with fail
  refine Calls.mono (HRE.out _ HP2.out.grown).1 ?_
  rintro e w3 ⟨rfl, hg3⟩
  have HP3 : Hid (PhAt w w3 w.heap.size #[.slice ta tn tc, .slice na nn nc, .slice la ln lc, .int .i64 st, .slice pa n pc]) := HP2.out.kept hg3
  clear hg3 HP2 k0 k1 k2 k3 k4
  obtain ⟨k0, k1, k2, k3, k4⟩ := HP3.out.cells
  go_wp2_with fail
  refine Calls.mono (HRE.out _ HP3.out.grown).2.1 ?_
  rintro e w4 ⟨rfl, hg4⟩
  have HP4 : Hid (PhAt w w4 w.heap.size #[.slice ta tn tc, .slice na nn nc, .slice la ln lc, .int .i64 st, .slice pa n pc]) := HP3.out.kept hg4
  clear hg4 HP3 k0 k1 k2 k3 k4
  obtain ⟨k0, k1, k2, k3, k4⟩ := HP4.out.cells
  go_wp2_with fail
  refine Calls.mono (HRE.out _ HP4.out.grown).2.2 ?_
  rintro e w5 ⟨rfl, hg5⟩
  have HP5 : Hid (PhAt w w5 w.heap.size #[.slice ta tn tc, .slice na nn nc, .slice la ln lc, .int .i64 st, .slice pa n pc]) := HP4.out.kept hg5
  clear hg5 HP4 k0 k1 k2 k3 k4
  obtain ⟨k0, k1, k2, k3, k4⟩ := HP5.out.cells
  go_wp2_with fail
  refine Calls.mono (HCL.out _ HP5.out.grown) ?_
  rintro e w6 ⟨rfl, hg6⟩
  have HG6 : Hid (w.grownBy w6 none) := grown_trans HP5.out.grown hg6
  clear hg6 HP5 k0 k1 k2 k3 k4
  go_wp2_with fail
  go_ret2
  exact ⟨rfl, HG6.out⟩

set_option maxRecDepth 100000 in
set_option maxHeartbeats 1000000 in
theorem uasked_bad11 (hBU : ∀ X, w.grownBy X none → Calls Tryz.prog 22 #[.agg #[.slice ta tn tc, .slice na nn nc, .slice la ln lc, .int .i64 st, .slice pa n pc]] X fun e y => e = .returned (.tuple #[.agg #[.slice none 0 0, .int .i64 0, .int .i64 0], .int .i64 11]) ∧ X.grownBy y none)
    (hLI : ∀ X, w.grownBy X none → Calls Tryz.prog 36 #[.agg #[.slice ta tn tc, .slice na nn nc, .slice la ln lc, .int .i64 st, .slice pa n pc]] X fun e y => e = .returned (.tuple #[.slice none 0 0, .int .i64 11]) ∧ X.grownBy y none)
    (hRE : ∀ X, w.grownBy X none → (Calls Tryz.prog 12 #[.agg #[.slice ta tn tc, .slice na nn nc, .slice la ln lc, .int .i64 st, .slice pa n pc]] X fun e y => e = .returned (.tuple #[.slice none 0 0, .int .i64 11]) ∧ X.grownBy y none) ∧ (Calls Tryz.prog 13 #[.agg #[.slice ta tn tc, .slice na nn nc, .slice la ln lc, .int .i64 st, .slice pa n pc]] X fun e y => e = .returned (.tuple #[.slice none 0 0, .int .i64 11]) ∧ X.grownBy y none) ∧ (Calls Tryz.prog 14 #[.agg #[.slice ta tn tc, .slice na nn nc, .slice la ln lc, .int .i64 st, .slice pa n pc]] X fun e y => e = .returned (.tuple #[.slice none 0 0, .int .i64 11]) ∧ X.grownBy y none))
    (hCL : ∀ X, w.grownBy X none → Calls Tryz.prog 37 #[.agg #[.slice ta tn tc, .slice na nn nc, .slice la ln lc, .int .i64 st, .slice pa n pc]] X fun e y => e = .returned (.bool true) ∧ X.grownBy y none) :
    Calls Tryz.prog 18 #[.agg #[.slice ta tn tc, .slice na nn nc, .slice la ln lc, .int .i64 st, .slice pa n pc]] w fun e y => e = .returned (.tuple #[.pointer none, .bool true]) ∧ w.grownBy y none := by
  have HBU := show Hid _ from hBU
  have HLI := show Hid _ from hLI
  have HRE := show Hid _ from hRE
  have HCL := show Hid _ from hCL
  have HP0 : Hid (PhAt w (w.alloc (.cells #[.slice ta tn tc, .slice na nn nc, .slice la ln lc, .int .i64 st, .slice pa n pc] 27)) w.heap.size #[.slice ta tn tc, .slice na nn nc, .slice la ln lc, .int .i64 st, .slice pa n pc]) := ⟨World.grownBy_alloc _ _ none, heap_alloc_last w _⟩
  clear hBU hLI hRE hCL
  go_enter Tryz.func18, Tryz.ntmps18
  go_wp2_with fail
  refine Calls.mono (HBU.out _ HP0.out.grown) ?_
  rintro e w1 ⟨rfl, hg1⟩
  have HP1 : Hid (PhAt w (w1.alloc (.cells #[.slice none 0 0, .int .i64 0, .int .i64 0] 59)) w.heap.size #[.slice ta tn tc, .slice na nn nc, .slice la ln lc, .int .i64 st, .slice pa n pc]) := HP0.out.kept (grown_trans hg1 (World.grownBy_alloc _ _ none))
  clear hg1 HP0
  obtain ⟨k0, k1, k2, k3, k4⟩ := HP1.out.cells
  go_wp2_with fail
  refine Calls.mono (HLI.out _ HP1.out.grown) ?_
  rintro e w2 ⟨rfl, hg2⟩
  have HP2 : Hid (PhAt w w2 w.heap.size #[.slice ta tn tc, .slice na nn nc, .slice la ln lc, .int .i64 st, .slice pa n pc]) := HP1.out.kept hg2
  clear hg2 HP1 k0 k1 k2 k3 k4
  obtain ⟨k0, k1, k2, k3, k4⟩ := HP2.out.cells
  go_wp2_with fail
  refine Calls.mono (HRE.out _ HP2.out.grown).1 ?_
  rintro e w3 ⟨rfl, hg3⟩
  have HP3 : Hid (PhAt w w3 w.heap.size #[.slice ta tn tc, .slice na nn nc, .slice la ln lc, .int .i64 st, .slice pa n pc]) := HP2.out.kept hg3
  clear hg3 HP2 k0 k1 k2 k3 k4
  obtain ⟨k0, k1, k2, k3, k4⟩ := HP3.out.cells
  go_wp2_with fail
  refine Calls.mono (HRE.out _ HP3.out.grown).2.1 ?_
  rintro e w4 ⟨rfl, hg4⟩
  have HP4 : Hid (PhAt w w4 w.heap.size #[.slice ta tn tc, .slice na nn nc, .slice la ln lc, .int .i64 st, .slice pa n pc]) := HP3.out.kept hg4
  clear hg4 HP3 k0 k1 k2 k3 k4
  obtain ⟨k0, k1, k2, k3, k4⟩ := HP4.out.cells
  go_wp2_with fail
  refine Calls.mono (HRE.out _ HP4.out.grown).2.2 ?_
  rintro e w5 ⟨rfl, hg5⟩
  have HP5 : Hid (PhAt w w5 w.heap.size #[.slice ta tn tc, .slice na nn nc, .slice la ln lc, .int .i64 st, .slice pa n pc]) := HP4.out.kept hg5
  clear hg5 HP4 k0 k1 k2 k3 k4
  obtain ⟨k0, k1, k2, k3, k4⟩ := HP5.out.cells
  go_wp2_with fail
  refine Calls.mono (HCL.out _ HP5.out.grown) ?_
  rintro e w6 ⟨rfl, hg6⟩
  have HG6 : Hid (w.grownBy w6 none) := grown_trans HP5.out.grown hg6
  clear hg6 HP5 k0 k1 k2 k3 k4
  go_wp2_with fail
  go_ret2
  exact ⟨rfl, HG6.out⟩

/-- What asked tells. -/
def UAskTold (ta na la pa : Option Addr) (tc nc lc pc : Nat) (n : Nat) (st : Int) (tn nn ln : Nat) (tl : List It) (F : Nat → Bool) (w : World) (e : Ending) (y : World) : Prop := ∃ wb a c nb, e = .returned (.tuple #[.pointer (some ⟨wb, 0, none⟩), .bool true]) ∧ y.heap[wb]? = some (.cells #[.slice ta tn tc, .slice na nn nc, .slice la ln lc, .int .i64 st, .slice pa n pc, .slice a tl.length c, .slice (some ⟨nb, 0, none⟩) nn nn] 49 (0, 0)) ∧ y.ownsRow w.heap.size 53 2 (.slice a tl.length c) tl.length (itsV tl) ∧ ValAt y nb nn 4 (fun i => .bool (F i)) ∧ w.grownBy y none

set_option maxRecDepth 100000 in
set_option maxHeartbeats 1000000 in
theorem uasked_ok (ks : List (List It)) (es : List (List (Nat × Nat))) (tl : List It) (F : Nat → Bool) (N T : Nat) (Q1 Q2 Q3 : Nat → List Int)
    (hBU : ∀ X, w.grownBy X none → Calls Tryz.prog 22 #[.agg #[.slice ta tn tc, .slice na nn nc, .slice la ln lc, .int .i64 st, .slice pa n pc]] X fun e y => ∃ sa sc kv ev, e = .returned (.tuple #[.agg #[.slice sa ks.length sc, .int .i64 (askN es : Int), .int .i64 (ks.length : Int)], .int .i64 0]) ∧ AutP X.heap.size y (.slice sa ks.length sc) ks (elF es) kv ev ∧ X.grownBy y none)
    (hLI : ∀ X, w.grownBy X none → Calls Tryz.prog 36 #[.agg #[.slice ta tn tc, .slice na nn nc, .slice la ln lc, .int .i64 st, .slice pa n pc]] X fun e y => TrErr tl X e y)
    (hRD : ∀ X, w.grownBy X none → Calls Tryz.prog 12 #[.agg #[.slice ta tn tc, .slice na nn nc, .slice la ln lc, .int .i64 st, .slice pa n pc]] X fun e y => RelTold T Q1 X e y)
    (hIN : ∀ X, w.grownBy X none → Calls Tryz.prog 13 #[.agg #[.slice ta tn tc, .slice na nn nc, .slice la ln lc, .int .i64 st, .slice pa n pc]] X fun e y => RelTold T Q2 X e y)
    (hLB : ∀ X, w.grownBy X none → Calls Tryz.prog 14 #[.agg #[.slice ta tn tc, .slice na nn nc, .slice la ln lc, .int .i64 st, .slice pa n pc]] X fun e y => BkTold N n Q3 X e y)
    (hCL : ∀ X, w.grownBy X none → Calls Tryz.prog 37 #[.agg #[.slice ta tn tc, .slice na nn nc, .slice la ln lc, .int .i64 st, .slice pa n pc]] X fun e y => e = .returned (.bool true) ∧ X.grownBy y none)
    (hNU : ∀ X, w.grownBy X none → Calls Tryz.prog 38 #[.agg #[.slice ta tn tc, .slice na nn nc, .slice la ln lc, .int .i64 st, .slice pa n pc]] X fun e y => ∃ k, e = .returned (.tuple #[.slice (some ⟨k, 0, none⟩) nn nn, .int .i64 0]) ∧ X.heap.size ≤ k ∧ ValAt y k nn 4 (fun i => .bool (F i)) ∧ X.grownBy y none) :
    Calls Tryz.prog 18 #[.agg #[.slice ta tn tc, .slice na nn nc, .slice la ln lc, .int .i64 st, .slice pa n pc]] w fun e y => UAskTold ta na la pa tc nc lc pc n st tn nn ln tl F w e y := by
  have HBU := show Hid _ from hBU
  have HLI := show Hid _ from hLI
  have HRD := show Hid _ from hRD
  have HIN := show Hid _ from hIN
  have HLB := show Hid _ from hLB
  have HCL := show Hid _ from hCL
  have HNU := show Hid _ from hNU
  have HP0 : Hid (PhAt w (w.alloc (.cells #[.slice ta tn tc, .slice na nn nc, .slice la ln lc, .int .i64 st, .slice pa n pc] 27)) w.heap.size #[.slice ta tn tc, .slice na nn nc, .slice la ln lc, .int .i64 st, .slice pa n pc]) := ⟨World.grownBy_alloc _ _ none, heap_alloc_last w _⟩
  clear hBU hLI hRD hIN hLB hCL hNU
  go_enter Tryz.func18, Tryz.ntmps18
  go_wp2_with fail
  refine Calls.mono (HBU.out _ HP0.out.grown) ?_
  rintro e w1 ⟨sa, sc, kv, ev, rfl, _, hg1⟩
  have HP1 : Hid (PhAt w (w1.alloc (.cells #[.slice sa ks.length sc, .int .i64 (askN es : Int), .int .i64 (ks.length : Int)] 59)) w.heap.size #[.slice ta tn tc, .slice na nn nc, .slice la ln lc, .int .i64 st, .slice pa n pc]) := HP0.out.kept (grown_trans hg1 (World.grownBy_alloc _ _ none))
  clear hg1 HP0
  obtain ⟨k0, k1, k2, k3, k4⟩ := HP1.out.cells
  go_wp2_with fail
  refine Calls.mono (HLI.out _ HP1.out.grown) ?_
  rintro e w2 ⟨a, c, rfl, ho2, hg2⟩
  have HP2 : Hid (PhAt w w2 w.heap.size #[.slice ta tn tc, .slice na nn nc, .slice la ln lc, .int .i64 st, .slice pa n pc]) := HP1.out.kept hg2
  have HO2 : Hid (w2.ownsRow w.heap.size 53 2 (.slice a tl.length c) tl.length (itsV tl)) := owns_base ho2 HP1.out.grown.size
  clear hg2 ho2 HP1 k0 k1 k2 k3 k4
  obtain ⟨k0, k1, k2, k3, k4⟩ := HP2.out.cells
  go_wp2_with fail
  refine Calls.mono (HRD.out _ HP2.out.grown) ?_
  rintro e w3 ⟨P3, kb3, bx3, ua3, uc3, hp3, rfl, hl3⟩
  have hg3 := grown_trans hp3 hl3.grown
  have HP3 : Hid (PhAt w w3 w.heap.size #[.slice ta tn tc, .slice na nn nc, .slice la ln lc, .int .i64 st, .slice pa n pc]) := HP2.out.kept hg3
  have HO3 := show Hid _ from keep0 HO2.out hg3
  clear hg3 hp3 hl3 HP2 HO2 k0 k1 k2 k3 k4
  obtain ⟨k0, k1, k2, k3, k4⟩ := HP3.out.cells
  go_wp2_with fail
  refine Calls.mono (HIN.out _ HP3.out.grown) ?_
  rintro e w4 ⟨P4, kb4, bx4, ua4, uc4, hp4, rfl, hl4⟩
  have hg4 := grown_trans hp4 hl4.grown
  have HP4 : Hid (PhAt w w4 w.heap.size #[.slice ta tn tc, .slice na nn nc, .slice la ln lc, .int .i64 st, .slice pa n pc]) := HP3.out.kept hg4
  have HO4 := show Hid _ from keep0 HO3.out hg4
  clear hg4 hp4 hl4 HP3 HO3 k0 k1 k2 k3 k4
  obtain ⟨k0, k1, k2, k3, k4⟩ := HP4.out.cells
  go_wp2_with fail
  refine Calls.mono (HLB.out _ HP4.out.grown) ?_
  rintro e w5 ⟨P5, a5, c5, bx5, kb5, rb5, ua5, uc5, hp5, rfl, hl5, _⟩
  have hg5 := grown_trans hp5 hl5.grown
  have HP5 : Hid (PhAt w w5 w.heap.size #[.slice ta tn tc, .slice na nn nc, .slice la ln lc, .int .i64 st, .slice pa n pc]) := HP4.out.kept hg5
  have HO5 := show Hid _ from keep0 HO4.out hg5
  clear hg5 hp5 hl5 HP4 HO4 k0 k1 k2 k3 k4
  obtain ⟨k0, k1, k2, k3, k4⟩ := HP5.out.cells
  go_wp2_with fail
  refine Calls.mono (HCL.out _ HP5.out.grown) ?_
  rintro e w6 ⟨rfl, hg6⟩
  have HP6 : Hid (PhAt w w6 w.heap.size #[.slice ta tn tc, .slice na nn nc, .slice la ln lc, .int .i64 st, .slice pa n pc]) := HP5.out.kept hg6
  have HO6 := show Hid _ from keep0 HO5.out hg6
  clear hg6 HP5 HO5 k0 k1 k2 k3 k4
  obtain ⟨k0, k1, k2, k3, k4⟩ := HP6.out.cells
  go_wp2_with fail
  refine Calls.mono (HNU.out _ HP6.out.grown) ?_
  rintro e w7 ⟨nb, rfl, _, hv7, hg7⟩
  have HP7 : Hid (PhAt w w7 w.heap.size #[.slice ta tn tc, .slice na nn nc, .slice la ln lc, .int .i64 st, .slice pa n pc]) := HP6.out.kept hg7
  have HO7 := show Hid _ from keep0 HO6.out hg7
  have HV7 : Hid (ValAt w7 nb nn 4 (fun i => .bool (F i))) := hv7
  clear hg7 hv7 HP6 HO6 k0 k1 k2 k3 k4
  obtain ⟨k0, k1, k2, k3, k4⟩ := HP7.out.cells
  have hnn : (nn != nn) = false := bne_self_eq_false _
  have hnn2 : ((nn : Int) != (nn : Int)) = false := bne_self_eq_false _
  have hbd : ∀ u, (Instr.build 49 #[(0, .agg #[.slice ta tn tc, .slice na nn nc, .slice la ln lc, .int .i64 st, .slice pa n pc]), (1, .slice a tl.length c), (2, .slice (some ⟨nb, 0, none⟩) nn nn)]).run Tryz.prog u = .ok (.agg #[.slice ta tn tc, .slice na nn nc, .slice la ln lc, .int .i64 st, .slice pa n pc, .slice a tl.length c, .slice (some ⟨nb, 0, none⟩) nn nn]) u := fun u => run_build u _ _ _ (by kernel_rfl)
  have HFIN : Hid (UAskTold ta na la pa tc nc lc pc n st tn nn ln tl F w (.returned (.tuple #[.pointer (some ⟨w7.heap.size, 0, none⟩), .bool true])) (w7.alloc (.cells #[.slice ta tn tc, .slice na nn nc, .slice la ln lc, .int .i64 st, .slice pa n pc, .slice a tl.length c, .slice (some ⟨nb, 0, none⟩) nn nn] 49))) :=
    ⟨_, a, c, nb, rfl, heap_alloc_last w7 _, keep0 HO7.out (World.grownBy_alloc _ _ none), HV7.out.kept (World.grownBy_alloc _ _ none), grown_trans HP7.out.grown (World.grownBy_alloc _ _ none)⟩
  clear HP7 HO7 HV7
  go_wp2_with fail
  go_ret2
  exact HFIN.out
end

end Go.Proofs.YtkbjbijoekmooaaGreat.J

/-
  relate: the law's has.
-/
namespace Go.Proofs.YtkbjbijoekmooaaGreat.J
open Go.RowKit Go.Maps Go.Shelf

attribute [local go_sem] Oper.semAt_some

set_option maxRecDepth 100000 in
set_option maxHeartbeats 1000000 in
theorem uhas_any (w : World) (a : Option Addr) (c : Nat) (l : List Int) (hI : IntsAt w a l) (hl : l.length ≤ 1000000) (z : Int) (r : Bool) (hr : r = decide (z ∈ l)) : Calls Tryz.prog 20 #[.slice a l.length c, .int .i64 z] w fun e w' => e = .returned (.bool r) ∧ w' = w := by
  have HI := show Hid _ from hI
  have HR := show Hid _ from hr
  obtain ⟨m, hm⟩ : ∃ m, m = l.length := ⟨_, rfl⟩
  have HM := show Hid _ from hm
  rw [← hm] at hl ⊢
  clear hI hr hm
  go_enter Tryz.func20, Tryz.ntmps20
  go_wp2_with fail
  go_loopg [5] m (fun gk v5 wr => ∃ (j : Nat), j ≤ m ∧ gk = m - j ∧ v5 = .int .i64 j ∧ wr = w ∧ ∀ x ∈ l.take j, x ≠ z)
  case atStart => exact ⟨0, Nat.zero_le _, rfl, rfl, rfl, fun x hx => by simp at hx⟩
  case round =>
    obtain ⟨j, hj, hgj, rfl, rfl, hno⟩ := hrel
    have HGJ : Hid (gk = m - j) := hgj
    have HNO := show Hid _ from hno
    clear hgj hno
    by_cases hlt : j < m
    · have hjd : decide (j < m) = true := decide_eq_true hlt
      have hj0 : (0 : Int) ≤ (j : Int) := by omega
      have hj1 : (j : Int) < (m : Int) := by omega
      have hjl : j < l.length := by rw [← HM.out]; exact hlt
      obtain ⟨x, hx⟩ : ∃ x, x = l.getD j 0 := ⟨_, rfl⟩
      obtain ⟨b, o, rfl, r0⟩ : ∃ b o, a = some ⟨b, o, none⟩ ∧ wr.cell? ⟨b, o + j, none⟩ = some (.int .i64 x) := by
        rcases HI.out with h | ⟨b, o, e, h⟩
        · rw [h] at hjl; exact absurd hjl (by simp)
        · exact ⟨b, o, e, by rw [hx]; exact h j hjl⟩
      have hjw : IntKind.i64.wrap ((j : Int) + 1) = (j : Int) + 1 := by rw [IntKind.wrap_i64]; omega
      by_cases e : x = z
      · have hxz : (x == z) = true := by rw [e]; exact beq_self_eq_true _
        have HRT : Hid (r = true) := by
          show _ = _
          rw [HR.out]
          refine decide_eq_true ?_
          rw [← e, hx]
          exact getD_in hjl
        clear hx e
        go_wp2_with fail
        go_ret
        exact ⟨by rw [HRT.out]; rfl, rfl⟩
      · have hxz : (x == z) = false := beq_eq_false_iff_ne.2 e
        have HN2 : Hid (∀ y ∈ l.take (j + 1), y ≠ z) := fun y hy => by
          rw [List.take_succ_eq_append_getElem hjl] at hy
          rcases List.mem_append.1 hy with h | h
          · exact HNO.out y h
          · rw [List.mem_singleton.1 h]
            rw [hx, List.getD_eq_getElem?_getD, List.getElem?_eq_getElem hjl] at e
            exact e
        clear hx e
        go_wp2_with fail
        go_roundg (m - (j + 1))
        all_goals first
          | exact (show ∃ (j' : Nat), _ from ⟨j + 1, by omega, rfl, by go_num, rfl, HN2.out⟩)
          | (have := HGJ.out; omega)
    · have hjm : m = j := by omega
      have hjd : decide (j < m) = false := decide_eq_false hlt
      have HRF : Hid (r = false) := by
        show _ = _
        rw [HR.out]
        refine decide_eq_false fun h => HNO.out z ?_ rfl
        rw [← hjm, HM.out, List.take_length]
        exact h
      clear hjm
      go_wp2_with fail
      go_ret
      exact ⟨by rw [HRF.out]; rfl, rfl⟩

end Go.Proofs.YtkbjbijoekmooaaGreat.J

/-
  relate: the law RelateReads, walked.
-/
namespace Go.Proofs.YtkbjbijoekmooaaGreat.J
open Go.RowKit Go.Maps Go.Shelf

attribute [local go_sem] Oper.semAt_some

/-- What the laws that ask without the document's answer hold in memory. -/
structure LwP (w X : World) (gv wv : Array Value) (wb nb nn T kb : Nat) (a : Option Addr) (c : Nat) (tl : List It) (F : Nat → Bool) (Q : Nat → List Int) (ua : Nat → Option Addr) (uc : Nat → Nat) : Prop where
  ph : PhAt w X w.heap.size gv
  wbox : X.heap[wb]? = some (.cells wv 49 (0, 0))
  trs : X.ownsRow w.heap.size 53 2 (.slice a T c) T (itsV tl)
  nul : ValAt X nb nn 4 (fun i => .bool (F i))
  val : ValAt X kb T 24 (fun k => .slice (ua k) (Q k).length (uc k))
  ints : ∀ k, k < T → IntsAt X (ua k) (Q k)
theorem LwP.kept {w X Y : World} {gv wv : Array Value} {wb nb nn T kb : Nat} {a : Option Addr} {c : Nat} {tl : List It} {F : Nat → Bool} {Q : Nat → List Int} {ua : Nat → Option Addr} {uc : Nat → Nat} (h : LwP w X gv wv wb nb nn T kb a c tl F Q ua uc) (hg : X.grownBy Y none) : LwP w Y gv wv wb nb nn T kb a c tl F Q ua uc :=
  ⟨h.ph.kept hg, box_kept h.wbox hg, keep0 h.trs hg, h.nul.kept hg, h.val.kept hg, fun k hk => (h.ints k hk).kept hg⟩
theorem LwP.tr {w X : World} {gv wv : Array Value} {wb nb nn T kb : Nat} {a : Option Addr} {c : Nat} {tl : List It} {F : Nat → Bool} {Q : Nat → List Int} {ua : Nat → Option Addr} {uc : Nat → Nat} (h : LwP w X gv wv wb nb nn T kb a c tl F Q ua uc) (hT : T = tl.length) {j q s : Nat} (hj : j < T) (e : tl.getD j (0, 0) = ((q : Int), (s : Int))) : ∃ xg, a = some ⟨xg, 0, none⟩ ∧ X.cell? ⟨xg, j * 2, none⟩ = some (.int .i64 (q : Int)) ∧ X.cell? ⟨xg, j * 2 + 1, none⟩ = some (.int .i64 (s : Int)) := by
  have hl : j < tl.length := by rw [← hT]; exact hj
  obtain ⟨g, c, e1, h1⟩ := owns_at h.trs (by omega)
  simp only [Value.slice.injEq] at e1
  obtain ⟨h2, h3⟩ := itsV_at tl j hl
  rw [e] at h2 h3
  exact ⟨g, e1.1, h1 _ _ h2, h1 _ _ h3⟩
theorem ints_of {X : World} {B c : Nat} {a : Option Addr} {l : List Int} (h : X.ownsRow B 3 1 (.slice a l.length c) l.length (intV l)) : IntsAt X a l := by
  by_cases e : l.length = 0
  · exact .inl (List.length_eq_zero_iff.1 e)
  · obtain ⟨g, c', e1, h1⟩ := owns_at h (by omega)
    simp only [Value.slice.injEq] at e1
    refine .inr ⟨g, 0, e1.1, fun i hi => ?_⟩
    rw [Nat.zero_add]
    refine h1 i _ ?_
    unfold intV
    rw [List.getElem?_map, List.getElem?_eq_getElem hi, List.getD_eq_getElem?_getD, List.getElem?_eq_getElem hi]; rfl
theorem wv_cells {X : World} {wb : Nat} {v0 v1 v2 v3 v4 v5 v6 : Value} {t : TypeId} (h : X.heap[wb]? = some (.cells #[v0, v1, v2, v3, v4, v5, v6] t (0, 0))) : X.cell? ⟨wb, 0, none⟩ = some v0 ∧ X.cell? ⟨wb, 4, none⟩ = some v4 ∧ X.cell? ⟨wb, 5, none⟩ = some v5 ∧ X.cell? ⟨wb, 6, none⟩ = some v6 := by
  refine ⟨?_, ?_, ?_, ?_⟩ <;> rw [cell_of_row _ _ _ _ _ _ h] <;> rfl

section
variable (ta na la pa : Option Addr) (tc nc lc pc : Nat) (n : Nat) (st : Int) (w : World) (tn nn ln : Nat)

end

end Go.Proofs.YtkbjbijoekmooaaGreat.J

/-
  relate: the law RelateReads, for every grammar.
-/
namespace Go.Proofs.YtkbjbijoekmooaaGreat.J
open Go.RowKit Go.Maps Go.Shelf

theorem getD_some' {l : List It} {k : Nat} {x : It} (hk : k < l.length) (e : l.getD k (0, 0) = x) : l[k]? = some x := by
  rw [List.getD_eq_getElem?_getD, List.getElem?_eq_getElem hk] at e
  rw [List.getElem?_eq_getElem hk]
  exact congrArg some e
theorem nextL_of_in {tn N : Nat} {es : List (List (Nat × Nat))} {q s : Nat} (h : ((q : Int), (s : Int)) ∈ trT tn es N) : q < N ∧ tn ≤ s ∧ ∃ t : Nat, nextL (es.getD q []) (s : Int) = some (t : Int) := by
  obtain ⟨q', h1, e, h2, h3, h4⟩ := trT_mem h
  simp only [Prod.mk.injEq] at h4
  have e1 : q = q' := by omega
  have e2 : s = e.1 := by omega
  subst e1
  obtain ⟨t, h5, _⟩ := nextL_some h2
  exact ⟨h1, by omega, t, by rw [e2]; exact h5⟩

section
variable (ta na la pa : Option Addr) (tc nc lc pc : Nat) (ts : List (ByteArray × Int)) (ns : List ByteArray) (lv : List Int) (n : Nat) (L : Nat → Int) (R : Nat → List Int) (ra : Nat → Option Addr) (rc : Nat → Nat) (V : Nat → Int) (st : Int) (w : World) (tn nn ln : Nat) (hlen : ts.length = tn ∧ ns.length = nn ∧ lv.length = ln) (hG : GAt w ta na la pa tc nc lc pc ts ns lv n L R ra rc V) (hts : ∀ t ∈ ts, t.1.size ≤ 140737488355328) (hns : ∀ s ∈ ns, s.size ≤ 140737488355328)
include hlen hG hts hns
theorem closedU (r : Bool) (hr : r = true ↔ closedOK ts ns lv st n L R V) (X : World) (hX : w.grownBy X none) : Calls Tryz.prog 37 #[.agg #[.slice ta tn tc, .slice na nn nc, .slice la ln lc, .int .i64 st, .slice pa n pc]] X fun e y => e = .returned (.bool r) ∧ X.grownBy y none := by
  obtain ⟨rfl, rfl, rfl⟩ := hlen
  exact rclosed_any ta na la pa tc nc lc pc st ts ns lv n L R ra rc V X (hG.kept hX) hts hns r hr
theorem askedBad (h : ¬ closedOK ts ns lv st n L R V ∨ (closedOK ts ns lv st n L R V ∧ autoF (GG tn n L R) (tn + nn) 256 = none)) (X : World) (hX : w.grownBy X none) : Calls Tryz.prog 18 #[.agg #[.slice ta tn tc, .slice na nn nc, .slice la ln lc, .int .i64 st, .slice pa n pc]] X fun e y => e = .returned (.tuple #[.pointer none, .bool true]) ∧ X.grownBy y none := by
  rcases h with hc | ⟨hc, hau⟩
  · exact uasked_bad1 ta na la pa tc nc lc pc n st X tn nn ln
      (fun Y hY => buildBad ta na la pa tc nc lc pc ts ns lv n L R ra rc V st Y tn nn ln hlen (hG.kept (grown_trans hX hY)) hc)
      (fun Y hY => listX_bad ta na la pa tc nc lc pc n st Y tn nn ln 1 (.inl rfl) (ofBad1 ta na la pa tc nc lc pc ts ns lv n L R ra rc V st Y tn nn ln hlen (hG.kept (grown_trans hX hY)) hc))
      (fun Y hY => rel_bad ta na la pa tc nc lc pc ts ns lv n L R ra rc V st w tn nn ln hlen hG (.inl ⟨rfl, hc⟩) Y (grown_trans hX hY))
      (fun Y hY => closedU ta na la pa tc nc lc pc ts ns lv n L R ra rc V st w tn nn ln hlen hG hts hns false (by simp [hc]) Y (grown_trans hX hY))
  · exact uasked_bad11 ta na la pa tc nc lc pc n st X tn nn ln
      (fun Y hY => build_none ta na la pa tc nc lc pc ts ns lv n L R ra rc V st w tn nn ln hlen hG hc hau Y (grown_trans hX hY))
      (fun Y hY => listX_bad ta na la pa tc nc lc pc n st Y tn nn ln 11 (.inr rfl) (ofBad11 ta na la pa tc nc lc pc ts ns lv n L R ra rc V st Y tn nn ln hlen (hG.kept (grown_trans hX hY)) hc hau))
      (fun Y hY => rel_bad ta na la pa tc nc lc pc ts ns lv n L R ra rc V st w tn nn ln hlen hG (.inr ⟨rfl, hc, hau⟩) Y (grown_trans hX hY))
      (fun Y hY => closedU ta na la pa tc nc lc pc ts ns lv n L R ra rc V st w tn nn ln hlen hG hts hns true (by simp [hc]) Y (grown_trans hX hY))
theorem askedOk (hc : closedOK ts ns lv st n L R V) {ks : List (List It)} {es : List (List (Nat × Nat))} (h : autoF (GG tn n L R) (tn + nn) 256 = some (ks, es)) (X : World) (hX : w.grownBy X none) : Calls Tryz.prog 18 #[.agg #[.slice ta tn tc, .slice na nn nc, .slice la ln lc, .int .i64 st, .slice pa n pc]] X fun e y => UAskTold ta na la pa tc nc lc pc n st tn nn ln (trT tn es ks.length) (nulB tn n L R) X e y := by
  have hO := relOK ta na la pa tc nc lc pc ts ns lv n L R ra rc V st w tn nn ln hlen hG hc h
  have hM := hO.may
  exact uasked_ok ta na la pa tc nc lc pc n st X tn nn ln ks es (trT tn es ks.length) (nulB tn n L R) ks.length (trT tn es ks.length).length _ _ _
    (fun Y hY => build_some ta na la pa tc nc lc pc ts ns lv n L R ra rc V st w tn nn ln hlen hG hc h Y (grown_trans hX hY))
    (fun Y hY => listX_ok ta na la pa tc nc lc pc n st Y tn nn ln ks es hO.eok.le (fun q hq => (hO.eok.each q hq).1) (ofOk ta na la pa tc nc lc pc ts ns lv n L R ra rc V st Y tn nn ln hlen (hG.kept (grown_trans hX hY)) hc h).1)
    (fun Y hY => rel_reads ta na la pa tc nc lc pc ts ns lv n L R ra rc V st w tn nn ln hlen hG hc h Y (grown_trans hX hY))
    (fun Y hY => rel_includes ta na la pa tc nc lc pc ts ns lv n L R ra rc V st w tn nn ln hlen hG hc h Y (grown_trans hX hY))
    (fun Y hY => rel_lookback ta na la pa tc nc lc pc ts ns lv n L R ra rc V st w tn nn ln hlen hG hc h Y (grown_trans hX hY))
    (fun Y hY => closedU ta na la pa tc nc lc pc ts ns lv n L R ra rc V st w tn nn ln hlen hG hts hns true (by simp [hc]) Y (grown_trans hX hY))
    (fun Y hY => nullable_ok ta na la pa tc nc lc pc ts ns lv n L R ra rc V st Y tn nn ln hlen (hG.kept (grown_trans hX hY)) (.inr hc) (cl := true) ⟨hM.t0, hM.tmax, hM.n0, hM.nmax, hM.pmax, hM.p0, hM.left, hM.right, hM.start, hM.added⟩ (nulB tn n L R) (fun i => nulB_iff tn n L R i))
omit hts hns in
theorem walkU (hc : closedOK ts ns lv st n L R V) {ks : List (List It)} {es : List (List (Nat × Nat))} (h : autoF (GG tn n L R) (tn + nn) 256 = some (ks, es)) (X : World) (hX : w.grownBy X none) (q : Nat) (hq : q < ks.length) (a : Option Addr) (c : Nat) (row : List Int) (hI : IntsAt X a row) (hl : row.length ≤ 1000000) (hs : ∀ x ∈ row, 0 ≤ x ∧ x < ((tn + nn : Nat) : Int)) : Calls Tryz.prog 19 #[.agg #[.slice ta tn tc, .slice na nn nc, .slice la ln lc, .int .i64 st, .slice pa n pc], .int .i64 (q : Int), .slice a row.length c] X fun e y => e = .returned (.tuple #[.int .i64 (wayV (wayF es (some (q : Int)) row)), .int .i64 0]) ∧ X.grownBy y none := by
  have hO := relOK ta na la pa tc nc lc pc ts ns lv n L R ra rc V st w tn nn ln hlen hG hc h
  exact walkX_ok ta na la pa tc nc lc pc n st X tn nn ln ks es hO.may.tmax hO.may.nmax hO.eok.le hO.eok.ok (ofOk ta na la pa tc nc lc pc ts ns lv n L R ra rc V st X tn nn ln hlen (hG.kept hX) hc h).1 q hq a c row hI (by omega) (fun x hx => by
    unfold noB
    rw [decide_eq_true (hs x hx)]; rfl)
end

end Go.Proofs.YtkbjbijoekmooaaGreat.J

/-
  relate: the law's vanishes.
-/
namespace Go.Proofs.YtkbjbijoekmooaaGreat.J
open Go.RowKit Go.Maps Go.Shelf

attribute [local go_sem] Oper.semAt_some

theorem take_snocI {l : List Int} {j : Nat} (hj : j < l.length) : l.take (j + 1) = l.take j ++ [l.getD j 0] := by
  rw [List.take_succ_eq_append_getElem hj, List.getD_eq_getElem?_getD, List.getElem?_eq_getElem hj]; rfl
/-- A row of symbols that vanish. -/
def VanP (tn : Nat) (F : Nat → Bool) (x : Int) : Prop := (tn : Int) ≤ x ∧ F (x.toNat - tn) = true

set_option maxRecDepth 100000 in
set_option maxHeartbeats 2000000 in
theorem uvanL_any (w : World) (wb nb tn nn tc : Nat) (ta : Option Addr) (F : Nat → Bool) (c0 : w.cell? ⟨wb, 0, none⟩ = some (.slice ta tn tc)) (c6 : w.cell? ⟨wb, 6, none⟩ = some (.slice (some ⟨nb, 0, none⟩) nn nn)) (hnul : ValAt w nb nn 4 (fun i => .bool (F i))) (hnn : nn ≤ 65) (a : Option Addr) (c : Nat) (row : List Int) (hI : IntsAt w a row) (hl : row.length ≤ 1000000) (hs : ∀ x ∈ row, 0 ≤ x ∧ x < ((tn + nn : Nat) : Int)) (r : Bool) (hr : r = true ↔ ∀ x ∈ row, VanP tn F x) : Calls Tryz.prog 43 #[.pointer (some ⟨wb, 0, none⟩), .slice a row.length c] w fun e y => e = .returned (.bool r) ∧ w.grownBy y none := by
  have HI : Hid (∀ X, w.grownBy X none → IntsAt X a row) := fun X hX => hI.kept hX
  have HC : Hid (∀ X, w.grownBy X none → X.cell? ⟨wb, 0, none⟩ = some (.slice ta tn tc) ∧ X.cell? ⟨wb, 6, none⟩ = some (.slice (some ⟨nb, 0, none⟩) nn nn)) := fun X hX => ⟨hX.cell c0 (by simp), hX.cell c6 (by simp)⟩
  have HN : Hid (∀ X, w.grownBy X none → ValAt X nb nn 4 (fun i => .bool (F i))) := fun X hX => hnul.kept hX
  have HR := show Hid _ from hr
  have HS := show Hid _ from hs
  obtain ⟨m, hm⟩ : ∃ m, m = row.length := ⟨_, rfl⟩
  have HM := show Hid _ from hm
  rw [← hm] at hl ⊢
  clear hI hr hm c0 c6 hnul hs
  go_enter Tryz.func43, Tryz.ntmps43
  go_wp2_with fail
  go_loopg [5] m (fun gk v5 wr => ∃ (j : Nat), j ≤ m ∧ gk = m - j ∧ v5 = .int .i64 j ∧ w.grownBy wr none ∧ ∀ x ∈ row.take j, VanP tn F x)
  case atStart => exact ⟨0, Nat.zero_le _, rfl, rfl, grown_refl _ _, fun x hx => by simp at hx⟩
  case round =>
    obtain ⟨j, hj, hgj, rfl, hg, hno⟩ := hrel
    have HGJ : Hid (gk = m - j) := hgj
    have HG : Hid (w.grownBy wr none) := hg
    have HNO := show Hid _ from hno
    clear hgj hno hg
    generalize wr = Y at *
    by_cases hlt : j < m
    · have hjd : decide (j < m) = true := decide_eq_true hlt
      have hj0 : (0 : Int) ≤ (j : Int) := by omega
      have hj1 : (j : Int) < (m : Int) := by omega
      have hjl : j < row.length := by rw [← HM.out]; exact hlt
      have hsr := HS.out _ (getD_in (d := 0) hjl)
      obtain ⟨s, hsx⟩ : ∃ s : Nat, row.getD j 0 = (s : Int) := ⟨(row.getD j 0).toNat, by omega⟩
      have hsn : s < tn + nn := by omega
      obtain ⟨b, o, rfl, r0⟩ : ∃ b o, a = some ⟨b, o, none⟩ ∧ Y.cell? ⟨b, o + j, none⟩ = some (.int .i64 (s : Int)) := by
        rcases HI.out Y HG.out with h | ⟨b, o, e, h⟩
        · rw [h] at hjl; exact absurd hjl (by simp)
        · exact ⟨b, o, e, by rw [← hsx]; exact h j hjl⟩
      obtain ⟨d0, d6⟩ := HC.out Y HG.out
      have hjw : IntKind.i64.wrap ((j : Int) + 1) = (j : Int) + 1 := by rw [IntKind.wrap_i64]; omega
      have HIN : Hid ((s : Int) ∈ row) := by
        have h := getD_in (d := 0) hjl
        rw [hsx] at h
        exact h
      have HTK : Hid (row.take (j + 1) = row.take j ++ [(s : Int)]) := by
        show _ = _
        rw [take_snocI hjl, hsx]
      by_cases hst : s < tn
      · have hd1 : decide ((s : Int) < (tn : Int)) = true := decide_eq_true (by omega)
        have hd2 : decide (s < tn) = true := decide_eq_true hst
        have HRF : Hid (r = false) := by
          show _ = _
          cases hrr : r with
          | false => rfl
          | true =>
            have h := (HR.out.1 hrr) _ HIN.out
            have h2 := h.1
            omega
        clear hsx hsr
        go_wp2_with fail
        go_quiet (fail)
        go_wp2_with fail
        go_ret
        exact ⟨by rw [HRF.out]; rfl, grown_trans HG.out (grown_drewN _ _)⟩
      · have hd1 : decide ((s : Int) < (tn : Int)) = false := decide_eq_false (by omega)
        have hd2 : decide (s < tn) = false := decide_eq_false hst
        obtain ⟨nk, hnk⟩ : ∃ nk, nk = s - tn := ⟨_, rfl⟩
        have hsw : IntKind.i64.wrap ((s : Int) - (tn : Int)) = (nk : Int) := by rw [IntKind.wrap_i64]; omega
        have hn3 : (0 : Int) ≤ (nk : Int) := by omega
        have hn4 : (nk : Int) < (nn : Int) := by omega
        obtain ⟨fb, hfb⟩ : ∃ fb, fb = F nk := ⟨_, rfl⟩
        have y0 : Y.cell? ⟨nb, nk, none⟩ = some (.bool fb) := by rw [hfb]; exact (HN.out Y HG.out).cell nk (by omega)
        have HVP : Hid (VanP tn F (s : Int) ↔ fb = true) := by
          show _ ↔ _
          unfold VanP
          rw [Int.toNat_natCast, ← hnk, ← hfb]
          exact ⟨fun h => h.2, fun h => ⟨by omega, h⟩⟩
        clear hsx hsr hnk hfb
        cases fb with
        | false =>
          have HRF : Hid (r = false) := by
            show _ = _
            cases hrr : r with
            | false => rfl
            | true => exact absurd (HVP.out.1 ((HR.out.1 hrr) _ HIN.out)) (by decide)
          go_wp2_with fail
          go_quiet (fail)
          go_wp2_with fail
          go_ret
          exact ⟨by rw [HRF.out]; rfl, grown_trans HG.out (grown_drewN _ _)⟩
        | true =>
          have HN2 : Hid (∀ x ∈ row.take (j + 1), VanP tn F x) := fun x hx => by
            rw [HTK.out] at hx
            rcases List.mem_append.1 hx with h | h
            · exact HNO.out x h
            · rw [List.mem_singleton.1 h]; exact HVP.out.2 rfl
          go_wp2_with fail
          go_quiet (fail)
          go_wp2_with fail
          go_roundg (m - (j + 1))
          all_goals first
            | exact (show ∃ (j' : Nat), _ from ⟨j + 1, by omega, rfl, by go_num, grown_trans HG.out (grown_drewN _ _), HN2.out⟩)
            | (have := HGJ.out; omega)
    · have hjm : m = j := by omega
      have hjd : decide (j < m) = false := decide_eq_false hlt
      have HRT : Hid (r = true) := by
        show _ = _
        refine HR.out.2 fun x hx => HNO.out x ?_
        rw [← hjm, HM.out, List.take_length]
        exact hx
      clear hjm
      go_wp2_with fail
      go_ret
      exact ⟨by rw [HRT.out]; rfl, HG.out⟩

end Go.Proofs.YtkbjbijoekmooaaGreat.J
