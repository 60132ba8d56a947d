import Derived.Test.YthoamlahbnphkaaGreatQbipomdhdkheb

/-
  relate: ways.
-/
namespace Go.Proofs.YthoamlahbnphkaaGreat.J
open Go.RowKit Go.Maps Go.Shelf

attribute [local go_sem] Oper.semAt_some

/-- What the rows that are gone over keep to. -/
def RowsOK (n T S : Nat) (tl : List It) (L : Nat → Int) (R : Nat → List Int) : Prop := ∀ p, p < n → (∀ k, k < T → (tl.getD k (0, 0)).2 = L p → (R p).length ≤ 10000) ∧ ∀ x ∈ R p, 0 ≤ x ∧ x < (S : Int)

section
variable (ta na la pa sa xa l1 m1 : Option Addr) (tc nc lc pc sc xc lc1 mc1 : Nat) (n N T nb : Nat) (st : Int) (w : World) (tn nn ln : Nat)

set_option maxRecDepth 100000 in
set_option maxHeartbeats 4000000 in
theorem ways_inc (P : World) (B S : Nat) (ks : List (List It)) (es : List (List (Nat × Nat))) (kv ev : Nat → Value) (tl : List It) (F : Nat → Bool) (lb mb : Nat → Nat) (L : Nat → Int) (R : Nat → List Int) (ra : Nat → Option Addr) (rc : Nat → Nat) (V : Nat → Int) (hK : RlOK N T S tn nn ks es tl)
    (hR : RaAt B P nb nn S (.slice sa N sc) (.slice xa T xc) (.slice l1 N lc1) (.slice m1 N mc1) ks es kv ev tl F lb mb) (hPr : ProdsAt P pa n L R ra rc V) (hn : n ≤ 1000) (hrow : RowsOK n T S tl L R)
    (ab2 hb : Nat) (I : World → Nat → Nat → Prop) (hKeep : ∀ X Y k p, I X k p → X.grownBy Y none → I Y k p) (hGr : ∀ X k p, I X k p → P.grownBy X none)
    (hHand : ∀ (X0 X : World) (k p q tb : Nat), k < T → p < n → q < N → tl.getD k (0, 0) = ((q : Int), L p) → I X0 k p → X0.grownBy X none → X0.heap.size ≤ tb → ValAt X tb ((R p).length + 1) 3 (fun i => .int .i64 (stF es q (R p) i : Int)) → Calls Tryz.prog 60 #[.int .i64 (k : Int), .int .i64 (p : Int), .slice (some ⟨tb, 0, none⟩) ((R p).length + 1) ((R p).length + 1), .pointer (some ⟨ab2, 0, none⟩), .pointer (some ⟨hb, 0, none⟩)] X fun e y => e = .returned (.tuple #[]) ∧ KeepH X y ∧ I y k (p + 1))
    (hSkip : ∀ (X : World) (k p q : Nat) (s : Int), k < T → p < n → tl.getD k (0, 0) = ((q : Int), s) → L p ≠ s → I X k p → I X k (p + 1)) (hNext : ∀ X k, I X k n → I X (k + 1) 0) (hI : I w 0 0) :
    Calls Tryz.prog 59 #[.agg #[.slice ta tn tc, .slice na nn nc, .slice la ln lc, .int .i64 st, .slice pa n pc, .slice (some ⟨nb, 0, none⟩) nn nn, .slice sa N sc, .slice xa T xc, .slice l1 N lc1, .slice m1 N mc1], .func (.func 60) #[] #[.pointer (some ⟨ab2, 0, none⟩), .pointer (some ⟨hb, 0, none⟩)]] w fun e y => e = .returned (.tuple #[]) ∧ I y T 0 := by
  have HR : Hid (∀ X, P.grownBy X none → RaAt B X nb nn S (.slice sa N sc) (.slice xa T xc) (.slice l1 N lc1) (.slice m1 N mc1) ks es kv ev tl F lb mb) := fun X hX => hR.kept hX
  have HPR : Hid (∀ X, P.grownBy X none → ProdsAt X pa n L R ra rc V) := fun X hX => hPr.kept hX
  have HK := show Hid _ from hK
  have HROW := show Hid _ from hrow
  have HKP := show Hid _ from hKeep
  have HGR := show Hid _ from hGr
  have HHAND := show Hid _ from hHand
  have HSKIP := show Hid _ from hSkip
  have HNEXT := show Hid _ from hNext
  have HX0 : Hid ((w.alloc (.cells #[.slice ta tn tc, .slice na nn nc, .slice la ln lc, .int .i64 st, .slice pa n pc, .slice (some ⟨nb, 0, none⟩) nn nn, .slice sa N sc, .slice xa T xc, .slice l1 N lc1, .slice m1 N mc1] 81)).heap[w.heap.size]? = some (.cells #[.slice ta tn tc, .slice na nn nc, .slice la ln lc, .int .i64 st, .slice pa n pc, .slice (some ⟨nb, 0, none⟩) nn nn, .slice sa N sc, .slice xa T xc, .slice l1 N lc1, .slice m1 N mc1] 81 (0, 0))) := heap_alloc_last w _
  have HI0 : Hid (I (w.alloc (.cells #[.slice ta tn tc, .slice na nn nc, .slice la ln lc, .int .i64 st, .slice pa n pc, .slice (some ⟨nb, 0, none⟩) nn nn, .slice sa N sc, .slice xa T xc, .slice l1 N lc1, .slice m1 N mc1] 81)) 0 0) := hKeep _ _ _ _ hI (World.grownBy_alloc _ _ none)
  have c7 : (w.alloc (.cells #[.slice ta tn tc, .slice na nn nc, .slice la ln lc, .int .i64 st, .slice pa n pc, .slice (some ⟨nb, 0, none⟩) nn nn, .slice sa N sc, .slice xa T xc, .slice l1 N lc1, .slice m1 N mc1] 81)).cell? ⟨w.heap.size, 7, none⟩ = some (.slice xa T xc) := by rw [cell_of_row _ _ _ _ _ _ HX0.out]; rfl
  have ht40 := hK.t40
  have hn256 := hK.n256
  clear hR hK hPr hrow hKeep hGr hHand hSkip hNext hI
  go_enter Tryz.func59, Tryz.ntmps59
  go_wp2_with fail
  clear c7
  generalize w.alloc (.cells #[.slice ta tn tc, .slice na nn nc, .slice la ln lc, .int .i64 st, .slice pa n pc, .slice (some ⟨nb, 0, none⟩) nn nn, .slice sa N sc, .slice xa T xc, .slice l1 N lc1, .slice m1 N mc1] 81) = W0 at HX0 HI0 ⊢
  obtain ⟨ab, hab⟩ : ∃ b, b = w.heap.size := ⟨_, rfl⟩
  rw [← hab] at HX0 ⊢
  obtain ⟨cs, hcs⟩ : ∃ cs : Array Value, cs = #[.slice ta tn tc, .slice na nn nc, .slice la ln lc, .int .i64 st, .slice pa n pc, .slice (some ⟨nb, 0, none⟩) nn nn, .slice sa N sc, .slice xa T xc, .slice l1 N lc1, .slice m1 N mc1] := ⟨_, rfl⟩
  have HCS := show Hid _ from hcs
  rw [← hcs] at HX0
  clear hab hcs
  go_loopg [11] T (fun gk v11 wr => ∃ (j : Nat), j ≤ T ∧ gk = T - j ∧ v11 = .int .i64 j ∧ wr.heap[ab]? = some (.cells cs 81 (0, 0)) ∧ I wr j 0)
  case atStart => exact ⟨0, Nat.zero_le _, rfl, rfl, HX0.out, HI0.out⟩
  case round =>
    obtain ⟨j, hj, hgj, rfl, hb, hl⟩ := hrel
    have HGJ : Hid (gk = T - j) := hgj
    have HB : Hid (wr.heap[ab]? = some (.cells cs 81 (0, 0))) := hb
    have HI : Hid (I wr j 0) := hl
    clear hgj hb hl HX0 HI0
    generalize wr = Y at *
    by_cases hlt : j < T
    · have hjd : decide (j < T) = true := decide_eq_true hlt
      have hj0 : (0 : Int) ≤ (j : Int) := by omega
      have hj1 : (j : Int) < (T : Int) := by omega
      have HPY : Hid (P.grownBy Y none) := HGR.out _ _ _ HI.out
      obtain ⟨q, s, hqs, hqN, hsS⟩ := HK.out.at hlt
      obtain ⟨xg, rfl, x0, x1⟩ := (HR.out Y HPY.out).tr HK.out hlt hqs
      have hba := HB.out
      rw [HCS.out] at hba
      obtain ⟨Z, hZ⟩ : ∃ Z, Z = Y.alloc (.cells #[.int .i64 (q : Int), .int .i64 (s : Int)] 53) := ⟨_, rfl⟩
      have hgZ : Y.grownBy Z none := by rw [hZ]; exact World.grownBy_alloc _ _ none
      have HTZ : Hid (Z.heap[Y.heap.size]? = some (.cells #[.int .i64 (q : Int), .int .i64 (s : Int)] 53 (0, 0))) := by rw [hZ]; exact heap_alloc_last Y _
      have b4 : Z.cell? ⟨ab, 4, none⟩ = some (.slice pa n pc) := (av_cells (box_kept hba hgZ)).2.2.2.2.1
      have HBZ : Hid (Z.heap[ab]? = some (.cells cs 81 (0, 0))) := box_kept HB.out hgZ
      have HIZ : Hid (I Z j 0) := HKP.out _ _ _ _ HI.out hgZ
      have HQS := show Hid _ from hqs
      have HZE := show Hid _ from hZ
      rw [hZ] at b4
      clear hqs hba hZ hgZ
      go_wp2_with fail
      rw [← HZE.out]
      clear b4 x0 x1 HZE HB HI HPY
      obtain ⟨tx, htx⟩ : ∃ b, b = Y.heap.size := ⟨_, rfl⟩
      rw [← htx] at HTZ ⊢
      clear htx
      go_loopg [20] n (fun gk v20 wr => ∃ (i : Nat), i ≤ n ∧ gk = n - i ∧ v20 = .int .i64 i ∧ wr.heap[ab]? = some (.cells cs 81 (0, 0)) ∧ wr.heap[tx]? = some (.cells #[.int .i64 (q : Int), .int .i64 (s : Int)] 53 (0, 0)) ∧ I wr j i)
      case atStart => exact ⟨0, Nat.zero_le _, rfl, rfl, HBZ.out, HTZ.out, HIZ.out⟩
      case round =>
        obtain ⟨i, hi, hgi, rfl, hb2, ht2, hl2⟩ := hrel
        have HGI : Hid (gk = n - i) := hgi
        have HB2 : Hid (wr.heap[ab]? = some (.cells cs 81 (0, 0))) := hb2
        have HT2 : Hid (wr.heap[tx]? = some (.cells #[.int .i64 (q : Int), .int .i64 (s : Int)] 53 (0, 0))) := ht2
        have HI2 : Hid (I wr j i) := hl2
        clear hgi hb2 ht2 hl2 HBZ HTZ HIZ
        generalize wr = X at *
        by_cases hlt2 : i < n
        · have hid : decide (i < n) = true := decide_eq_true hlt2
          have hi0 : (0 : Int) ≤ (i : Int) := by omega
          have hi1 : (i : Int) < (n : Int) := by omega
          have HPX : Hid (P.grownBy X none) := HGR.out _ _ _ HI2.out
          obtain ⟨pb, po, rfl, hps⟩ := prods_at (HPR.out X HPX.out) (by omega)
          obtain ⟨p0, p1, p2, pI⟩ := hps i hlt2
          have hba := HB2.out
          rw [HCS.out] at hba
          obtain ⟨rap, hrap⟩ : ∃ x, x = ra i := ⟨_, rfl⟩
          obtain ⟨rcp, hrcp⟩ : ∃ x, x = rc i := ⟨_, rfl⟩
          obtain ⟨lf, hlf⟩ : ∃ x, x = L i := ⟨_, rfl⟩
          obtain ⟨vi, hvi⟩ : ∃ x, x = V i := ⟨_, rfl⟩
          obtain ⟨m, hm⟩ : ∃ x, x = (R i).length := ⟨_, rfl⟩
          rw [← hlf] at p0
          rw [← hrap, ← hrcp, ← hm] at p1
          rw [← hvi] at p2
          rw [← hrap] at pI
          obtain ⟨U, hU⟩ : ∃ U, U = X.alloc (.cells #[.int .i64 lf, .slice rap m rcp, .int .i64 vi] 71) := ⟨_, rfl⟩
          have hgU : X.grownBy U none := by rw [hU]; exact World.grownBy_alloc _ _ none
          have hhU : U.heap[X.heap.size]? = some (.cells #[.int .i64 lf, .slice rap m rcp, .int .i64 vi] 71 (0, 0)) := by rw [hU]; exact heap_alloc_last X _
          obtain ⟨a0, a1, a2, a3, a4, a5, a6, a7, a8, a9⟩ := av_cells (box_kept hba hgU)
          have k0 : U.cell? ⟨X.heap.size, 0, none⟩ = some (.int .i64 lf) := by rw [cell_of_row _ _ _ _ _ _ hhU]; rfl
          have k1 : U.cell? ⟨X.heap.size, 1, none⟩ = some (.slice rap m rcp) := by rw [cell_of_row _ _ _ _ _ _ hhU]; rfl
          have t0 : U.cell? ⟨tx, 0, none⟩ = some (.int .i64 (q : Int)) := by rw [cell_of_row _ _ _ _ _ _ (box_kept HT2.out hgU)]; rfl
          have t1 : U.cell? ⟨tx, 1, none⟩ = some (.int .i64 (s : Int)) := by rw [cell_of_row _ _ _ _ _ _ (box_kept HT2.out hgU)]; rfl
          have HBU : Hid (U.heap[ab]? = some (.cells cs 81 (0, 0))) := box_kept HB2.out hgU
          have HTU : Hid (U.heap[tx]? = some (.cells #[.int .i64 (q : Int), .int .i64 (s : Int)] 53 (0, 0))) := box_kept HT2.out hgU
          have HIU : Hid (I U j i) := HKP.out _ _ _ _ HI2.out hgU
          have HRI : Hid (IntsAt U rap (R i)) := pI.kept hgU
          have HPU : Hid (P.grownBy U none) := grown_trans HPX.out hgU
          have HM := show Hid _ from hm
          have HLF := show Hid _ from hlf
          have HUE := show Hid _ from hU
          have hiw : IntKind.i64.wrap ((i : Int) + 1) = (i : Int) + 1 := by rw [IntKind.wrap_i64]; omega
          rw [hU] at a0 a1 a2 a3 a4 a5 a6 a7 a8 a9 k0 k1 t0 t1
          clear hps pI hba hrap hrcp hlf hvi hm hU hgU hhU HB2 HT2 HI2 HPX
          by_cases hls : lf = (s : Int)
          · have hlb : (lf == (s : Int)) = true := by rw [hls]; exact beq_self_eq_true _
            have HLS := show Hid _ from hls
            clear hls
            go_wp2_with fail
            rw [← HUE.out]
            have HTH : Hid (Calls Tryz.prog 91 #[.agg #[.slice ta tn tc, .slice na nn nc, .slice la ln lc, .int .i64 st, .slice (some ⟨pb, po, none⟩) n pc, .slice (some ⟨nb, 0, none⟩) nn nn, .slice sa N sc, .slice (some ⟨xg, 0, none⟩) T xc, .slice l1 N lc1, .slice m1 N mc1], .int .i64 (q : Int), .slice rap m rcp] U fun e y => ∃ k, e = .returned (.slice (some ⟨k, 0, none⟩) (m + 1) (m + 1)) ∧ U.heap.size ≤ k ∧ ValAt y k (m + 1) 3 (fun i' => .int .i64 (stF es q (R i) i' : Int)) ∧ U.grownBy y none) := by
              have hTb := (HR.out U HPU.out).l
              rw [← HK.out.hN] at hTb
              rw [HM.out]
              exact uthr_any ta na la (some ⟨pb, po, none⟩) sa (some ⟨xg, 0, none⟩) l1 m1 tc nc lc pc sc xc lc1 mc1 n N T nb st U tn nn ln B S es lb hTb (fun r hr x hx => by rw [HK.out.hN]; exact ((HK.out.eok.each r (by rw [← HK.out.hN]; exact hr)).2.2 x hx).2) q hqN hn256 rap rcp (R i) HRI.out (by have := (HROW.out i hlt2).1 j hlt (by rw [HQS.out, ← HLF.out, HLS.out]); omega) (HROW.out i hlt2).2
            refine Calls.mono HTH.out ?_
            rintro e w3 ⟨tb, rfl, htb, hv3, hg3⟩
            have HB3 : Hid (w3.heap[ab]? = some (.cells cs 81 (0, 0))) := box_kept HBU.out hg3
            have HT3 : Hid (w3.heap[tx]? = some (.cells #[.int .i64 (q : Int), .int .i64 (s : Int)] 53 (0, 0))) := box_kept HTU.out hg3
            have HHD : Hid (Calls Tryz.prog 60 #[.int .i64 (j : Int), .int .i64 (i : Int), .slice (some ⟨tb, 0, none⟩) (m + 1) (m + 1), .pointer (some ⟨ab2, 0, none⟩), .pointer (some ⟨hb, 0, none⟩)] w3 fun e y => e = .returned (.tuple #[]) ∧ KeepH w3 y ∧ I y j (i + 1)) := by
              have h := HHAND.out U w3 j i q tb hlt hlt2 hqN (by rw [HQS.out, ← HLF.out, HLS.out]) HIU.out hg3 htb (by rw [← HM.out]; exact hv3)
              rw [← HM.out] at h
              exact h
            clear htb hv3 hg3 a0 a1 a2 a3 a4 a5 a6 a7 a8 a9 k0 k1 t0 t1 HBU HTU HIU HRI HPU HUE HTH p0 p1 p2
            go_wp2_with fail
            refine Calls.mono HHD.out ?_
            rintro e w4 ⟨rfl, hk4, hi4⟩
            have HB4 : Hid (w4.heap[ab]? = some (.cells cs 81 (0, 0))) := hk4.at HB3.out (by decide) (by decide)
            have HT4 : Hid (w4.heap[tx]? = some (.cells #[.int .i64 (q : Int), .int .i64 (s : Int)] 53 (0, 0))) := hk4.at HT3.out (by decide) (by decide)
            have HI4 : Hid (I w4 j (i + 1)) := hi4
            clear hk4 hi4 HB3 HT3 HHD
            go_wp2_with fail
            go_roundg (n - (i + 1))
            all_goals first
              | exact (show ∃ (i' : Nat), _ from ⟨i + 1, by omega, rfl, by go_num, HB4.out, HT4.out, HI4.out⟩)
              | (have := HGI.out; omega)
          · have hlb : (lf == (s : Int)) = false := beq_eq_false_iff_ne.2 hls
            have HIS : Hid (I U j (i + 1)) := HSKIP.out U j i q (s : Int) hlt hlt2 HQS.out (by rw [← HLF.out]; exact hls) HIU.out
            clear hls
            go_wp2_with fail
            rw [← HUE.out]
            go_roundg (n - (i + 1))
            all_goals first
              | exact (show ∃ (i' : Nat), _ from ⟨i + 1, by omega, rfl, by go_num, HBU.out, HTU.out, HIS.out⟩)
              | (have := HGI.out; omega)
        · have him : n = i := by omega
          have hid : decide (i < n) = false := decide_eq_false hlt2
          have hjw : IntKind.i64.wrap ((j : Int) + 1) = (j : Int) + 1 := by rw [IntKind.wrap_i64]; omega
          have HIN : Hid (I X (j + 1) 0) := HNEXT.out X j (by rw [him]; exact HI2.out)
          clear him
          go_wp2_with fail
          go_roundg (T - (j + 1))
          all_goals first
            | exact (show ∃ (j' : Nat), _ from ⟨j + 1, by omega, rfl, by go_num, HB2.out, HIN.out⟩)
            | (have := HGJ.out; omega)
    · have hjm : T = j := by omega
      subst hjm
      have hjd : decide (T < T) = false := decide_eq_false (by omega)
      go_wp2_with fail
      refine bodyPost_end (v := .tuple #[]) (by simp [results, Tryz.results59]) rfl ?_
      exact ⟨rfl, HI.out⟩

set_option maxRecDepth 100000 in
set_option maxHeartbeats 4000000 in
theorem ways_lb (P : World) (B S : Nat) (ks : List (List It)) (es : List (List (Nat × Nat))) (kv ev : Nat → Value) (tl : List It) (F : Nat → Bool) (lb mb : Nat → Nat) (L : Nat → Int) (R : Nat → List Int) (ra : Nat → Option Addr) (rc : Nat → Nat) (V : Nat → Int) (hK : RlOK N T S tn nn ks es tl)
    (hR : RaAt B P nb nn S (.slice sa N sc) (.slice xa T xc) (.slice l1 N lc1) (.slice m1 N mc1) ks es kv ev tl F lb mb) (hPr : ProdsAt P pa n L R ra rc V) (hn : n ≤ 1000) (hrow : RowsOK n T S tl L R)
    (hb : Nat) (I : World → Nat → Nat → Prop) (hKeep : ∀ X Y k p, I X k p → X.grownBy Y none → I Y k p) (hGr : ∀ X k p, I X k p → P.grownBy X none)
    (hHand : ∀ (X0 X : World) (k p q tb : Nat), k < T → p < n → q < N → tl.getD k (0, 0) = ((q : Int), L p) → I X0 k p → X0.grownBy X none → X0.heap.size ≤ tb → ValAt X tb ((R p).length + 1) 3 (fun i => .int .i64 (stF es q (R p) i : Int)) → Calls Tryz.prog 92 #[.int .i64 (k : Int), .int .i64 (p : Int), .slice (some ⟨tb, 0, none⟩) ((R p).length + 1) ((R p).length + 1), .pointer (some ⟨hb, 0, none⟩)] X fun e y => e = .returned (.tuple #[]) ∧ KeepH X y ∧ I y k (p + 1))
    (hSkip : ∀ (X : World) (k p q : Nat) (s : Int), k < T → p < n → tl.getD k (0, 0) = ((q : Int), s) → L p ≠ s → I X k p → I X k (p + 1)) (hNext : ∀ X k, I X k n → I X (k + 1) 0) (hI : I w 0 0) :
    Calls Tryz.prog 59 #[.agg #[.slice ta tn tc, .slice na nn nc, .slice la ln lc, .int .i64 st, .slice pa n pc, .slice (some ⟨nb, 0, none⟩) nn nn, .slice sa N sc, .slice xa T xc, .slice l1 N lc1, .slice m1 N mc1], .func (.func 92) #[] #[.pointer (some ⟨hb, 0, none⟩)]] w fun e y => e = .returned (.tuple #[]) ∧ I y T 0 := by
  have HR : Hid (∀ X, P.grownBy X none → RaAt B X nb nn S (.slice sa N sc) (.slice xa T xc) (.slice l1 N lc1) (.slice m1 N mc1) ks es kv ev tl F lb mb) := fun X hX => hR.kept hX
  have HPR : Hid (∀ X, P.grownBy X none → ProdsAt X pa n L R ra rc V) := fun X hX => hPr.kept hX
  have HK := show Hid _ from hK
  have HROW := show Hid _ from hrow
  have HKP := show Hid _ from hKeep
  have HGR := show Hid _ from hGr
  have HHAND := show Hid _ from hHand
  have HSKIP := show Hid _ from hSkip
  have HNEXT := show Hid _ from hNext
  have HX0 : Hid ((w.alloc (.cells #[.slice ta tn tc, .slice na nn nc, .slice la ln lc, .int .i64 st, .slice pa n pc, .slice (some ⟨nb, 0, none⟩) nn nn, .slice sa N sc, .slice xa T xc, .slice l1 N lc1, .slice m1 N mc1] 81)).heap[w.heap.size]? = some (.cells #[.slice ta tn tc, .slice na nn nc, .slice la ln lc, .int .i64 st, .slice pa n pc, .slice (some ⟨nb, 0, none⟩) nn nn, .slice sa N sc, .slice xa T xc, .slice l1 N lc1, .slice m1 N mc1] 81 (0, 0))) := heap_alloc_last w _
  have HI0 : Hid (I (w.alloc (.cells #[.slice ta tn tc, .slice na nn nc, .slice la ln lc, .int .i64 st, .slice pa n pc, .slice (some ⟨nb, 0, none⟩) nn nn, .slice sa N sc, .slice xa T xc, .slice l1 N lc1, .slice m1 N mc1] 81)) 0 0) := hKeep _ _ _ _ hI (World.grownBy_alloc _ _ none)
  have c7 : (w.alloc (.cells #[.slice ta tn tc, .slice na nn nc, .slice la ln lc, .int .i64 st, .slice pa n pc, .slice (some ⟨nb, 0, none⟩) nn nn, .slice sa N sc, .slice xa T xc, .slice l1 N lc1, .slice m1 N mc1] 81)).cell? ⟨w.heap.size, 7, none⟩ = some (.slice xa T xc) := by rw [cell_of_row _ _ _ _ _ _ HX0.out]; rfl
  have ht40 := hK.t40
  have hn256 := hK.n256
  clear hR hK hPr hrow hKeep hGr hHand hSkip hNext hI
  go_enter Tryz.func59, Tryz.ntmps59
  go_wp2_with fail
  clear c7
  generalize w.alloc (.cells #[.slice ta tn tc, .slice na nn nc, .slice la ln lc, .int .i64 st, .slice pa n pc, .slice (some ⟨nb, 0, none⟩) nn nn, .slice sa N sc, .slice xa T xc, .slice l1 N lc1, .slice m1 N mc1] 81) = W0 at HX0 HI0 ⊢
  obtain ⟨ab, hab⟩ : ∃ b, b = w.heap.size := ⟨_, rfl⟩
  rw [← hab] at HX0 ⊢
  obtain ⟨cs, hcs⟩ : ∃ cs : Array Value, cs = #[.slice ta tn tc, .slice na nn nc, .slice la ln lc, .int .i64 st, .slice pa n pc, .slice (some ⟨nb, 0, none⟩) nn nn, .slice sa N sc, .slice xa T xc, .slice l1 N lc1, .slice m1 N mc1] := ⟨_, rfl⟩
  have HCS := show Hid _ from hcs
  rw [← hcs] at HX0
  clear hab hcs
  go_loopg [11] T (fun gk v11 wr => ∃ (j : Nat), j ≤ T ∧ gk = T - j ∧ v11 = .int .i64 j ∧ wr.heap[ab]? = some (.cells cs 81 (0, 0)) ∧ I wr j 0)
  case atStart => exact ⟨0, Nat.zero_le _, rfl, rfl, HX0.out, HI0.out⟩
  case round =>
    obtain ⟨j, hj, hgj, rfl, hb, hl⟩ := hrel
    have HGJ : Hid (gk = T - j) := hgj
    have HB : Hid (wr.heap[ab]? = some (.cells cs 81 (0, 0))) := hb
    have HI : Hid (I wr j 0) := hl
    clear hgj hb hl HX0 HI0
    generalize wr = Y at *
    by_cases hlt : j < T
    · have hjd : decide (j < T) = true := decide_eq_true hlt
      have hj0 : (0 : Int) ≤ (j : Int) := by omega
      have hj1 : (j : Int) < (T : Int) := by omega
      have HPY : Hid (P.grownBy Y none) := HGR.out _ _ _ HI.out
      obtain ⟨q, s, hqs, hqN, hsS⟩ := HK.out.at hlt
      obtain ⟨xg, rfl, x0, x1⟩ := (HR.out Y HPY.out).tr HK.out hlt hqs
      have hba := HB.out
      rw [HCS.out] at hba
      obtain ⟨Z, hZ⟩ : ∃ Z, Z = Y.alloc (.cells #[.int .i64 (q : Int), .int .i64 (s : Int)] 53) := ⟨_, rfl⟩
      have hgZ : Y.grownBy Z none := by rw [hZ]; exact World.grownBy_alloc _ _ none
      have HTZ : Hid (Z.heap[Y.heap.size]? = some (.cells #[.int .i64 (q : Int), .int .i64 (s : Int)] 53 (0, 0))) := by rw [hZ]; exact heap_alloc_last Y _
      have b4 : Z.cell? ⟨ab, 4, none⟩ = some (.slice pa n pc) := (av_cells (box_kept hba hgZ)).2.2.2.2.1
      have HBZ : Hid (Z.heap[ab]? = some (.cells cs 81 (0, 0))) := box_kept HB.out hgZ
      have HIZ : Hid (I Z j 0) := HKP.out _ _ _ _ HI.out hgZ
      have HQS := show Hid _ from hqs
      have HZE := show Hid _ from hZ
      rw [hZ] at b4
      clear hqs hba hZ hgZ
      go_wp2_with fail
      rw [← HZE.out]
      clear b4 x0 x1 HZE HB HI HPY
      obtain ⟨tx, htx⟩ : ∃ b, b = Y.heap.size := ⟨_, rfl⟩
      rw [← htx] at HTZ ⊢
      clear htx
      go_loopg [20] n (fun gk v20 wr => ∃ (i : Nat), i ≤ n ∧ gk = n - i ∧ v20 = .int .i64 i ∧ wr.heap[ab]? = some (.cells cs 81 (0, 0)) ∧ wr.heap[tx]? = some (.cells #[.int .i64 (q : Int), .int .i64 (s : Int)] 53 (0, 0)) ∧ I wr j i)
      case atStart => exact ⟨0, Nat.zero_le _, rfl, rfl, HBZ.out, HTZ.out, HIZ.out⟩
      case round =>
        obtain ⟨i, hi, hgi, rfl, hb2, ht2, hl2⟩ := hrel
        have HGI : Hid (gk = n - i) := hgi
        have HB2 : Hid (wr.heap[ab]? = some (.cells cs 81 (0, 0))) := hb2
        have HT2 : Hid (wr.heap[tx]? = some (.cells #[.int .i64 (q : Int), .int .i64 (s : Int)] 53 (0, 0))) := ht2
        have HI2 : Hid (I wr j i) := hl2
        clear hgi hb2 ht2 hl2 HBZ HTZ HIZ
        generalize wr = X at *
        by_cases hlt2 : i < n
        · have hid : decide (i < n) = true := decide_eq_true hlt2
          have hi0 : (0 : Int) ≤ (i : Int) := by omega
          have hi1 : (i : Int) < (n : Int) := by omega
          have HPX : Hid (P.grownBy X none) := HGR.out _ _ _ HI2.out
          obtain ⟨pb, po, rfl, hps⟩ := prods_at (HPR.out X HPX.out) (by omega)
          obtain ⟨p0, p1, p2, pI⟩ := hps i hlt2
          have hba := HB2.out
          rw [HCS.out] at hba
          obtain ⟨rap, hrap⟩ : ∃ x, x = ra i := ⟨_, rfl⟩
          obtain ⟨rcp, hrcp⟩ : ∃ x, x = rc i := ⟨_, rfl⟩
          obtain ⟨lf, hlf⟩ : ∃ x, x = L i := ⟨_, rfl⟩
          obtain ⟨vi, hvi⟩ : ∃ x, x = V i := ⟨_, rfl⟩
          obtain ⟨m, hm⟩ : ∃ x, x = (R i).length := ⟨_, rfl⟩
          rw [← hlf] at p0
          rw [← hrap, ← hrcp, ← hm] at p1
          rw [← hvi] at p2
          rw [← hrap] at pI
          obtain ⟨U, hU⟩ : ∃ U, U = X.alloc (.cells #[.int .i64 lf, .slice rap m rcp, .int .i64 vi] 71) := ⟨_, rfl⟩
          have hgU : X.grownBy U none := by rw [hU]; exact World.grownBy_alloc _ _ none
          have hhU : U.heap[X.heap.size]? = some (.cells #[.int .i64 lf, .slice rap m rcp, .int .i64 vi] 71 (0, 0)) := by rw [hU]; exact heap_alloc_last X _
          obtain ⟨a0, a1, a2, a3, a4, a5, a6, a7, a8, a9⟩ := av_cells (box_kept hba hgU)
          have k0 : U.cell? ⟨X.heap.size, 0, none⟩ = some (.int .i64 lf) := by rw [cell_of_row _ _ _ _ _ _ hhU]; rfl
          have k1 : U.cell? ⟨X.heap.size, 1, none⟩ = some (.slice rap m rcp) := by rw [cell_of_row _ _ _ _ _ _ hhU]; rfl
          have t0 : U.cell? ⟨tx, 0, none⟩ = some (.int .i64 (q : Int)) := by rw [cell_of_row _ _ _ _ _ _ (box_kept HT2.out hgU)]; rfl
          have t1 : U.cell? ⟨tx, 1, none⟩ = some (.int .i64 (s : Int)) := by rw [cell_of_row _ _ _ _ _ _ (box_kept HT2.out hgU)]; rfl
          have HBU : Hid (U.heap[ab]? = some (.cells cs 81 (0, 0))) := box_kept HB2.out hgU
          have HTU : Hid (U.heap[tx]? = some (.cells #[.int .i64 (q : Int), .int .i64 (s : Int)] 53 (0, 0))) := box_kept HT2.out hgU
          have HIU : Hid (I U j i) := HKP.out _ _ _ _ HI2.out hgU
          have HRI : Hid (IntsAt U rap (R i)) := pI.kept hgU
          have HPU : Hid (P.grownBy U none) := grown_trans HPX.out hgU
          have HM := show Hid _ from hm
          have HLF := show Hid _ from hlf
          have HUE := show Hid _ from hU
          have hiw : IntKind.i64.wrap ((i : Int) + 1) = (i : Int) + 1 := by rw [IntKind.wrap_i64]; omega
          rw [hU] at a0 a1 a2 a3 a4 a5 a6 a7 a8 a9 k0 k1 t0 t1
          clear hps pI hba hrap hrcp hlf hvi hm hU hgU hhU HB2 HT2 HI2 HPX
          by_cases hls : lf = (s : Int)
          · have hlb : (lf == (s : Int)) = true := by rw [hls]; exact beq_self_eq_true _
            have HLS := show Hid _ from hls
            clear hls
            go_wp2_with fail
            rw [← HUE.out]
            have HTH : Hid (Calls Tryz.prog 91 #[.agg #[.slice ta tn tc, .slice na nn nc, .slice la ln lc, .int .i64 st, .slice (some ⟨pb, po, none⟩) n pc, .slice (some ⟨nb, 0, none⟩) nn nn, .slice sa N sc, .slice (some ⟨xg, 0, none⟩) T xc, .slice l1 N lc1, .slice m1 N mc1], .int .i64 (q : Int), .slice rap m rcp] U fun e y => ∃ k, e = .returned (.slice (some ⟨k, 0, none⟩) (m + 1) (m + 1)) ∧ U.heap.size ≤ k ∧ ValAt y k (m + 1) 3 (fun i' => .int .i64 (stF es q (R i) i' : Int)) ∧ U.grownBy y none) := by
              have hTb := (HR.out U HPU.out).l
              rw [← HK.out.hN] at hTb
              rw [HM.out]
              exact uthr_any ta na la (some ⟨pb, po, none⟩) sa (some ⟨xg, 0, none⟩) l1 m1 tc nc lc pc sc xc lc1 mc1 n N T nb st U tn nn ln B S es lb hTb (fun r hr x hx => by rw [HK.out.hN]; exact ((HK.out.eok.each r (by rw [← HK.out.hN]; exact hr)).2.2 x hx).2) q hqN hn256 rap rcp (R i) HRI.out (by have := (HROW.out i hlt2).1 j hlt (by rw [HQS.out, ← HLF.out, HLS.out]); omega) (HROW.out i hlt2).2
            refine Calls.mono HTH.out ?_
            rintro e w3 ⟨tb, rfl, htb, hv3, hg3⟩
            have HB3 : Hid (w3.heap[ab]? = some (.cells cs 81 (0, 0))) := box_kept HBU.out hg3
            have HT3 : Hid (w3.heap[tx]? = some (.cells #[.int .i64 (q : Int), .int .i64 (s : Int)] 53 (0, 0))) := box_kept HTU.out hg3
            have HHD : Hid (Calls Tryz.prog 92 #[.int .i64 (j : Int), .int .i64 (i : Int), .slice (some ⟨tb, 0, none⟩) (m + 1) (m + 1), .pointer (some ⟨hb, 0, none⟩)] w3 fun e y => e = .returned (.tuple #[]) ∧ KeepH w3 y ∧ I y j (i + 1)) := by
              have h := HHAND.out U w3 j i q tb hlt hlt2 hqN (by rw [HQS.out, ← HLF.out, HLS.out]) HIU.out hg3 htb (by rw [← HM.out]; exact hv3)
              rw [← HM.out] at h
              exact h
            clear htb hv3 hg3 a0 a1 a2 a3 a4 a5 a6 a7 a8 a9 k0 k1 t0 t1 HBU HTU HIU HRI HPU HUE HTH p0 p1 p2
            go_wp2_with fail
            refine Calls.mono HHD.out ?_
            rintro e w4 ⟨rfl, hk4, hi4⟩
            have HB4 : Hid (w4.heap[ab]? = some (.cells cs 81 (0, 0))) := hk4.at HB3.out (by decide) (by decide)
            have HT4 : Hid (w4.heap[tx]? = some (.cells #[.int .i64 (q : Int), .int .i64 (s : Int)] 53 (0, 0))) := hk4.at HT3.out (by decide) (by decide)
            have HI4 : Hid (I w4 j (i + 1)) := hi4
            clear hk4 hi4 HB3 HT3 HHD
            go_wp2_with fail
            go_roundg (n - (i + 1))
            all_goals first
              | exact (show ∃ (i' : Nat), _ from ⟨i + 1, by omega, rfl, by go_num, HB4.out, HT4.out, HI4.out⟩)
              | (have := HGI.out; omega)
          · have hlb : (lf == (s : Int)) = false := beq_eq_false_iff_ne.2 hls
            have HIS : Hid (I U j (i + 1)) := HSKIP.out U j i q (s : Int) hlt hlt2 HQS.out (by rw [← HLF.out]; exact hls) HIU.out
            clear hls
            go_wp2_with fail
            rw [← HUE.out]
            go_roundg (n - (i + 1))
            all_goals first
              | exact (show ∃ (i' : Nat), _ from ⟨i + 1, by omega, rfl, by go_num, HBU.out, HTU.out, HIS.out⟩)
              | (have := HGI.out; omega)
        · have him : n = i := by omega
          have hid : decide (i < n) = false := decide_eq_false hlt2
          have hjw : IntKind.i64.wrap ((j : Int) + 1) = (j : Int) + 1 := by rw [IntKind.wrap_i64]; omega
          have HIN : Hid (I X (j + 1) 0) := HNEXT.out X j (by rw [him]; exact HI2.out)
          clear him
          go_wp2_with fail
          go_roundg (T - (j + 1))
          all_goals first
            | exact (show ∃ (j' : Nat), _ from ⟨j + 1, by omega, rfl, by go_num, HB2.out, HIN.out⟩)
            | (have := HGJ.out; omega)
    · have hjm : T = j := by omega
      subst hjm
      have hjd : decide (T < T) = false := decide_eq_false (by omega)
      go_wp2_with fail
      refine bodyPost_end (v := .tuple #[]) (by simp [results, Tryz.results59]) rfl ?_
      exact ⟨rfl, HI.out⟩
end

end Go.Proofs.YthoamlahbnphkaaGreat.J

/-
  relate: includes.
-/
namespace Go.Proofs.YthoamlahbnphkaaGreat.J
open Go.RowKit Go.Maps Go.Shelf

attribute [local go_sem] Oper.semAt_some

theorem foldQ_append (Q : Nat → List Int) (l m : List (Nat × Int)) : foldQ Q (l ++ m) = foldQ (foldQ Q l) m := by
  unfold foldQ
  rw [List.foldl_append]
theorem asc_len_from {hi : Int} : ∀ (l : List Int) (lo : Int), l.Pairwise (· < ·) → (∀ x ∈ l, lo ≤ x ∧ x < hi) → l.length ≤ (hi - lo).toNat
  | [], _, _, _ => Nat.zero_le _
  | a :: l, lo, h, hr => by
    rw [List.pairwise_cons] at h
    have h1 := asc_len_from l (a + 1) h.2 fun x hx => ⟨by have := h.1 x hx; omega, (hr x (List.mem_cons_of_mem _ hx)).2⟩
    have h2 := hr a (List.mem_cons_self ..)
    rw [List.length_cons]
    omega
theorem asc_len {l : List Int} {T : Nat} (h : l.Pairwise (· < ·)) (hr : ∀ x ∈ l, 0 ≤ x ∧ x < (T : Int)) : l.length ≤ T := by
  have := asc_len_from l 0 h hr
  omega
theorem inK_prefix {es : List (List (Nat × Nat))} {tl : List It} {tn : Nat} {F : Nat → Bool} {L : Nat → Int} {R : Nat → List Int} {k p : Nat} : ∀ d, inK es tl tn F L R k p <+: inK es tl tn F L R k (p + d)
  | 0 => List.prefix_refl _
  | d + 1 => (inK_prefix d).trans (by
    show _ <+: inK es tl tn F L R k ((p + d) + 1)
    rw [inK]
    exact List.prefix_append _ _)
theorem inI_len {es : List (List (Nat × Nat))} {tl : List It} {tn : Nat} {F : Nat → Bool} {n : Nat} {L : Nat → Int} {R : Nat → List Int} {k p T : Nat} (hk : k < T) (hp : p ≤ n) (f : Nat) : (foldQ (fun _ => []) (inT es tl tn F n L R k ++ inK es tl tn F L R k p) f).length ≤ T := by
  obtain ⟨d, rfl⟩ : ∃ d, n = p + d := ⟨n - p, by omega⟩
  have h0 : (inT es tl tn F (p + d) L R k ++ inK es tl tn F L R k p).Sublist (inT es tl tn F (p + d) L R (k + 1)) := by
    rw [inT]
    exact List.Sublist.append_left (inK_prefix d).sublist _
  obtain ⟨h1, h2⟩ := foldQ_spec _ ((inT_asc (es := es) (tl := tl) (tn := tn) (F := F) (n := p + d) (L := L) (R := R) (k + 1)).sublist h0) f
  refine asc_len h2 fun x hx => ?_
  obtain ⟨k', h3, h4, _⟩ := mem_inT.1 (h0.subset ((h1 x).1 hx))
  simp only at h4
  omega

section
variable (ta na la pa sa xa l1 m1 : Option Addr) (tc nc lc pc sc xc lc1 mc1 : Nat) (n N T nb : Nat) (st : Int) (w : World) (tn nn ln : Nat)

set_option maxRecDepth 100000 in
set_option maxHeartbeats 2000000 in
theorem uinc_any (P : World) (B S bx kb : Nat) (ks : List (List It)) (es : List (List (Nat × Nat))) (kv ev : Nat → Value) (tl : List It) (F : Nat → Bool) (lb mb : Nat → Nat) (L : Nat → Int) (R : Nat → List Int) (ra : Nat → Option Addr) (rc : Nat → Nat) (V : Nat → Int) (hK : RlOK N T S tn nn ks es tl)
    (hR : RaAt B P nb nn S (.slice sa N sc) (.slice xa T xc) (.slice l1 N lc1) (.slice m1 N mc1) ks es kv ev tl F lb mb) (hPr : ProdsAt P pa n L R ra rc V) (hn : n ≤ 1000) (hrow : RowsOK n T S tl L R)
    (hL : ∃ ua uc, LqP P w bx kb T (fun _ => []) ua uc) :
    Calls Tryz.prog 33 #[.agg #[.slice ta tn tc, .slice na nn nc, .slice la ln lc, .int .i64 st, .slice pa n pc, .slice (some ⟨nb, 0, none⟩) nn nn, .slice sa N sc, .slice xa T xc, .slice l1 N lc1, .slice m1 N mc1], .func (.func 57) #[] #[.pointer (some ⟨bx, 0, none⟩)]] w fun e y => e = .returned (.tuple #[]) ∧ ∃ ua uc, LqP P y bx kb T (foldQ (fun _ => []) (inT es tl tn F n L R T)) ua uc := by
  obtain ⟨X0, hX0⟩ : ∃ X, X = w.alloc (.cells #[.slice ta tn tc, .slice na nn nc, .slice la ln lc, .int .i64 st, .slice pa n pc, .slice (some ⟨nb, 0, none⟩) nn nn, .slice sa N sc, .slice xa T xc, .slice l1 N lc1, .slice m1 N mc1] 81) := ⟨_, rfl⟩
  obtain ⟨X1, hX1⟩ : ∃ X, X = X0.alloc (.cells #[.func (.func 57) #[] #[.pointer (some ⟨bx, 0, none⟩)]] 116) := ⟨_, rfl⟩
  have hg0 : w.grownBy X0 none := by rw [hX0]; exact World.grownBy_alloc _ _ none
  have hg1 : X0.grownBy X1 none := by rw [hX1]; exact World.grownBy_alloc _ _ none
  have hb0 : X0.heap[w.heap.size]? = some (.cells #[.slice ta tn tc, .slice na nn nc, .slice la ln lc, .int .i64 st, .slice pa n pc, .slice (some ⟨nb, 0, none⟩) nn nn, .slice sa N sc, .slice xa T xc, .slice l1 N lc1, .slice m1 N mc1] 81 (0, 0)) := by rw [hX0]; exact heap_alloc_last w _
  have hb1 : X1.heap[w.heap.size]? = some (.cells #[.slice ta tn tc, .slice na nn nc, .slice la ln lc, .int .i64 st, .slice pa n pc, .slice (some ⟨nb, 0, none⟩) nn nn, .slice sa N sc, .slice xa T xc, .slice l1 N lc1, .slice m1 N mc1] 81 (0, 0)) := box_kept hb0 hg1
  have hs0 : X0.heap.size = w.heap.size + 1 := by rw [hX0, World.size_alloc]
  have hb2 : X1.heap[w.heap.size + 1]? = some (.cells #[.func (.func 57) #[] #[.pointer (some ⟨bx, 0, none⟩)]] 116 (0, 0)) := by rw [hX1, ← hs0]; exact heap_alloc_last X0 _
  have HWY : Hid (Calls Tryz.prog 59 #[.agg #[.slice ta tn tc, .slice na nn nc, .slice la ln lc, .int .i64 st, .slice pa n pc, .slice (some ⟨nb, 0, none⟩) nn nn, .slice sa N sc, .slice xa T xc, .slice l1 N lc1, .slice m1 N mc1], .func (.func 60) #[] #[.pointer (some ⟨w.heap.size, 0, none⟩), .pointer (some ⟨w.heap.size + 1, 0, none⟩)]] X1 fun e y => e = .returned (.tuple #[]) ∧ (y.heap[w.heap.size]? = some (.cells #[.slice ta tn tc, .slice na nn nc, .slice la ln lc, .int .i64 st, .slice pa n pc, .slice (some ⟨nb, 0, none⟩) nn nn, .slice sa N sc, .slice xa T xc, .slice l1 N lc1, .slice m1 N mc1] 81 (0, 0)) ∧ y.heap[w.heap.size + 1]? = some (.cells #[.func (.func 57) #[] #[.pointer (some ⟨bx, 0, none⟩)]] 116 (0, 0)) ∧ ∃ ua uc, LqP P y bx kb T (foldQ (fun _ => []) (inT es tl tn F n L R T ++ inK es tl tn F L R T 0)) ua uc)) :=
    ways_inc ta na la pa sa xa l1 m1 tc nc lc pc sc xc lc1 mc1 n N T nb st X1 tn nn ln P B S ks es kv ev tl F lb mb L R ra rc V hK hR hPr hn hrow w.heap.size (w.heap.size + 1)
      (fun X k p => X.heap[w.heap.size]? = some (.cells #[.slice ta tn tc, .slice na nn nc, .slice la ln lc, .int .i64 st, .slice pa n pc, .slice (some ⟨nb, 0, none⟩) nn nn, .slice sa N sc, .slice xa T xc, .slice l1 N lc1, .slice m1 N mc1] 81 (0, 0)) ∧ X.heap[w.heap.size + 1]? = some (.cells #[.func (.func 57) #[] #[.pointer (some ⟨bx, 0, none⟩)]] 116 (0, 0)) ∧ ∃ ua uc, LqP P X bx kb T (foldQ (fun _ => []) (inT es tl tn F n L R k ++ inK es tl tn F L R k p)) ua uc)
      (fun X Y k p h hg => ⟨box_kept h.1 hg, box_kept h.2.1 hg, by obtain ⟨ua, uc, h1⟩ := h.2.2; exact ⟨ua, uc, h1.kept hg⟩⟩)
      (fun X k p h => by obtain ⟨ua, uc, h1⟩ := h.2.2; exact h1.grown)
      (fun Y0 Y k p q tb hk hp hq e h hg htb hv => by
        obtain ⟨h1, h2, ua, uc, h3⟩ := h
        refine (uincf_any ta na la pa sa xa l1 m1 tc nc lc pc sc xc lc1 mc1 n N T nb st Y tn nn ln P B S bx kb w.heap.size (w.heap.size + 1) tb ks es kv ev tl F lb mb L R ra rc V hK hR hPr k p q (R p).length hk hp hn rfl ((hrow p hp).1 k hk (by rw [e])) (hrow p hp).2 (stF_lt hq fun r hr x hx => by rw [hK.hN]; exact ((hK.eok.each r (by rw [← hK.hN]; exact hr)).2.2 x hx).2) (box_kept h1 hg) (box_kept h2 hg) (foldQ (fun _ => []) (inT es tl tn F n L R k ++ inK es tl tn F L R k p)) (fun f => by have a1 := inI_len (es := es) (tl := tl) (tn := tn) (F := F) (n := n) (L := L) (R := R) hk (Nat.le_of_lt hp) f; have a2 := hK.t40; have a3 := ((hrow p hp).1 k hk (by rw [e])); omega) (LqT.new h3 hg hv htb)).mono ?_
        rintro e' y ⟨rfl, hk2, hl2⟩
        refine ⟨rfl, hk2, hk2.at (box_kept h1 hg) (by decide) (by decide), hk2.at (box_kept h2 hg) (by decide) (by decide), ?_⟩
        obtain ⟨ua', uc', h4⟩ := hl2.lq
        refine ⟨ua', uc', ?_⟩
        have e2 : foldQ (fun _ => []) (inT es tl tn F n L R k ++ inK es tl tn F L R k (p + 1)) = foldQ (foldQ (fun _ => []) (inT es tl tn F n L R k ++ inK es tl tn F L R k p)) (inW tl tn F (stF es q (R p)) (R p) (k : Int) (R p).length) := by
          rw [inK, e, if_pos rfl, ← List.append_assoc, foldQ_append _ (inT es tl tn F n L R k ++ inK es tl tn F L R k p)]
          rfl
        rw [e2]
        exact h4)
      (fun X k p q s _ _ e hne h => by
        refine ⟨h.1, h.2.1, ?_⟩
        rw [inK, e, if_neg hne, List.append_nil]
        exact h.2.2)
      (fun X k h => by
        refine ⟨h.1, h.2.1, ?_⟩
        rw [inT, inK, List.append_nil]
        exact h.2.2)
      ⟨hb1, hb2, by obtain ⟨ua, uc, h⟩ := hL; exact ⟨ua, uc, (h.kept hg0).kept hg1⟩⟩
  obtain ⟨a0, a1, a2, a3, a4, a5, a6, a7, a8, a9⟩ := av_cells hb1
  rw [hX1, hX0] at a0 a1 a2 a3 a4 a5 a6 a7 a8 a9
  have HXE : Hid (X1 = (w.alloc (.cells #[.slice ta tn tc, .slice na nn nc, .slice la ln lc, .int .i64 st, .slice pa n pc, .slice (some ⟨nb, 0, none⟩) nn nn, .slice sa N sc, .slice xa T xc, .slice l1 N lc1, .slice m1 N mc1] 81)).alloc (.cells #[.func (.func 57) #[] #[.pointer (some ⟨bx, 0, none⟩)]] 116)) := by show _ = _; rw [hX1, hX0]
  clear hK hR hPr hrow hL hX0 hX1 hg0 hg1 hb0 hb1 hs0 hb2
  go_enter Tryz.func33, Tryz.ntmps33
  go_wp2_with fail
  rw [← HXE.out]
  refine Calls.mono HWY.out ?_
  rintro e y ⟨rfl, _, _, hl⟩
  have HL := show Hid _ from hl
  clear hl a0 a1 a2 a3 a4 a5 a6 a7 a8 a9
  go_wp2_with fail
  refine bodyPost_end (v := .tuple #[]) (by simp [results, Tryz.results33]) rfl ?_
  refine ⟨rfl, ?_⟩
  have h := HL.out
  rw [inK, List.append_nil] at h
  exact h
end

end Go.Proofs.YthoamlahbnphkaaGreat.J
