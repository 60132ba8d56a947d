import Derived.Test.YtkbjbijoekmooaaGreatQikankjcahjam
import Derived.Test.YtkbjbijoekmooaaGreatQbckhidlfkagi

/-
  relate: the law RelateBacks: where there is no automaton; the row of Backs, read.
-/
namespace Go.Proofs.YtkbjbijoekmooaaGreat.J
open Go.RowKit Go.Maps Go.Shelf

attribute [local go_sem] Oper.semAt_some

theorem bkV_at (n : Nat) (Q : Nat → List Int) (ua : Nat → Option Addr) (uc : Nat → Nat) : ∀ (l : List (Nat × Nat)) (e s p : Nat), l[e]? = some (s, p) → (bkV n Q ua uc l)[e * 3]? = some (.int .i64 (s : Int)) ∧ (bkV n Q ua uc l)[e * 3 + 1]? = some (.int .i64 (p : Int)) ∧ (bkV n Q ua uc l)[e * 3 + 2]? = some (.slice (ua (s * n + p)) (Q (s * n + p)).length (uc (s * n + p)))
  | [], e, s, p, h => by simp at h
  | x :: l, 0, s, p, h => by
    simp only [List.getElem?_cons_zero, Option.some.injEq] at h
    subst h
    exact ⟨rfl, rfl, rfl⟩
  | x :: l, e + 1, s, p, h => by
    simp only [List.getElem?_cons_succ] at h
    obtain ⟨h1, h2, h3⟩ := bkV_at n Q ua uc l e s p h
    have h4 : bkV n Q ua uc (x :: l) = [.int .i64 (x.1 : Int), .int .i64 (x.2 : Int), .slice (ua (x.1 * n + x.2)) (Q (x.1 * n + x.2)).length (uc (x.1 * n + x.2))] ++ bkV n Q ua uc l := rfl
    rw [h4]
    refine ⟨?_, ?_, ?_⟩
    · rw [List.getElem?_append_right (by simp; omega)]
      simp only [List.length_cons, List.length_nil]
      rw [show (e + 1) * 3 - (0 + 1 + 1 + 1) = e * 3 by omega]
      exact h1
    · rw [List.getElem?_append_right (by simp; omega)]
      simp only [List.length_cons, List.length_nil]
      rw [show (e + 1) * 3 + 1 - (0 + 1 + 1 + 1) = e * 3 + 1 by omega]
      exact h2
    · rw [List.getElem?_append_right (by simp; omega)]
      simp only [List.length_cons, List.length_nil]
      rw [show (e + 1) * 3 + 2 - (0 + 1 + 1 + 1) = e * 3 + 2 by omega]
      exact h3
theorem bkI_prefix (Q : Nat → List Int) (n : Nat) {i : Nat} : ∀ d, bkI Q n i <+: bkI Q n (i + d)
  | 0 => List.prefix_refl _
  | d + 1 => (bkI_prefix Q n d).trans (by
    show _ <+: bkI Q n ((i + d) + 1)
    rw [bkI]
    exact List.prefix_append _ _)
/-- The Back that stands behind those of the states below q and of j completed productions of q. -/
theorem bkI_at {Q : Nat → List Int} {n N q j p : Nat} {c : List Nat} (hq : q < N) (hc : bkJ Q n q n = c.map fun p => (q, p)) (hj : c[j]? = some p) : (bkI Q n N)[(bkI Q n q).length + j]? = some (q, p) := by
  obtain ⟨d, rfl⟩ : ∃ d, N = (q + 1) + d := ⟨N - (q + 1), by omega⟩
  have hl : j < c.length := by
    by_cases e : j < c.length
    · exact e
    · rw [List.getElem?_eq_none (by omega)] at hj; cases hj
  obtain ⟨t, ht⟩ := bkI_prefix Q n (i := q + 1) d
  have h1 : (bkI Q n (q + 1)).length = (bkI Q n q).length + c.length := by rw [bkI, List.length_append, hc, List.length_map]
  rw [← ht, List.getElem?_append_left (by omega), bkI, List.getElem?_append_right (by omega), show (bkI Q n q).length + j - (bkI Q n q).length = j by omega, hc, List.getElem?_map, hj]
  rfl

section
variable (ta na la pa : Option Addr) (tc nc lc pc : Nat) (n : Nat) (st : Int) (w : World) (tn nn ln : Nat)

set_option maxRecDepth 100000 in
set_option maxHeartbeats 1000000 in
theorem ubackL_bad (hAS : ∀ X, w.grownBy X none → Calls Tryz.prog 18 #[.agg #[.slice ta tn tc, .slice na nn nc, .slice la ln lc, .int .i64 st, .slice pa n pc]] X fun e y => e = .returned (.tuple #[.pointer none, .bool true]) ∧ X.grownBy y none) : Calls Tryz.prog 6 #[.agg #[.slice ta tn tc, .slice na nn nc, .slice la ln lc, .int .i64 st, .slice pa n pc]] w fun e y => e = .returned (.bool true) ∧ w.grownBy y none := by
  have HAS := show Hid _ from hAS
  have HP0 : Hid (PhAt w (w.alloc (.cells #[.slice ta tn tc, .slice na nn nc, .slice la ln lc, .int .i64 st, .slice pa n pc] 27)) w.heap.size #[.slice ta tn tc, .slice na nn nc, .slice la ln lc, .int .i64 st, .slice pa n pc]) := ⟨World.grownBy_alloc _ _ none, heap_alloc_last w _⟩
  clear hAS
  go_enter Tryz.func6, Tryz.ntmps6
  go_wp2_with fail
  refine Calls.mono (uawake_any _) ?_
  rintro e w1 ⟨rfl, hg1⟩
  have HP1 : Hid (PhAt w w1 w.heap.size #[.slice ta tn tc, .slice na nn nc, .slice la ln lc, .int .i64 st, .slice pa n pc]) := HP0.out.kept hg1
  clear hg1 HP0
  obtain ⟨k0, k1, k2, k3, k4⟩ := HP1.out.cells
  go_wp2_with fail
  refine Calls.mono (HAS.out _ HP1.out.grown) ?_
  rintro e w2 ⟨rfl, hg2⟩
  have HG2 : Hid (w.grownBy w2 none) := grown_trans HP1.out.grown hg2
  clear hg2 HP1 k0 k1 k2 k3 k4
  go_wp2_with fail
  go_ret
  exact ⟨rfl, HG2.out⟩
end

end Go.Proofs.YtkbjbijoekmooaaGreat.J

/-
  relate: the law RelateBacks, walked.
-/
namespace Go.Proofs.YtkbjbijoekmooaaGreat.J
open Go.RowKit Go.Maps Go.Shelf

attribute [local go_sem] Oper.semAt_some

section
variable (ta na la pa : Option Addr) (tc nc lc pc : Nat) (n : Nat) (st : Int) (w : World) (tn nn ln : Nat)

set_option maxRecDepth 100000 in
set_option maxHeartbeats 8000000 in
theorem ubackL_ok (N T : Nat) (ks : List (List It)) (es : List (List (Nat × Nat))) (tl : List It) (F : Nat → Bool) (Q : Nat → List Int) (L : Nat → Int) (R : Nat → List Int) (ra : Nat → Option Addr) (rc : Nat → Nat) (V : Nat → Int) (CL : Nat → List It) (hN : N = ks.length) (hN2 : N ≤ 256) (hT : T = tl.length) (hT4 : T ≤ 40000) (hn0 : 0 < n) (hPr : ProdsAt w pa n L R ra rc V)
    (hAS : ∀ X, w.grownBy X none → Calls Tryz.prog 18 #[.agg #[.slice ta tn tc, .slice na nn nc, .slice la ln lc, .int .i64 st, .slice pa n pc]] X fun e y => UAskTold ta na la pa tc nc lc pc n st tn nn ln tl F X e y)
    (hLB : ∀ X, w.grownBy X none → Calls Tryz.prog 14 #[.agg #[.slice ta tn tc, .slice na nn nc, .slice la ln lc, .int .i64 st, .slice pa n pc]] X fun e y => BkTold N n Q X e y)
    (hBU : ∀ X, w.grownBy X none → Calls Tryz.prog 22 #[.agg #[.slice ta tn tc, .slice na nn nc, .slice la ln lc, .int .i64 st, .slice pa n pc]] X fun e y => ∃ sa sc kv ev, e = .returned (.tuple #[.agg #[.slice sa ks.length sc, .int .i64 (askN es : Int), .int .i64 (ks.length : Int)], .int .i64 0]) ∧ AutP X.heap.size y (.slice sa ks.length sc) ks (elF es) kv ev ∧ X.grownBy y none)
    (hCO : ∀ X a' c' q, w.grownBy X none → q < N → ItsAt X a' (ks.getD q []) → (a' = none → (ks.getD q []).length = 0 ∧ c' = 0) → Calls Tryz.prog 23 #[.agg #[.slice ta tn tc, .slice na nn nc, .slice la ln lc, .int .i64 st, .slice pa n pc], .slice a' (ks.getD q []).length c'] X fun e y => ItsErr (CL q) 0 X e y)
    (hCB : ∀ q, q < N → (CL q).length ≤ 3354001 ∧ ∀ x ∈ CL q, ∃ p d : Nat, x = ((p : Int), (d : Int)) ∧ p < n) (hWE : EsOK ks es)
    (hBK : ∀ q, q < N → bkJ Q n q n = (cmT n R (CL q)).map fun p => (q, p))
    (hSP : ∀ q p, q < N → p < n → p ∈ cmT n R (CL q) → (Q (q * n + p)).length ≤ 40000 ∧ 0 < (Q (q * n + p)).length ∧ (Q (q * n + p)).Pairwise (· < ·) ∧ (∀ x ∈ Q (q * n + p), ∃ k qk : Nat, x = (k : Int) ∧ k < T ∧ tl.getD k (0, 0) = ((qk : Int), L p) ∧ qk < N ∧ wayF es (some (qk : Int)) (R p) = some (q : Int)) ∧ ((R p).length = 0 → (Q (q * n + p)).length = 1)) :
    Calls Tryz.prog 6 #[.agg #[.slice ta tn tc, .slice na nn nc, .slice la ln lc, .int .i64 st, .slice pa n pc]] w fun e y => e = .returned (.bool true) ∧ w.grownBy y none := by
  have HAS := show Hid _ from hAS
  have HLB := show Hid _ from hLB
  have HBU := show Hid _ from hBU
  have HCO := show Hid _ from hCO
  have HCB := show Hid _ from hCB
  have HWE := show Hid _ from hWE
  have HBK := show Hid _ from hBK
  have HSP := show Hid _ from hSP
  have HT := show Hid _ from hT
  have HN := show Hid _ from hN
  have HRB := show Hid _ from gright hPr
  obtain ⟨pb, po, rfl, hps⟩ := prods_at hPr hn0
  have HPS : Hid (∀ X, w.grownBy X none → ∀ k, k < n → X.cell? ⟨pb, po + k * 3, none⟩ = some (.int .i64 (L k)) ∧ X.cell? ⟨pb, po + k * 3 + 1, none⟩ = some (.slice (ra k) (R k).length (rc k)) ∧ X.cell? ⟨pb, po + k * 3 + 2, none⟩ = some (.int .i64 (V k)) ∧ IntsAt X (ra k) (R k)) := fun X hX k hk => ⟨hX.cell (hps k hk).1 (by simp), hX.cell (hps k hk).2.1 (by simp), hX.cell (hps k hk).2.2.1 (by simp), (hps k hk).2.2.2.kept hX⟩
  have HP0 : Hid (PhAt w (w.alloc (.cells #[.slice ta tn tc, .slice na nn nc, .slice la ln lc, .int .i64 st, .slice (some ⟨pb, po, none⟩) n pc] 27)) w.heap.size #[.slice ta tn tc, .slice na nn nc, .slice la ln lc, .int .i64 st, .slice (some ⟨pb, po, none⟩) n pc]) := ⟨World.grownBy_alloc _ _ none, heap_alloc_last w _⟩
  clear hAS hLB hBU hCO hCB hWE hBK hSP hPr hps
  go_enter Tryz.func6, Tryz.ntmps6
  go_wp2_with fail
  refine Calls.mono (uawake_any _) ?_
  rintro e w1 ⟨rfl, hg1⟩
  have HP1 : Hid (PhAt w w1 w.heap.size #[.slice ta tn tc, .slice na nn nc, .slice la ln lc, .int .i64 st, .slice (some ⟨pb, po, none⟩) n pc]) := HP0.out.kept hg1
  clear hg1 HP0
  obtain ⟨k0, k1, k2, k3, k4⟩ := HP1.out.cells
  go_wp2_with fail
  refine Calls.mono (HAS.out _ HP1.out.grown) ?_
  rintro e w2 ⟨wb, a, c, nb, rfl, hwb, hrow, hnul, hg2⟩
  rw [← hT] at hwb hrow
  have HP2 : Hid (PhAt w w2 w.heap.size #[.slice ta tn tc, .slice na nn nc, .slice la ln lc, .int .i64 st, .slice (some ⟨pb, po, none⟩) n pc]) := HP1.out.kept hg2
  have HWB := show Hid _ from hwb
  have HROW : Hid (w2.ownsRow w.heap.size 53 2 (.slice a T c) T (itsV tl)) := owns_base hrow HP1.out.grown.size
  clear hg2 HP1 k0 k1 k2 k3 k4 hwb hrow hnul HAS hT
  obtain ⟨k0, k1, k2, k3, k4⟩ := HP2.out.cells
  go_wp2_with fail
  refine Calls.mono (HLB.out _ HP2.out.grown) ?_
  rintro e w3 ⟨P, ba, bc, bx, kb, rb, ua, uc, hP, rfl, hL, hbo⟩
  have hg3 := grown_trans hP hL.grown
  have HP3 : Hid (PhAt w w3 w.heap.size #[.slice ta tn tc, .slice na nn nc, .slice la ln lc, .int .i64 st, .slice (some ⟨pb, po, none⟩) n pc]) := HP2.out.kept hg3
  have HWB3 := show Hid _ from box_kept HWB.out hg3
  have HROW3 := show Hid _ from keep0 HROW.out hg3
  obtain ⟨M, hM⟩ : ∃ M, M = (bkI Q n N).length := ⟨_, rfl⟩
  have HM := show Hid _ from hM
  rw [← hM] at hbo ⊢
  have HBO := show Hid _ from hbo
  have HIN : Hid (∀ f, f < N * n → IntsAt w3 (ua f) (Q f)) := fun f hf => ints_of (hL.own f hf)
  clear hP hL hg3 hbo hM k0 k1 k2 k3 k4 HP2 HWB HROW HLB
  obtain ⟨k0, k1, k2, k3, k4⟩ := HP3.out.cells
  go_wp2_with fail
  refine Calls.mono (HBU.out _ HP3.out.grown) ?_
  rintro e w4 ⟨sa, sc, kv, ev, rfl, hAP, hg4⟩
  rw [← hN]
  rw [← hN] at hAP
  obtain ⟨W, hW⟩ : ∃ W, W = w4.alloc (.cells #[.slice sa N sc, .int .i64 (askN es : Int), .int .i64 (N : Int)] 59) := ⟨_, rfl⟩
  have hgW : w4.grownBy W none := by rw [hW]; exact World.grownBy_alloc _ _ none
  have hbW : W.heap[w4.heap.size]? = some (.cells #[.slice sa N sc, .int .i64 (askN es : Int), .int .i64 (N : Int)] 59 (0, 0)) := by rw [hW]; exact heap_alloc_last w4 _
  have hg3W := grown_trans hg4 hgW
  have HPW : Hid (PhAt w W w.heap.size #[.slice ta tn tc, .slice na nn nc, .slice la ln lc, .int .i64 st, .slice (some ⟨pb, po, none⟩) n pc]) := HP3.out.kept hg3W
  have HWBW := show Hid _ from box_kept HWB3.out hg3W
  have HROWW := show Hid _ from keep0 HROW3.out hg3W
  have HBOW := show Hid _ from keep0 HBO.out hg3W
  have HINW : Hid (∀ f, f < N * n → IntsAt W (ua f) (Q f)) := fun f hf => (HIN.out f hf).kept hg3W
  have HAPW : Hid (AutP w3.heap.size W (.slice sa N sc) ks (elF es) kv ev) := hAP.kept hgW
  have HABW := show Hid _ from hbW
  have HWE2 := show Hid _ from hW
  clear hgW hbW hg3W hW hg4 hAP HP3 HWB3 HROW3 HBO HIN HBU k0 k1 k2 k3 k4 hN
  go_wp2_with fail
  rw [← HWE2.out]
  clear HWE2
  obtain ⟨ab, hab⟩ : ∃ b, b = w4.heap.size := ⟨_, rfl⟩
  rw [← hab] at HABW ⊢
  clear hab
  go_loopg [10, 11] N (fun gk v10 v11 wr => ∃ (q : Nat), q ≤ N ∧ gk = N - q ∧ v11 = .int .i64 q ∧ v10 = .int .i64 ((bkI Q n q).length : Int) ∧ W.grownBy wr none)
  case atStart => exact ⟨0, Nat.zero_le _, rfl, rfl, rfl, grown_refl _ _⟩
  case round => as_aux_lemma =>
    obtain ⟨q, hq, hgq, rfl, rfl, hg⟩ := hrel
    have HGQ : Hid (gk = N - q) := hgq
    have HG : Hid (W.grownBy wr none) := hg
    clear hgq hg
    generalize wr = Y at *
    have HABC : Hid (∀ X, W.grownBy X none → X.cell? ⟨ab, 0, none⟩ = some (.slice sa N sc) ∧ X.cell? ⟨ab, 1, none⟩ = some (.int .i64 (askN es : Int)) ∧ X.cell? ⟨ab, 2, none⟩ = some (.int .i64 (N : Int))) := fun X hX => by
      have h := box_kept HABW.out hX
      refine ⟨?_, ?_, ?_⟩ <;> rw [cell_of_row _ _ _ _ _ _ h] <;> rfl
    have d0 := (HABC.out Y HG.out).1
    obtain ⟨eq, heq⟩ : ∃ e, e = (bkI Q n q).length := ⟨_, rfl⟩
    have HEQ := show Hid _ from heq
    rw [← heq]
    clear heq
    by_cases hlt : q < N
    · have hqd : decide (q < N) = true := decide_eq_true hlt
      have hq0 : (0 : Int) ≤ (q : Int) := by omega
      have hq1 : (q : Int) < (N : Int) := by omega
      have hqk : q < ks.length := by rw [← HN.out]; exact hlt
      obtain ⟨sg, sc', hsv, s0, _⟩ := (HAPW.out.kept HG.out).st hqk
      simp only [Value.slice.injEq] at hsv
      obtain ⟨rfl, -, rfl⟩ := hsv
      obtain ⟨ka, kc, hkv, hKI, hKN⟩ := HAPW.out.kerAt hqk
      obtain ⟨kl, hkl⟩ : ∃ x, x = (ks.getD q []).length := ⟨_, rfl⟩
      have HCC : Hid (∀ X, W.grownBy X none → Calls Tryz.prog 23 #[.agg #[.slice ta tn tc, .slice na nn nc, .slice la ln lc, .int .i64 st, .slice (some ⟨pb, po, none⟩) n pc], .slice ka kl kc] X fun e y => ItsErr (CL q) 0 X e y) := fun X hX => by
        rw [hkl]
        exact HCO.out X ka kc q (grown_trans HPW.out.grown hX) hlt (hKI.kept hX) hKN
      have HKS : Hid (∀ x, W.grownBy x none → (x.cell? ⟨w.heap.size, 0, none⟩ = some (.slice ta tn tc) ∧ x.cell? ⟨w.heap.size, 1, none⟩ = some (.slice na nn nc) ∧ x.cell? ⟨w.heap.size, 2, none⟩ = some (.slice la ln lc) ∧ x.cell? ⟨w.heap.size, 3, none⟩ = some (.int .i64 st) ∧ x.cell? ⟨w.heap.size, 4, none⟩ = some (.slice (some ⟨pb, po, none⟩) n pc)) ∧ x.cell? ⟨ab, 0, none⟩ = some (.slice (some ⟨sg, 0, none⟩) N sc) ∧ x.cell? ⟨sg, q * 2, none⟩ = some (.slice ka kl kc)) := fun x hx => by
        obtain ⟨sg', sc', hsv, h0, _⟩ := (HAPW.out.kept hx).st hqk
        simp only [Value.slice.injEq, Option.some.injEq, Addr.mk.injEq, and_true] at hsv
        refine ⟨(HPW.out.kept hx).cells, (HABC.out x hx).1, ?_⟩
        rw [hsv.1, h0, hkv, hkl]
      have HGc : Hid (W.grownBy Y none) := HG.out
      have HGd : Hid (W.grownBy Y.drew none) := grown_trans HG.out (grown_drewN Y 1)
      obtain ⟨⟨k0, k1, k2, k3, k4⟩, _, y0⟩ := HKS.out Y HG.out
      clear hkv hKI hKN hkl s0
      go_wp2_with fail
      go_region_held3 (fun x => (x.cell? ⟨w.heap.size, 0, none⟩ = some (.slice ta tn tc) ∧ x.cell? ⟨w.heap.size, 1, none⟩ = some (.slice na nn nc) ∧ x.cell? ⟨w.heap.size, 2, none⟩ = some (.slice la ln lc) ∧ x.cell? ⟨w.heap.size, 3, none⟩ = some (.int .i64 st) ∧ x.cell? ⟨w.heap.size, 4, none⟩ = some (.slice (some ⟨pb, po, none⟩) n pc)) ∧ x.cell? ⟨ab, 0, none⟩ = some (.slice (some ⟨sg, 0, none⟩) N sc) ∧ x.cell? ⟨sg, q * 2, none⟩ = some (.slice ka kl kc)) (first | exact HKS.out _ HGc.out | go_keep)
        ((first
          | (go_at_call 23; refine calls_at Y.drew (by with_reducible rfl) ?_; refine Calls.mono (HCC.out _ HGd.out) ?_; rintro e w5 ⟨ca, cc, rfl, ho5, hg5⟩; have HO5 := show Hid _ from ho5; have HGc : Hid (W.grownBy w5 none) := grown_trans HGd.out hg5; clear ho5 hg5)
          | fail))
      clear d0 k0 k1 k2 k3 k4 y0 HKS HCC HGd
      obtain ⟨ml, hml⟩ : ∃ x, x = (CL q).length := ⟨_, rfl⟩
      have HML := show Hid _ from hml
      have hml4 : ml ≤ 3354001 := by rw [hml]; exact (HCB.out q hlt).1
      have HG5 : Hid (W.grownBy w5 none) := HGc.out
      rw [← hml] at HO5 ⊢
      clear hml HGc
      go_wp2_with fail
      go_loopg [10, 14] ml (fun gk v10 v14 wr => ∃ (i : Nat), i ≤ ml ∧ gk = ml - i ∧ v14 = .int .i64 i ∧ v10 = .int .i64 ((eq + (cmT n R ((CL q).take i)).length : Nat) : Int) ∧ w5.grownBy wr none)
      case atStart => exact ⟨0, Nat.zero_le _, rfl, rfl, by simp [cmT], by first | exact grown_refl _ _ | exact grown_drewN _ _⟩
      case round => as_aux_lemma =>
        obtain ⟨i, hi, hgi, rfl, rfl, hg⟩ := hrel
        have HGI : Hid (gk = ml - i) := hgi
        have HG6 : Hid (w5.grownBy wr none) := hg
        clear hgi hg
        generalize wr = X at *
        obtain ⟨e, he⟩ : ∃ e, e = eq + (cmT n R ((CL q).take i)).length := ⟨_, rfl⟩
        have HE := show Hid _ from he
        rw [← he]
        clear he
        by_cases hlti : i < ml
        · have hid : decide (i < ml) = true := decide_eq_true hlti
          have hi0 : (0 : Int) ≤ (i : Int) := by omega
          have hi1 : (i : Int) < (ml : Int) := by omega
          have hil : i < (CL q).length := by rw [← HML.out]; exact hlti
          have hiw : IntKind.i64.wrap ((i : Int) + 1) = (i : Int) + 1 := by rw [IntKind.wrap_i64]; omega
          obtain ⟨p, d, hpd, hpn⟩ := (HCB.out q hlt).2 _ (getD_in (d := (0, 0)) hil)
          have HTK : Hid ((CL q).take (i + 1) = (CL q).take i ++ [((p : Int), (d : Int))]) := by
            show _ = _
            rw [List.take_succ_eq_append_getElem hil]
            rw [List.getD_eq_getElem?_getD, List.getElem?_eq_getElem hil] at hpd
            exact congrArg _ (congrArg (fun y => [y]) hpd)
          have HGX : Hid (W.grownBy X none) := grown_trans HG5.out HG6.out
          have hOX := HO5.out
          rw [HML.out] at hOX
          obtain ⟨cg, co, rfl, hcc⟩ : ∃ cg co, ca = some ⟨cg, co, none⟩ ∧ ∀ Z, w5.grownBy Z none → Z.cell? ⟨cg, co + i * 2, none⟩ = some (.int .i64 (p : Int)) ∧ Z.cell? ⟨cg, co + i * 2 + 1, none⟩ = some (.int .i64 (d : Int)) := by
            rcases ItsAt.of hOX with h | ⟨cg, co, e1, h⟩
            · rw [h] at hil; exact absurd hil (by simp)
            · refine ⟨cg, co, e1, fun Z hZ => ?_⟩
              have h2 := h i hil
              rw [hpd] at h2
              exact ⟨hZ.cell h2.1 (by simp), hZ.cell h2.2 (by simp)⟩
          obtain ⟨i0', i1'⟩ := hcc X HG6.out
          have HCI := show Hid _ from hcc
          have g4 := (HPW.out.kept HGX.out).cells.2.2.2.2
          clear hpd hOX hcc
          by_cases hp0 : p = 0
          · have HEC : Hid (eq + (cmT n R ((CL q).take (i + 1))).length = e) := by
              show _ = _
              rw [HTK.out, cmT_snoc, if_neg (by unfold cmB; simp [hp0]), List.append_nil, HE.out]
            have hd1 : decide ((p : Int) < 1) = true := decide_eq_true (by omega)
            have hd2 : decide (p < 1) = true := decide_eq_true (by omega)
            clear hp0
            go_wp2_with fail
            go_quiet (fail)
            go_wp2_with fail
            go_roundg (ml - (i + 1))
            all_goals first
              | exact (show ∃ (i' : Nat), _ from ⟨i + 1, by omega, rfl, by go_num, by rw [HEC.out], grown_trans HG6.out (grown_drewN _ _)⟩)
              | (have := HGI.out; omega)
          · have hd1 : decide ((p : Int) < 1) = false := decide_eq_false (by omega)
            have hd2 : decide (p < 1) = false := decide_eq_false (by omega)
            have hd3 : decide ((n : Int) ≤ (p : Int)) = false := decide_eq_false (by omega)
            have hd4 : decide (n ≤ p) = false := decide_eq_false (by omega)
            have hp2 : (0 : Int) ≤ (p : Int) := by omega
            have hp3 : (p : Int) < (n : Int) := by omega
            obtain ⟨q0, q1, q2, _⟩ := HPS.out X (HPW.out.kept HGX.out).grown p hpn
            obtain ⟨rl, hrl⟩ : ∃ x, x = (R p).length := ⟨_, rfl⟩
            have HRL := show Hid _ from hrl
            obtain ⟨rap, hrap⟩ : ∃ x, x = ra p := ⟨_, rfl⟩
            obtain ⟨rcp, hrcp⟩ : ∃ x, x = rc p := ⟨_, rfl⟩
            rw [← hrl, ← hrap, ← hrcp] at q1
            have HRA := show Hid _ from hrap
            clear hrl hrap hrcp
            by_cases hdl : d < rl
            · have HEC : Hid (eq + (cmT n R ((CL q).take (i + 1))).length = e) := by
                show _ = _
                rw [HTK.out, cmT_snoc, if_neg (by unfold cmB; simp only [Int.toNat_natCast, ← HRL.out, Bool.and_eq_true, decide_eq_true_eq]; omega), List.append_nil, HE.out]
              have hd5 : decide ((d : Int) < (rl : Int)) = true := decide_eq_true (by omega)
              have hd6 : decide (d < rl) = true := decide_eq_true hdl
              clear hdl
              go_wp2_with fail
              go_quiet (fail)
              go_wp2_with fail
              go_roundg (ml - (i + 1))
              all_goals first
                | exact (show ∃ (i' : Nat), _ from ⟨i + 1, by omega, rfl, by go_num, by rw [HEC.out], grown_trans HG6.out (grown_drewN _ _)⟩)
                | (have := HGI.out; omega)
            · have hd5 : decide ((d : Int) < (rl : Int)) = false := decide_eq_false (by omega)
              have hd6 : decide (d < rl) = false := decide_eq_false hdl
              have HCM : Hid (cmT n R ((CL q).take (i + 1)) = cmT n R ((CL q).take i) ++ [p]) := by
                show _ = _
                rw [HTK.out, cmT_snoc, if_pos (by unfold cmB; simp only [Int.toNat_natCast, ← HRL.out, Bool.and_eq_true, decide_eq_true_eq]; omega)]
                rfl
              have hcm : (cmT n R (CL q))[(cmT n R ((CL q).take i)).length]? = some p := by
                have h1 : CL q = (CL q).take (i + 1) ++ (CL q).drop (i + 1) := (List.take_append_drop _ _).symm
                have h2 : cmT n R (CL q) = cmT n R ((CL q).take (i + 1)) ++ cmT n R ((CL q).drop (i + 1)) := by
                  have h3 : ∀ a b : List It, cmT n R (a ++ b) = cmT n R a ++ cmT n R b := fun a b => by unfold cmT; rw [List.filter_append, List.map_append]
                  rw [← h3, ← h1]
                rw [h2, HCM.out, List.append_assoc, List.getElem?_append_right (Nat.le_refl _), Nat.sub_self]
                rfl
              have hat : (bkI Q n N)[e]? = some (q, p) := by
                rw [HE.out, HEQ.out]
                exact bkI_at hlt (HBK.out q hlt) hcm
              have heM : e < M := by
                rw [HM.out]
                by_cases h : e < (bkI Q n N).length
                · exact h
                · rw [List.getElem?_eq_none (by omega)] at hat; cases hat
              obtain ⟨sl1, sl2, sl3, sl4, sl5⟩ := HSP.out q p hlt hpn (List.mem_of_getElem? hcm)
              obtain ⟨f, hf⟩ : ∃ f, f = q * n + p := ⟨_, rfl⟩
              have hfN : f < N * n := by rw [hf]; exact idx_lt hlt hpn
              rw [← hf] at sl1 sl2 sl3 sl4 sl5
              obtain ⟨b1, b2, b3⟩ := bkV_at n Q ua uc _ _ _ _ hat
              rw [← hf] at b3
              obtain ⟨bg, bc', hbv, hbcell⟩ := owns_at HBOW.out (by omega)
              simp only [Value.slice.injEq] at hbv
              obtain ⟨rfl, -, -⟩ := hbv
              obtain ⟨un, hun⟩ : ∃ x, x = (Q f).length := ⟨_, rfl⟩
              obtain ⟨fa, hfa⟩ : ∃ x, x = ua f := ⟨_, rfl⟩
              obtain ⟨fc, hfc⟩ : ∃ x, x = uc f := ⟨_, rfl⟩
              have HBC : Hid (∀ Z, W.grownBy Z none → Z.cell? ⟨bg, e * 3, none⟩ = some (.int .i64 (q : Int)) ∧ Z.cell? ⟨bg, e * 3 + 1, none⟩ = some (.int .i64 (p : Int)) ∧ Z.cell? ⟨bg, e * 3 + 2, none⟩ = some (.slice fa un fc)) := fun Z hZ => by
                rw [hfa, hun, hfc]
                exact ⟨hZ.cell (hbcell _ _ b1) (by simp), hZ.cell (hbcell _ _ b2) (by simp), hZ.cell (hbcell _ _ b3) (by simp)⟩
              have HUI : Hid (∀ Z, W.grownBy Z none → IntsAt Z fa (Q f)) := fun Z hZ => by rw [hfa]; exact (HINW.out f hfN).kept hZ
              have HUN := show Hid _ from hun
              have HS4 := show Hid _ from sl4
              have HS3 := show Hid _ from sl3
              have HS5 := show Hid _ from sl5
              have hun0 : 0 < un := by rw [hun]; exact sl2
              have hun4 : un ≤ 40000 := by rw [hun]; exact sl1
              obtain ⟨c1, c2, c3⟩ := HBC.out X HGX.out
              have he0 : (0 : Int) ≤ (e : Int) := by omega
              have he1 : (e : Int) < (M : Int) := by omega
              have he2 : decide ((M : Int) ≤ (e : Int)) = false := decide_eq_false (by omega)
              have he3 : decide (M ≤ e) = false := decide_eq_false (by omega)
              have hqq : ((q : Int) != (q : Int)) = false := bne_self_eq_false _
              have hqq2 : (q != q) = false := bne_self_eq_false _
              have hpp : ((p : Int) != (p : Int)) = false := bne_self_eq_false _
              have hpp2 : (p != p) = false := bne_self_eq_false _
              have hu0 : ((un : Int) == 0) = false := beq_eq_false_iff_ne.2 (by omega)
              have hu1 : (un == 0) = false := beq_eq_false_iff_ne.2 (by omega)
              obtain ⟨lf, hlf⟩ : ∃ x, x = L p := ⟨_, rfl⟩
              obtain ⟨vp, hvp⟩ : ∃ x, x = V p := ⟨_, rfl⟩
              rw [← hlf] at q0
              rw [← hvp] at q2
              have HLF := show Hid _ from hlf
              clear hf hcm hat sl1 sl2 sl3 sl4 sl5 b1 b2 b3 hbcell hun hfa hfc hlf hvp hdl hp0
              go_wp2_with fail
              go_quiet (fail)
              have hv1 := grown_drewN X nq
              generalize X.drewN nq = V1 at hv1 ⊢
              have HV1 := show Hid _ from hv1
              clear hv1
              replace g4 := HV1.out.cell g4 (by simp)
              replace i0' := HV1.out.cell i0' (by simp)
              replace i1' := HV1.out.cell i1' (by simp)
              replace q0 := HV1.out.cell q0 (by simp)
              replace q1 := HV1.out.cell q1 (by simp)
              replace q2 := HV1.out.cell q2 (by simp)
              replace c1 := HV1.out.cell c1 (by simp)
              replace c2 := HV1.out.cell c2 (by simp)
              replace c3 := HV1.out.cell c3 (by simp)
              go_wp2_with fail
              go_quiet (fail)
              have hv2 := grown_drewN V1 nq
              generalize V1.drewN nq = V2 at hv2 ⊢
              have HV2 := show Hid _ from grown_trans HV1.out hv2
              replace g4 := hv2.cell g4 (by simp)
              replace i0' := hv2.cell i0' (by simp)
              replace q0 := hv2.cell q0 (by simp)
              replace q1 := hv2.cell q1 (by simp)
              replace q2 := hv2.cell q2 (by simp)
              clear hv2 c1 c2 c3 i1' HV1
              have m4 := fun o => (World.grownBy_alloc V2 o none).cell g4 (by simp)
              have mi := fun o => (World.grownBy_alloc V2 o none).cell i0' (by simp)
              have mq0 := fun o => (World.grownBy_alloc V2 o none).cell q0 (by simp)
              have mq1 := fun o => (World.grownBy_alloc V2 o none).cell q1 (by simp)
              have mq2 := fun o => (World.grownBy_alloc V2 o none).cell q2 (by simp)
              have hpi0 : (0 : Int) ≤ (p : Int) := by omega
              go_wp2_with fail
              go_region_held3 (fun x => x.cell? ⟨w.heap.size, 4, none⟩ = some (.slice (some ⟨pb, po, none⟩) n pc) ∧ x.cell? ⟨cg, co + i * 2, none⟩ = some (.int .i64 (p : Int)) ∧ x.cell? ⟨pb, po + p * 3, none⟩ = some (.int .i64 lf) ∧ x.cell? ⟨pb, po + p * 3 + 1, none⟩ = some (.slice rap rl rcp) ∧ x.cell? ⟨pb, po + p * 3 + 2, none⟩ = some (.int .i64 vp)) (first | exact ⟨g4, i0', q0, q1, q2⟩ | exact ⟨m4 _, mi _, mq0 _, mq1 _, mq2 _⟩ | go_keep) (fail)
              obtain ⟨U, hU⟩ : ∃ U, U = (V2.alloc (.cells #[.int .i64 lf, .slice rap rl rcp, .int .i64 vp] 71)).drew := ⟨_, rfl⟩
              have hUV : V2.grownBy U none := by rw [hU]; exact grown_trans (World.grownBy_alloc _ _ none) (grown_drewN _ 1)
              have HPB : Hid (U.heap[V2.heap.size]? = some (.cells #[.int .i64 lf, .slice rap rl rcp, .int .i64 vp] 71 (0, 0))) := by rw [hU]; exact box_kept (heap_alloc_last V2 _) (grown_drewN _ 1)
              have HUG : Hid (w5.grownBy U none) := grown_trans HG6.out (grown_trans HV2.out hUV)
              have HGU : Hid (W.grownBy U none) := grown_trans HG5.out HUG.out
              rw [← hU]
              obtain ⟨xb, hxb⟩ : ∃ b, b = V2.heap.size := ⟨_, rfl⟩
              rw [← hxb] at HPB ⊢
              have HPX0 : Hid (∀ x, U.grownBy x none → x.cell? ⟨xb, 0, none⟩ = some (.int .i64 lf) ∧ x.cell? ⟨xb, 1, none⟩ = some (.slice rap rl rcp)) := fun x hx => by
                have h := box_kept HPB.out hx
                refine ⟨?_, ?_⟩ <;> rw [cell_of_row _ _ _ _ _ _ h] <;> rfl
              have HWL : Hid (∀ x, W.grownBy x none → x.cell? ⟨wb, 5, none⟩ = some (.slice a T c)) := fun x hx => by
                rw [cell_of_row _ _ _ _ _ _ (box_kept HWBW.out hx)]; rfl
              clear hU hUV hxb m4 mi mq0 mq1 mq2 g4 i0' q0 q1 q2 HV2 hpi0
              go_wp2_with fail
              go_loopg [16] un (fun gk v16 wr => ∃ (k : Nat), k ≤ un ∧ gk = un - k ∧ v16 = .int .i64 k ∧ U.grownBy wr none)
              case atStart => exact ⟨0, Nat.zero_le _, rfl, rfl, grown_refl _ _⟩
              case round => as_aux_lemma =>
                obtain ⟨k, hk, hgk, rfl, hg⟩ := hrel
                have HGK3 : Hid (gk = un - k) := hgk
                have HGZ : Hid (U.grownBy wr none) := hg
                clear hgk hg
                generalize wr = Z at *
                have HWZ : Hid (W.grownBy Z none) := grown_trans HGU.out HGZ.out
                have HPX : Hid (∀ x, Z.grownBy x none → x.cell? ⟨xb, 0, none⟩ = some (.int .i64 lf) ∧ x.cell? ⟨xb, 1, none⟩ = some (.slice rap rl rcp)) := fun x hx => HPX0.out x (grown_trans HGZ.out hx)
                obtain ⟨c1, c2, c3⟩ := HBC.out Z HWZ.out
                by_cases hlk : k < un
                · rcases k with _ | k
                  · as_aux_lemma =>
                    have hkd : decide (0 < un) = true := decide_eq_true hlk
                    have hk0 : (0 : Int) ≤ (0 : Int) := by omega
                    have hk1 : (0 : Int) < (un : Int) := by omega
                    have hkl : 0 < (Q f).length := by rw [← HUN.out]; exact hlk
                    obtain ⟨kk, qk, hx, hkT, htl, hqN, hway⟩ := HS4.out _ (getD_in (d := 0) hkl)
                    obtain ⟨fb, fo, rfl, hfcs⟩ : ∃ fb fo, fa = some ⟨fb, fo, none⟩ ∧ ∀ x, Z.grownBy x none → ∀ i, i < (Q f).length → x.cell? ⟨fb, fo + i, none⟩ = some (.int .i64 ((Q f).getD i 0)) := by
                      rcases HUI.out Z HWZ.out with h | ⟨fb, fo, e1, h⟩
                      · rw [h] at hkl; exact absurd hkl (by simp)
                      · exact ⟨fb, fo, e1, fun x hx i hi => hx.cell (h i hi) (by simp)⟩
                    have r0 := hfcs Z (grown_refl _ _) 0 hkl
                    rw [hx, Nat.add_zero] at r0
                    have HFC := show Hid _ from hfcs
                    have htr : T = tl.length := HT.out
                    obtain ⟨lg, lc', hlv, hlc⟩ := owns_at HROWW.out (by omega)
                    simp only [Value.slice.injEq] at hlv
                    obtain ⟨rfl, -, -⟩ := hlv
                    have hti := itsV_at tl kk (by rw [← htr]; exact hkT)
                    rw [htl] at hti
                    have HLC : Hid (∀ x, W.grownBy x none → x.cell? ⟨lg, kk * 2, none⟩ = some (.int .i64 (qk : Int)) ∧ x.cell? ⟨lg, kk * 2 + 1, none⟩ = some (.int .i64 lf)) := fun x hx => by
                      rw [HLF.out]
                      exact ⟨hx.cell (hlc _ _ hti.1) (by simp), hx.cell (hlc _ _ hti.2) (by simp)⟩
                    have HWAY : Hid (∀ x, Z.grownBy x none → Calls Tryz.prog 24 #[.agg #[.slice (some ⟨sg, 0, none⟩) N sc, .int .i64 (askN es : Int), .int .i64 (N : Int)], .int .i64 (qk : Int), .slice rap rl rcp] x fun e y => e = .returned (.int .i64 (q : Int)) ∧ x.grownBy y none) := fun x hx => by
                      have hap := HAPW.out.kept (grown_trans HWZ.out hx)
                      have hri := (HPS.out x (HPW.out.kept (grown_trans HWZ.out hx)).grown p hpn).2.2.2
                      rw [← HRA.out] at hri
                      have hrb := HRB.out p hpn
                      have hm := rway_any (some ⟨sg, 0, none⟩) sc (askN es : Int) (N : Int) x w3.heap.size ks es kv ev (by rw [← HN.out]; exact hap) HWE.out qk (by rw [← HN.out]; exact hqN) rap rcp (R p) hri (by omega)
                      rw [← HN.out, ← HRL.out, hway] at hm
                      exact hm
                    have y0 := fun s : WBox (fun x => Z.grownBy x none) => (HWL.out s.w (grown_trans HWZ.out s.ok))
                    have y1 := fun s : WBox (fun x => Z.grownBy x none) => (HLC.out s.w (grown_trans HWZ.out s.ok)).1
                    have y2 := fun s : WBox (fun x => Z.grownBy x none) => (HLC.out s.w (grown_trans HWZ.out s.ok)).2
                    have y3 := fun s : WBox (fun x => Z.grownBy x none) => (HBC.out s.w (grown_trans HWZ.out s.ok)).2.2
                    have y4 := fun s : WBox (fun x => Z.grownBy x none) => (HPX.out s.w s.ok).1
                    have y5 := fun s : WBox (fun x => Z.grownBy x none) => (HPX.out s.w s.ok).2
                    have y6 := fun s : WBox (fun x => Z.grownBy x none) => (HABC.out s.w (grown_trans HWZ.out s.ok)).1
                    have y7 := fun s : WBox (fun x => Z.grownBy x none) => (HABC.out s.w (grown_trans HWZ.out s.ok)).2.1
                    have y8 := fun s : WBox (fun x => Z.grownBy x none) => (HABC.out s.w (grown_trans HWZ.out s.ok)).2.2
                    haveI hne : Nonempty (WBox (fun x => Z.grownBy x none)) := ⟨⟨_, grown_refl _ _⟩⟩
                    have K1 : Hid (∀ s : WBox (fun x => Z.grownBy x none), Calls Tryz.prog 24 #[.agg #[.slice (some ⟨sg, 0, none⟩) N sc, .int .i64 (askN es : Int), .int .i64 (N : Int)], .int .i64 (qk : Int), .slice rap rl rcp] s.w fun e w' => e = .returned (.int .i64 (q : Int)) ∧ ∃ s' : WBox (fun x => Z.grownBy x none), w' = s'.w) := fun s => calls_class ((HWAY.out s.w s.ok).mono fun e w' h => ⟨h.1, grown_trans s.ok h.2⟩)
                    have t1 : decide ((kk : Int) < 0) = false := decide_eq_false (by omega)
                    have t2 : decide ((T : Int) ≤ (kk : Int)) = false := decide_eq_false (by omega)
                    have t3 : decide (T ≤ kk) = false := decide_eq_false (by omega)
                    have t4 : (lf != lf) = false := bne_self_eq_false _
                    have t5 : ((q : Int) != (q : Int)) = false := bne_self_eq_false _
                    have t6 : (0 : Int) ≤ (kk : Int) := by omega
                    have t7 : (kk : Int) < (T : Int) := by omega
                    clear hx htl hway hti hlc htr hfcs hqN hkl
                    go_wp2_with fail
                    refine wp_region_class (p := fun x => Z.grownBy x none) (by kernel_rfl) (by kernel_rfl) (by first | exact grown_refl _ _ | exact grown_drewN _ _) ?_
                    repeat (go_big_quiet_step (first | (go_at_call 24; rename_i s; with_reducible exact K1.out s)))
                    refine wpQuiet_nil ?_
                    rintro _ ⟨s, rfl⟩
                    have HGS : Hid (U.grownBy s.w none) := grown_trans HGZ.out s.ok
                    go_wp2_with fail
                    go_roundg (un - (0 + 1))
                    all_goals first
                      | exact (show ∃ (k' : Nat), _ from ⟨0 + 1, by omega, rfl, by go_num, HGS.out⟩)
                      | (have := HGK3.out; omega)
                  · as_aux_lemma =>
                    have hkd : decide ((k + 1) < un) = true := decide_eq_true hlk
                    have hk0 : (0 : Int) ≤ ((k : Int) + 1) := by omega
                    have hk1 : ((k : Int) + 1) < (un : Int) := by omega
                    have hkl : (k + 1) < (Q f).length := by rw [← HUN.out]; exact hlk
                    obtain ⟨kk, qk, hx, hkT, htl, hqN, hway⟩ := HS4.out _ (getD_in (d := 0) hkl)
                    obtain ⟨fb, fo, rfl, hfcs⟩ : ∃ fb fo, fa = some ⟨fb, fo, none⟩ ∧ ∀ x, Z.grownBy x none → ∀ i, i < (Q f).length → x.cell? ⟨fb, fo + i, none⟩ = some (.int .i64 ((Q f).getD i 0)) := by
                      rcases HUI.out Z HWZ.out with h | ⟨fb, fo, e1, h⟩
                      · rw [h] at hkl; exact absurd hkl (by simp)
                      · exact ⟨fb, fo, e1, fun x hx i hi => hx.cell (h i hi) (by simp)⟩
                    have hk2 : ((k + 1 : Nat) : Int) = (k : Int) + 1 := by omega
                    have hprev : (Q f).getD k 0 < (kk : Int) := by
                      have h1 := List.pairwise_iff_getElem.1 HS3.out k (k + 1) (by omega) hkl (by omega)
                      rw [List.getD_eq_getElem?_getD, List.getElem?_eq_getElem hkl] at hx
                      rw [List.getD_eq_getElem?_getD, List.getElem?_eq_getElem (show k < (Q f).length by omega)]
                      have e2 : (Q f)[k + 1] = (kk : Int) := hx
                      rw [← e2]; exact h1
                    obtain ⟨pv, hpv⟩ : ∃ x, x = (Q f).getD k 0 := ⟨_, rfl⟩
                    rw [← hpv] at hprev
                    have hkl0 : k < (Q f).length := by omega
                    have yp := fun s : WBox (fun x => Z.grownBy x none) => hfcs s.w s.ok k hkl0
                    rw [← hpv] at yp
                    have t8 : decide ((kk : Int) ≤ pv) = false := decide_eq_false (by omega)
                    have t9 : decide ((0 : Int) < (k : Int) + 1) = true := decide_eq_true (by omega)
                    have t10 : decide (0 < k + 1) = true := decide_eq_true (by omega)
                    have t11 : IntKind.i64.wrap ((k : Int) + 1 - 1) = (k : Int) := by rw [IntKind.wrap_i64]; omega
                    have t12 : IntKind.i64.wrap (k : Int) = (k : Int) := by rw [IntKind.wrap_i64]; omega
                    have t13 : (k : Int) + 1 - 1 = (k : Int) := by omega
                    have t14 : (0 : Int) ≤ (k : Int) := by omega
                    have t15 : (k : Int) < (un : Int) := by omega
                    clear hpv hprev hkl0
                    have r0 := hfcs Z (grown_refl _ _) (k + 1) hkl
                    rw [hx] at r0
                    have HFC := show Hid _ from hfcs
                    have htr : T = tl.length := HT.out
                    obtain ⟨lg, lc', hlv, hlc⟩ := owns_at HROWW.out (by omega)
                    simp only [Value.slice.injEq] at hlv
                    obtain ⟨rfl, -, -⟩ := hlv
                    have hti := itsV_at tl kk (by rw [← htr]; exact hkT)
                    rw [htl] at hti
                    have HLC : Hid (∀ x, W.grownBy x none → x.cell? ⟨lg, kk * 2, none⟩ = some (.int .i64 (qk : Int)) ∧ x.cell? ⟨lg, kk * 2 + 1, none⟩ = some (.int .i64 lf)) := fun x hx => by
                      rw [HLF.out]
                      exact ⟨hx.cell (hlc _ _ hti.1) (by simp), hx.cell (hlc _ _ hti.2) (by simp)⟩
                    have HWAY : Hid (∀ x, Z.grownBy x none → Calls Tryz.prog 24 #[.agg #[.slice (some ⟨sg, 0, none⟩) N sc, .int .i64 (askN es : Int), .int .i64 (N : Int)], .int .i64 (qk : Int), .slice rap rl rcp] x fun e y => e = .returned (.int .i64 (q : Int)) ∧ x.grownBy y none) := fun x hx => by
                      have hap := HAPW.out.kept (grown_trans HWZ.out hx)
                      have hri := (HPS.out x (HPW.out.kept (grown_trans HWZ.out hx)).grown p hpn).2.2.2
                      rw [← HRA.out] at hri
                      have hrb := HRB.out p hpn
                      have hm := rway_any (some ⟨sg, 0, none⟩) sc (askN es : Int) (N : Int) x w3.heap.size ks es kv ev (by rw [← HN.out]; exact hap) HWE.out qk (by rw [← HN.out]; exact hqN) rap rcp (R p) hri (by omega)
                      rw [← HN.out, ← HRL.out, hway] at hm
                      exact hm
                    have y0 := fun s : WBox (fun x => Z.grownBy x none) => (HWL.out s.w (grown_trans HWZ.out s.ok))
                    have y1 := fun s : WBox (fun x => Z.grownBy x none) => (HLC.out s.w (grown_trans HWZ.out s.ok)).1
                    have y2 := fun s : WBox (fun x => Z.grownBy x none) => (HLC.out s.w (grown_trans HWZ.out s.ok)).2
                    have y3 := fun s : WBox (fun x => Z.grownBy x none) => (HBC.out s.w (grown_trans HWZ.out s.ok)).2.2
                    have y4 := fun s : WBox (fun x => Z.grownBy x none) => (HPX.out s.w s.ok).1
                    have y5 := fun s : WBox (fun x => Z.grownBy x none) => (HPX.out s.w s.ok).2
                    have y6 := fun s : WBox (fun x => Z.grownBy x none) => (HABC.out s.w (grown_trans HWZ.out s.ok)).1
                    have y7 := fun s : WBox (fun x => Z.grownBy x none) => (HABC.out s.w (grown_trans HWZ.out s.ok)).2.1
                    have y8 := fun s : WBox (fun x => Z.grownBy x none) => (HABC.out s.w (grown_trans HWZ.out s.ok)).2.2
                    haveI hne : Nonempty (WBox (fun x => Z.grownBy x none)) := ⟨⟨_, grown_refl _ _⟩⟩
                    have K1 : Hid (∀ s : WBox (fun x => Z.grownBy x none), Calls Tryz.prog 24 #[.agg #[.slice (some ⟨sg, 0, none⟩) N sc, .int .i64 (askN es : Int), .int .i64 (N : Int)], .int .i64 (qk : Int), .slice rap rl rcp] s.w fun e w' => e = .returned (.int .i64 (q : Int)) ∧ ∃ s' : WBox (fun x => Z.grownBy x none), w' = s'.w) := fun s => calls_class ((HWAY.out s.w s.ok).mono fun e w' h => ⟨h.1, grown_trans s.ok h.2⟩)
                    have t1 : decide ((kk : Int) < 0) = false := decide_eq_false (by omega)
                    have t2 : decide ((T : Int) ≤ (kk : Int)) = false := decide_eq_false (by omega)
                    have t3 : decide (T ≤ kk) = false := decide_eq_false (by omega)
                    have t4 : (lf != lf) = false := bne_self_eq_false _
                    have t5 : ((q : Int) != (q : Int)) = false := bne_self_eq_false _
                    have t6 : (0 : Int) ≤ (kk : Int) := by omega
                    have t7 : (kk : Int) < (T : Int) := by omega
                    clear hx htl hway hti hlc htr hfcs hqN hkl
                    go_wp2_with fail
                    refine wp_region_class (p := fun x => Z.grownBy x none) (by kernel_rfl) (by kernel_rfl) (by first | exact grown_refl _ _ | exact grown_drewN _ _) ?_
                    repeat (go_big_quiet_step (first | (go_at_call 24; rename_i s; with_reducible exact K1.out s)))
                    refine wpQuiet_nil ?_
                    rintro _ ⟨s, rfl⟩
                    have HGS : Hid (U.grownBy s.w none) := grown_trans HGZ.out s.ok
                    go_wp2_with fail
                    go_roundg (un - ((k + 1) + 1))
                    all_goals first
                      | exact (show ∃ (k' : Nat), _ from ⟨(k + 1) + 1, by omega, rfl, by go_num, HGS.out⟩)
                      | (have := HGK3.out; omega)
                · have hku : un = k := by omega
                  subst hku
                  have hkd : decide (un < un) = false := decide_eq_false (by omega)
                  have z0 := (HPX.out Z (grown_refl _ _)).1
                  have z1 := (HPX.out Z (grown_refl _ _)).2
                  have HEN : Hid (eq + (cmT n R ((CL q).take (i + 1))).length = e + 1) := by
                    show _ = _
                    rw [HCM.out, List.length_append, List.length_singleton, HE.out]; omega
                  have hMx : M ≤ 9223372036854775807 := by
                    rcases HBOW.out.2 with ⟨_, h2⟩ | ⟨_, cap, _, _, _, _, h1, h2, _⟩
                    · omega
                    · unfold maxLen at h2; omega
                  have hew : IntKind.i64.wrap ((e : Int) + 1) = (e : Int) + 1 := by rw [IntKind.wrap_i64]; omega
                  clear hMx
                  by_cases hr0 : rl = 0
                  · obtain rfl : un = 1 := by rw [HUN.out]; exact HS5.out (by rw [← HRL.out]; exact hr0)
                    have hkl : 0 < (Q f).length := by rw [← HUN.out]; omega
                    obtain ⟨kk, qk, hx, hkT, htl, hqN, hway⟩ := HS4.out _ (getD_in (d := 0) hkl)
                    obtain ⟨fb, fo, rfl, hfcs⟩ : ∃ fb fo, fa = some ⟨fb, fo, none⟩ ∧ ∀ i, i < (Q f).length → Z.cell? ⟨fb, fo + i, none⟩ = some (.int .i64 ((Q f).getD i 0)) := by
                      rcases HUI.out Z HWZ.out with h | ⟨fb, fo, e1, h⟩
                      · rw [h] at hkl; exact absurd hkl (by simp)
                      · exact ⟨fb, fo, e1, h⟩
                    have r0 := hfcs 0 hkl
                    rw [hx, Nat.add_zero] at r0
                    have hqq3 : qk = q := by
                      have e3 : R p = [] := List.eq_nil_of_length_eq_zero (by rw [← HRL.out]; exact hr0)
                      rw [e3] at hway
                      have e4 : some (qk : Int) = some (q : Int) := hway
                      have e5 := Option.some.inj e4
                      omega
                    subst hqq3
                    have htr : T = tl.length := HT.out
                    obtain ⟨lg, lc', hlv, hlc⟩ := owns_at HROWW.out (by omega)
                    simp only [Value.slice.injEq] at hlv
                    obtain ⟨rfl, -, -⟩ := hlv
                    have hti := itsV_at tl kk (by rw [← htr]; exact hkT)
                    rw [htl] at hti
                    have l0 := HWZ.out.cell (hlc _ _ hti.1) (by simp)
                    have w0 := HWL.out Z HWZ.out
                    have t6 : (0 : Int) ≤ (kk : Int) := by omega
                    have t7 : (kk : Int) < (T : Int) := by omega
                    have u1 : ((1 : Int) != 1) = false := bne_self_eq_false _
                    have u2 : ((rl : Int) == 0) = true := by rw [hr0]; rfl
                    have u3 : (rl == 0) = true := by rw [hr0]; rfl
                    have u4 : ((qk : Int) != (qk : Int)) = false := bne_self_eq_false _
                    clear hx hkT htl hqN hway hfcs hti hlc htr hr0 hkl
                    go_wp2_with fail
                    go_quiet (fail)
                    go_wp2_with fail
                    go_roundg (ml - (i + 1))
                    all_goals first
                      | exact (show ∃ (i' : Nat), _ from ⟨i + 1, by omega, rfl, by go_num, by rw [HEN.out]; simp, grown_trans HUG.out (grown_trans HGZ.out (grown_drewN _ _))⟩)
                      | (have := HGI.out; omega)
                  · have u2 : ((rl : Int) == 0) = false := beq_eq_false_iff_ne.2 (by omega)
                    have u3 : (rl == 0) = false := beq_eq_false_iff_ne.2 hr0
                    clear hr0
                    go_wp2_with fail
                    go_quiet (fail)
                    go_wp2_with fail
                    go_roundg (ml - (i + 1))
                    all_goals first
                      | exact (show ∃ (i' : Nat), _ from ⟨i + 1, by omega, rfl, by go_num, by rw [HEN.out]; simp, grown_trans HUG.out (grown_trans HGZ.out (grown_drewN _ _))⟩)
                      | (have := HGI.out; omega)
        · have hid : decide (i < ml) = false := decide_eq_false hlti
          have HEN : Hid (e = (bkI Q n (q + 1)).length) := by
            show _ = _
            have h1 : (CL q).take i = CL q := List.take_of_length_le (by rw [← HML.out]; omega)
            rw [HE.out, h1, bkI, List.length_append, HBK.out q hlt, List.length_map, HEQ.out]
          have hqw : IntKind.i64.wrap ((q : Int) + 1) = (q : Int) + 1 := by rw [IntKind.wrap_i64]; omega
          go_wp2_with fail
          go_roundg (N - (q + 1))
          all_goals first
            | exact (show ∃ (q' : Nat), _ from ⟨q + 1, by omega, rfl, by go_num, by rw [HEN.out], grown_trans HG5.out HG6.out⟩)
            | (have := HGQ.out; omega)
    · have hqN : N = q := by omega
      have hqd : decide (q < N) = false := decide_eq_false hlt
      have hee : ((eq : Int) == (M : Int)) = true := by
        have : eq = M := by rw [HEQ.out, HM.out, hqN]
        rw [this]; exact beq_self_eq_true _
      clear hqN
      go_wp2_with fail
      go_ret
      exact ⟨rfl, (HPW.out.kept HG.out).grown⟩
end

end Go.Proofs.YtkbjbijoekmooaaGreat.J

/-
  relate: the law RelateBacks, for every grammar.
-/
namespace Go.Proofs.YtkbjbijoekmooaaGreat.J
open Go.RowKit Go.Maps Go.Shelf

/-- What looks back of a completed production. -/
theorem back_row {n : Nat} {L : Nat → Int} {R : Nat → List Int} {st : Int} {tn nn : Nat} {ks : List (List It)} {es : List (List (Nat × Nat))} (hO : RelOK n L R st tn nn ks es) (hau : autoF (GG tn n L R) (tn + nn) 256 = some (ks, es)) {q p : Nat} (hq : q < ks.length) (hp : p < n) (hm : p ∈ cmT n R (CLo tn n L R (ks.getD q []))) :
    (foldA (lbT es (trT tn es ks.length) n L R (trT tn es ks.length).length) (q * n + p)).length ≤ 40000 ∧ 0 < (foldA (lbT es (trT tn es ks.length) n L R (trT tn es ks.length).length) (q * n + p)).length ∧ (foldA (lbT es (trT tn es ks.length) n L R (trT tn es ks.length).length) (q * n + p)).Pairwise (· < ·) ∧ (∀ x ∈ foldA (lbT es (trT tn es ks.length) n L R (trT tn es ks.length).length) (q * n + p), ∃ k qk : Nat, x = (k : Int) ∧ k < (trT tn es ks.length).length ∧ (trT tn es ks.length).getD k (0, 0) = ((qk : Int), L p) ∧ qk < ks.length ∧ wayF es (some (qk : Int)) (R p) = some (q : Int)) ∧ ((R p).length = 0 → (foldA (lbT es (trT tn es ks.length) n L R (trT tn es ks.length).length) (q * n + p)).length = 1) := by
  obtain ⟨h1, h2, h3⟩ := backs_spec hO hau hq hp
  obtain ⟨l, hl⟩ : ∃ l, l = foldA (lbT es (trT tn es ks.length) n L R (trT tn es ks.length).length) (q * n + p) := ⟨_, rfl⟩
  rw [← hl] at h1 h2 h3 ⊢
  have hne : l ≠ [] := by
    refine h3.2 ?_
    unfold cmT at hm
    obtain ⟨x, hx, e⟩ := List.mem_map.1 hm
    obtain ⟨hx1, hx2⟩ := List.mem_filter.1 hx
    have hit := CLo_item (tn := tn) (L := L) (hO.aut.kok.each q hq).1 x hx1
    unfold itB at hit
    unfold cmB at hx2
    simp only [Bool.and_eq_true, decide_eq_true_eq] at hit hx2
    refine ⟨by omega, ?_⟩
    have e2 : ((p : Int), ((R p).length : Int)) = x := by
      subst e
      refine Prod.ext ?_ ?_
      · show ((x.1.toNat : Nat) : Int) = x.1; omega
      · show ((R x.1.toNat).length : Int) = x.2; omega
    rw [e2]
    exact hx1
  have h0 : 0 < l.length := by
    cases l with
    | nil => exact absurd rfl hne
    | cons a l => simp
  have hall : ∀ x ∈ l, ∃ k qk : Nat, x = (k : Int) ∧ k < (trT tn es ks.length).length ∧ (trT tn es ks.length).getD k (0, 0) = ((qk : Int), L p) ∧ qk < ks.length ∧ wayF es (some (qk : Int)) (R p) = some (q : Int) := fun x hx => by
    obtain ⟨k, qk, a1, a2, a3, a4⟩ := (h2 x).1 hx
    obtain ⟨q', s', b1, b2, _⟩ := hO.rl.at a2
    rw [a3] at b1
    simp only [Prod.mk.injEq] at b1
    exact ⟨k, qk, a1, a2, a3, by omega, a4⟩
  refine ⟨Nat.le_trans (asc_len h1 fun x hx => ?_) hO.rl.t40, h0, h1, hall, fun hr => ?_⟩
  · obtain ⟨k, _, a1, a2, _⟩ := hall x hx
    omega
  · by_cases hlen : l.length = 1
    · exact hlen
    · exfalso
      have hl2 : 1 < l.length := by omega
      have hlt := List.pairwise_iff_getElem.1 h1 0 1 h0 hl2 (by omega)
      have hR : R p = [] := List.eq_nil_of_length_eq_zero hr
      obtain ⟨k, qk, a1, a2, a3, a4, a5⟩ := hall _ (List.getElem_mem h0)
      obtain ⟨k', qk', b1, b2, b3, b4, b5⟩ := hall _ (List.getElem_mem hl2)
      rw [hR] at a5 b5
      have e1 : some (qk : Int) = some (q : Int) := a5
      have e2 : some (qk' : Int) = some (q : Int) := b5
      have e3 := Option.some.inj e1
      have e4 := Option.some.inj e2
      have e5 : qk = qk' := by omega
      subst e5
      have e6 := getD_some' a2 a3
      have e7 := getD_some' b2 b3
      have e8 := (List.getElem?_inj a2 hO.nodup).1 (e6.trans e7.symm)
      omega

section
variable (ta na la pa : Option Addr) (tc nc lc pc : Nat) (ts : List (ByteArray × Int)) (ns : List ByteArray) (lv : List Int) (n : Nat) (L : Nat → Int) (R : Nat → List Int) (ra : Nat → Option Addr) (rc : Nat → Nat) (V : Nat → Int) (st : Int) (w : World) (tn nn ln : Nat) (hlen : ts.length = tn ∧ ns.length = nn ∧ lv.length = ln) (hG : GAt w ta na la pa tc nc lc pc ts ns lv n L R ra rc V) (hts : ∀ t ∈ ts, t.1.size ≤ 140737488355328) (hns : ∀ s ∈ ns, s.size ≤ 140737488355328)
include hlen hG hts hns
theorem uback_core : Calls Tryz.prog 6 #[.agg #[.slice ta tn tc, .slice na nn nc, .slice la ln lc, .int .i64 st, .slice pa n pc]] w fun e y => e = .returned (.bool true) ∧ w.grownBy y none := by
  by_cases hc : closedOK ts ns lv st n L R V
  · cases hau : autoF (GG tn n L R) (tn + nn) 256 with
    | none => exact ubackL_bad ta na la pa tc nc lc pc n st w tn nn ln (askedBad ta na la pa tc nc lc pc ts ns lv n L R ra rc V st w tn nn ln hlen hG hts hns (.inr ⟨hc, hau⟩))
    | some p =>
      obtain ⟨ks, es⟩ := p
      have hO := relOK ta na la pa tc nc lc pc ts ns lv n L R ra rc V st w tn nn ln hlen hG hc hau
      refine ubackL_ok ta na la pa tc nc lc pc n st w tn nn ln ks.length (trT tn es ks.length).length ks es (trT tn es ks.length) (nulB tn n L R) (foldA (lbT es (trT tn es ks.length) n L R (trT tn es ks.length).length)) L R ra rc V (fun q => CLo tn n L R (ks.getD q [])) rfl hO.eok.le rfl hO.rl.t40 hO.may.p0 hG.prods (askedOk ta na la pa tc nc lc pc ts ns lv n L R ra rc V st w tn nn ln hlen hG hts hns hc hau) (rel_lookback ta na la pa tc nc lc pc ts ns lv n L R ra rc V st w tn nn ln hlen hG hc hau) (build_some ta na la pa tc nc lc pc ts ns lv n L R ra rc V st w tn nn ln hlen hG hc hau) (fun X a' c' q hX hq hI hn => ?_) (fun q hq => ⟨?_, fun x hx => ?_⟩) hO.eok (fun q hq => bkJ_cm hO hau hq) (fun q p hq hp hm => back_row hO hau hq hp hm)
      · refine (closureOk ta na la pa tc nc lc pc ts ns lv n L R ra rc V st X tn nn ln hlen (hG.kept hX) a' c' (ks.getD q []) hI (by have := hO.klen q hq; omega) hn hc (hO.aut.kok.each q hq).1).mono ?_
        rintro e y ⟨l, h1, h2, h3⟩
        rw [CLo_eq h1 h2]
        exact h3
      · have h1 := (hO.clo q hq).2
        have h2 := hO.klen q hq
        show (CLo tn n L R (ks.getD q [])).length ≤ _
        omega
      · have hit := CLo_item (tn := tn) (L := L) (hO.aut.kok.each q hq).1 x hx
        unfold itB at hit
        simp only [Bool.and_eq_true, decide_eq_true_eq] at hit
        exact ⟨x.1.toNat, x.2.toNat, Prod.ext (by show x.1 = ((x.1.toNat : Nat) : Int); omega) (by show x.2 = ((x.2.toNat : Nat) : Int); omega), by omega⟩
  · exact ubackL_bad ta na la pa tc nc lc pc n st w tn nn ln (askedBad ta na la pa tc nc lc pc ts ns lv n L R ra rc V st w tn nn ln hlen hG hts hns (.inl hc))
end

end Go.Proofs.YtkbjbijoekmooaaGreat.J
